/- WordNumbers: every call of one type. Own work. -/
import Derived.Test.YtkhokajagglogaaGreatWnNumU64
import Derived.Test.YtkhokajagglogaaGreatWnSt
namespace Go.Proofs.YtkhokajagglogaaGreat.U64
open Go.RowKit Go.Shelf
theorem get_any {zs : List Nat} {v : Value} {w : World} (hv : Sl w v zs) :
    Calls Tryz.prog 38 #[v] w fun e w' => e = .returned (.tuple #[.int .u64 ((getN 8 zs).1 : Nat), .bool (getN 8 zs).2]) ∧ w' = w := by
  by_cases h : 8 ≤ zs.length
  · rw [show getN 8 zs = (Pl.num 8 zs, true) from if_pos h]
    exact get_yes hv h
  · rw [show getN 8 zs = (0, false) from if_neg h]
    exact get_no hv (by omega)
set_option maxRecDepth 100000 in
set_option maxHeartbeats 4000000 in
theorem numbers_any {w0 w : World} {kb a b : Nat} {v : Value} {p : List Nat} (ha : a ≤ 18446744073709551615) (hb : b ≤ 18446744073709551615) (hp : p.length ≤ 2147483647) (hv : Sl w0 v p) (hk : Nb w0 kb (fun _ => False) w) :
    Calls Tryz.prog 8 #[.int .i64 8, .int .u64 (a : Int), .int .u64 (b : Int), v, .pointer (some ⟨kb, 0, none⟩)] w fun e w' => e = .returned (.bool true) ∧ Nb w0 kb (fun _ => False) w' := by
  have HV : Hid (Sl w0 v p) := hv
  have HN0 : Hid (Nb w0 kb (fun _ => False) w) := hk
  have HRo := Lib.hid (roomy_any (m := 165) (hv.below hk.below) hp)
  obtain ⟨ao, cap, rfl, hc1, hc2, _⟩ := id hv
  unfold maxLen at hc2
  clear hv hk
  go_enter Tryz.func8, Tryz.ntmps8
  go_wp2_with fail
  refine HRo.out.mono ?_
  rintro e w1 ⟨rfl, hr1, hb1⟩
  obtain ⟨g, hg⟩ : ∃ g, g = w.heap.size := ⟨_, rfl⟩
  rw [← hg] at hr1 ⊢
  have HR1 : Hid (Row w1 g (roomed p 165)) := hr1
  have HN1 : Hid (Nb w0 kb (fun k => k = g) w1) := ((HN0.out.fresh).sub (fun k e => by subst e; exact Nat.le_of_eq hg.symm)).of_below hb1
  have HG : Hid (w0.heap.size ≤ g) := hg ▸ HN0.out.size
  clear hr1 hb1 HRo HN0 hg
  have HNil : Hid (Own w1 w1.heap.size (.slice none 0 0) []) := own_nil _ _
  have HP1 : Hid (Sl w1 (.slice ao p.length cap) p) := HV.out.below HN1.out.below
  have HBy := Lib.hid (fun W => rBytes_any (s := 8) (n := a) (by decide) (by omega) W)
  have HLs : Hid (∀ z ∈ Pl.le 8 a, z < 256) := Pl.le_small _ _
  have HLl : Hid ((Pl.le 8 a).length = 8) := Pl.le_length _ _
  go_wp2_with (at_builtin; refine wpList_append_sl (v := .slice none 0 0) (.const (.slice none 0 0)) (.tmp 23) (by rfl) rfl rfl HNil.out rfl HP1.out (by simp only [List.length_nil]; omega) (Nat.le_refl _) ?_; intro v2 w2 h2 g2 l2; have HO2 : Hid (Own w2 w1.heap.size v2 p) := h2; have HB2 : Hid (Below w1.heap.size w1 w2) := (Below.refl _ _).grown g2 (Nat.le_refl _) (fun k hk => by cases hk); clear h2 g2 l2)
  refine (HBy.out w2).mono ?_
  rintro e w3 ⟨bv, rfl, ho3, hb3⟩
  have HO3 : Hid (Own w3 w1.heap.size v2 p) := HO2.out.below hb3
  have HB3 : Hid (Below w1.heap.size w1 w3) := HB2.out.trans (hb3.mono HB2.out.size)
  have HS3 : Hid (Sl w3 bv (Pl.le 8 a)) := ho3.sl HLs.out
  clear ho3 hb3 HO2 HB2 HNil HP1 HBy
  go_wp2_with (at_builtin; refine wpList_append_sl (v := v2) (.tmp 24) (.tmp 27) (by rfl) rfl rfl HO3.out rfl HS3.out (by rw [HLl.out]; omega) HB3.out.size ?_; intro v4 w4 h4 g4 l4; have HO4' : Hid (Own w4 w1.heap.size v4 (p ++ Pl.le 8 a)) := h4; have HB4 : Hid (Below w1.heap.size w1 w4) := HB3.out.grown g4 HB3.out.size (fun k hk => (HO3.out.lt k hk).1); clear h4 g4 l4)
  have hwl : (p ++ Pl.le 8 a).length = p.length + 8 := by rw [List.length_append, HLl.out]
  obtain ⟨g4, c4, rfl, hg41, hg42, hg43, hg44⟩ := HO4'.out.form (by omega)
  rw [hwl] at HO4' ⊢
  have HO4 : Hid (Own w4 w1.heap.size (.slice (some ⟨g4, 0, none⟩) (p.length + 8) c4) (p ++ Pl.le 8 a)) := HO4'
  have HWl : Hid ((p ++ Pl.le 8 a).length = p.length + 8) := hwl
  rw [hwl] at hg43
  unfold maxLen at hg44
  have HN4 := Lib.hid (HN1.out.of_below HB4.out)
  have HR4 := Lib.hid (HR1.out.below HB4.out)
  have HG4 : Hid (g < w1.heap.size) := HR1.out.lt
  clear hwl HO4' hg41 hg42 HO3 HS3 HB3 HB4 HN1 HR1
  go_wp2_with fail
  have HSmF : Hid (∀ z ∈ roomed p 165, z < 256) := roomed_small HV.out.small (m := 165) (by decide)
  have HRl : Hid ((roomed p 165).length = p.length + 80) := roomed_length p 165
  have HSmW : Hid (∀ z ∈ p ++ Pl.le 8 a, z < 256) := fun z hz => by
    rcases List.mem_append.1 hz with hz | hz
    · exact HV.out.small z hz
    · exact HLs.out z hz
  have HFull : Hid (∀ W, Row W g (roomed p 165) → Sl W (.slice (some ⟨g, 0, none⟩) (p.length + 80) (p.length + 80)) (roomed p 165)) := fun W hr => by
    have h := hr.sl HSmF.out 0 (p.length + 80) (p.length + 80) (by have := HRl.out; omega) (Nat.le_refl _) (by unfold maxLen; omega)
    rw [List.drop_zero, List.take_of_length_le (by have := HRl.out; omega)] at h
    exact h
  have HPart : Hid (∀ W, Row W g (roomed p 165) → Sl W (.slice (some ⟨g, 0, none⟩) p.length (p.length + 80)) p) := fun W hr => by
    have h := hr.sl HSmF.out 0 p.length (p.length + 80) (by have := HRl.out; omega) (by omega) (by unfold maxLen; omega)
    rw [List.drop_zero, roomed_take] at h
    exact h
  go_loopw [13] (fun iv wr => ∃ j : Nat, j ≤ 2 ∧ iv = .int .i64 (j : Int) ∧ Hid (Nb w0 kb (fun k => k = g) wr) ∧ Hid (Row wr g (roomed p 165)) ∧ Hid (Own wr w1.heap.size (.slice (some ⟨g4, 0, none⟩) (p.length + 8) c4) (p ++ Pl.le 8 a))) (fun iv _ => 2 - (intOf iv).toNat)
  case atStart => exact ⟨0, by omega, rfl, HN4, HR4, HO4⟩
  case round =>
    clear HN4 HR4 HO4
    obtain ⟨j, hj, rfl, HN, HR, HO⟩ := hrel
    by_cases hlt : j < 2
    · have d1 : decide ((j : Int) < 2) = true := decide_eq_true (by omega)
      have hw1 : IntKind.i64.wrap ((j : Int) + 1) = ((j + 1 : Nat) : Int) := by rw [IntKind.wrap_i64]; omega
      have HPu := Lib.hid (put_any (HPart.out wr HR.out) hp ha)
      go_wp2_with fail
      refine HPu.out.mono ?_
      rintro e w5 ⟨lv, rfl, ho5, hb5⟩
      obtain ⟨g5, c5, rfl, hg51, hg52, hg53, hg54⟩ := ho5.form (by rw [HWl.out]; omega)
      rw [HWl.out] at ho5 ⊢
      have HL5 := Lib.hid ho5
      have HN5 := Lib.hid ((HN.out.also).of_below hb5)
      have HR5 := Lib.hid (HR.out.below hb5)
      have HO5 := Lib.hid (HO.out.below hb5)
      have HGw : Hid (g < wr.heap.size) := HR.out.lt
      obtain ⟨nw, hnw⟩ : ∃ nw, nw = wr.heap.size := ⟨_, rfl⟩
      rw [← hnw] at HL5 HN5 HGw
      have HM5 := Lib.hid (same_any (HL5.out.sl HSmW.out) (HO5.out.sl HSmW.out))
      clear HPu ho5 hb5 HN HR HO hnw hg51 hg52 hg53 hg54
      go_wp2_with fail
      refine HM5.out.mono ?_
      rintro e w6 ⟨rfl, hb6⟩
      have HL6 := Lib.hid (HL5.out.below hb6)
      have HN6 := Lib.hid (HN5.out.of_below hb6)
      have HR6 := Lib.hid (HR5.out.below hb6)
      have HO6 := Lib.hid (HO5.out.below hb6)
      have HI6 := Lib.hid (intact_any (m := 165) (HFull.out w6 HR6.out) (HV.out.below HN6.out.below))
      clear HM5 HL5 HN5 HR5 HO5 hb6
      go_wp2_with fail
      refine HI6.out.mono ?_
      rintro e w7 ⟨rfl, hb7⟩
      have HL7 := Lib.hid (HL6.out.below hb7)
      have HN7 := Lib.hid (HN6.out.of_below hb7)
      have HR7 := Lib.hid (HR6.out.below hb7)
      have HO7 := Lib.hid (HO6.out.below hb7)
      have HK7 := Lib.hid (HN7.out.keepB HL7.out (Nat.le_trans HG.out (Nat.le_of_lt HGw.out)) (by rw [HWl.out]; omega) HSmW.out (fun k hk => .inr (HL7.out.lt k hk).1))
      clear HI6 HL6 HN6 HR6 HO6 hb7
      go_wp2_with fail
      refine HK7.out.mono ?_
      rintro e w8 ⟨rfl, hn8, ho8, hr8, hs8⟩
      have HN8 : Hid (Nb w0 kb (fun k => k = g) w8) := hn8.sub (fun k e => by
        subst e
        refine ⟨.inl rfl, fun e => ?_, HR7.out.lt⟩
        have := (HL7.out.lt _ e).1
        have := HGw.out
        omega)
      have HR8 := Lib.hid (hr8 _ _ HR7.out)
      have HO8 := Lib.hid (ho8 _ _ _ HO7.out)
      clear HK7 hn8 ho8 hr8 hs8
      go_wp2_with fail
      go_roundw
      case rel => exact ⟨j + 1, by omega, rfl, HN8, HR8, HO8⟩
      case measure => simp [intOf]; omega
    · have d1 : decide ((j : Int) < 2) = false := decide_eq_false (by omega)
      have HGe := Lib.hid (get_any (HPart.out wr HR.out))
      clear hj hlt
      go_wp2_with fail
      refine HGe.out.mono ?_
      rintro e w5 ⟨rfl, hw⟩
      have hw := hw.symm
      subst hw
      have HNu := Lib.hid (rNumber_any (s := 8) (by decide) (HV.out.below HN.out.below) (by decide))
      clear HGe
      go_wp2_with fail
      refine HNu.out.mono ?_
      rintro e w5 ⟨rfl, hw⟩
      have hw := hw.symm
      subst hw
      have hgl := getN_le (m := 8) (by decide) HV.out.small
      rw [gM] at hgl
      have HF := Lib.hid (getN_flip (m := 8) (p := p) (by decide) HV.out.small)
      have HI5 := Lib.hid (intact_any (m := 165) (HFull.out wr HR.out) (HV.out.below HN.out.below))
      clear HNu
      generalize getN 8 p = q at *
      obtain ⟨r, t⟩ := q
      simp only at hgl
      go_wp2_with fail
      refine HI5.out.mono ?_
      rintro e w6 ⟨rfl, hb6⟩
      have HN6 := Lib.hid (HN.out.of_below hb6)
      have HR6 : Hid (Row w6 g (flipTo p 0)) := HR.out.below hb6
      have HO6 := Lib.hid (HO.out.below hb6)
      clear HI5 HN HR HO hb6
      go_wp2_with fail
      go_loopw [19] (fun iv wr => ∃ k : Nat, k ≤ p.length ∧ iv = .int .i64 (k : Int) ∧ Hid (Nb w0 kb (fun k => k = g) wr) ∧ Hid (Row wr g (flipTo p k)) ∧ Hid (Own wr w1.heap.size (.slice (some ⟨g4, 0, none⟩) (p.length + 8) c4) (p ++ Pl.le 8 a))) (fun iv _ => p.length - (intOf iv).toNat)
      case atStart => exact ⟨0, by omega, rfl, HN6, HR6, HO6⟩
      case round =>
        clear HN6 HR6 HO6
        obtain ⟨k, hk, rfl, HN, HR, HO⟩ := hrel
        by_cases hlt : k < p.length
        · have d2 : decide ((k : Int) < (p.length : Int)) = true := decide_eq_true (by omega)
          have hw1 : IntKind.i64.wrap ((k : Int) + 1) = ((k + 1 : Nat) : Int) := by rw [IntKind.wrap_i64]; omega
          have hcell := HR.out.cell k (by rw [flipTo_len p k hk]; omega)
          have hthaw := HR.out.thawed k
          rw [flipTo_get p k hlt] at hcell
          have HSet := Lib.hid (flipTo_set p k hlt)
          have hz := Pl.mem_getD (k := k) HV.out.small
          have hx := xor_ff hz
          have HW := Lib.hid (fun u : Nat => HR.out.set k u)
          generalize p.getD k 0 = z at *
          generalize 255 - z = y at *
          go_wp2_with fail
          go_roundw
          case rel =>
            refine ⟨k + 1, by omega, rfl, HN.out.write HR.out HG.out rfl, ?_, HO.out.other g k _ (fun e => ?_)⟩
            · have h := HW.out y
              rw [HSet.out] at h
              exact h
            · have := (HO.out.lt _ e).1
              have := HG4.out
              omega
          case measure => simp [intOf]; omega
        · obtain rfl : k = p.length := by omega
          have d2 : decide ((p.length : Int) < (p.length : Int)) = false := decide_eq_false (by omega)
          have HPf : Hid (Sl wr (.slice (some ⟨g, 0, none⟩) p.length (p.length + 80)) (flip p)) := by
            have h := HR.out.sl (flipTo_small p p.length HV.out.small) 0 p.length (p.length + 80) (by rw [flipTo_len p p.length (Nat.le_refl _)]; omega) (by omega) (by unfold maxLen; omega)
            rw [List.drop_zero, flipTo_end] at h
            exact h
          have HGf := Lib.hid (get_any HPf.out)
          have HWt : Hid (Sl wr (.slice (some ⟨g4, 0, none⟩) (p.length + 8) c4) (p ++ Pl.le 8 a)) := HO.out.sl HSmW.out
          clear hk hlt
          go_wp2_with fail
          refine HGf.out.mono ?_
          rintro e w7 ⟨rfl, hw⟩
          have hw := hw.symm
          subst hw
          rw [HF.out]
          clear HGf HPf HR HF
          have HBk : Hid (Sl wr (.slice (some ⟨g4, p.length, none⟩) 8 (c4 - p.length)) (Pl.le 8 a)) := sl_drop HWt.out HLl.out
          have HGb := Lib.hid (get_any HBk.out)
          have ea : getN 8 (Pl.le 8 a) = (a, true) := by
            unfold getN
            rw [if_pos (by rw [HLl.out]; exact Nat.le_refl _)]
            have := Pl.num_le 8 a [] (by omega)
            rw [List.append_nil] at this
            rw [this]
          rw [ea] at HGb
          have HS1 := Lib.hid (fun W => sums_any ha hb W)
          have HS2 := Lib.hid (fun W => sums_any hb ha W)
          have HS3 := Lib.hid (fun W => sums_any ha ha W)
          have HGr := Lib.hid (rGreatest_any (s := 8) (by decide) wr)
          have hx := xor_gN (s := 8) (m := r) (by decide) (by rw [gM]; exact hgl)
          have hyM : gN 8 - r ≤ 18446744073709551615 := by rw [gM]; omega
          have HN2 := Lib.hid (HN.out.sub (F' := fun _ => False) (fun _ h => h.elim))
          clear ea HBk HWt HO HN
          generalize gN 8 - r = y at *
          generalize gN 8 = G at *
          cases t
          · simp only [Bool.false_eq_true, if_false]
            go_wp2_with fail
            refine HGb.out.mono ?_
            rintro e w8 ⟨rfl, hw⟩
            have hw := hw.symm
            subst hw
            go_wp2_with fail
            refine (HS1.out _).mono ?_
            rintro e w8 ⟨rfl, hw⟩
            have hw := hw.symm
            subst hw
            go_wp2_with fail
            refine (HS2.out _).mono ?_
            rintro e w8 ⟨rfl, hw⟩
            have hw := hw.symm
            subst hw
            go_wp2_with fail
            refine (HS3.out _).mono ?_
            rintro e w8 ⟨rfl, hw⟩
            have hw := hw.symm
            subst hw
            go_wp2_with fail
            go_ret
            exact ⟨rfl, HN2.out⟩
          · simp only [if_true]
            go_wp2_with fail
            refine HGr.out.mono ?_
            rintro e w8 ⟨rfl, hw⟩
            have hw := hw.symm
            subst hw
            go_wp2_with fail
            refine HGb.out.mono ?_
            rintro e w8 ⟨rfl, hw⟩
            have hw := hw.symm
            subst hw
            go_wp2_with fail
            refine (HS1.out _).mono ?_
            rintro e w8 ⟨rfl, hw⟩
            have hw := hw.symm
            subst hw
            go_wp2_with fail
            refine (HS2.out _).mono ?_
            rintro e w8 ⟨rfl, hw⟩
            have hw := hw.symm
            subst hw
            go_wp2_with fail
            refine (HS3.out _).mono ?_
            rintro e w8 ⟨rfl, hw⟩
            have hw := hw.symm
            subst hw
            go_wp2_with fail
            go_ret
            exact ⟨rfl, HN2.out⟩
end Go.Proofs.YtkhokajagglogaaGreat.U64
