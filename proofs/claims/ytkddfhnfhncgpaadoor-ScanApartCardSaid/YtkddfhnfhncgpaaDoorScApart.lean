/- ScanApart, walked. -/
import Derived.Test.YtkddfhnfhncgpaaDoorScBlank
import Derived.Lib.Hide
import Derived.Deep.RegionHeld3
import Derived.Deep.DeepCutAuto
import Derived.Deep.CutBlock
namespace Go.Proofs.YtkddfhnfhncgpaaDoor
open Go.RowKit Sc
theorem sl_part {w : World} {b o cap : Nat} {zs : List Nat} (hc : ∀ i, i < zs.length → w.cell? ⟨b, o + i, none⟩ = some (.int .u8 (zs.getD i 0 : Nat))) (hz : ∀ z ∈ zs, z < 256) (hcap : zs.length ≤ cap) (hm : cap ≤ maxLen) {a n : Nat} (h : a + n ≤ zs.length) :
    Sl w (.slice (some ⟨b, o + a, none⟩) n (cap - a)) ((zs.drop a).take n) := by
  have hl : ((zs.drop a).take n).length = n := by simp; omega
  refine ⟨some ⟨b, o + a, none⟩, cap - a, by rw [hl], by omega, by omega, fun z hz' => hz z (List.mem_of_mem_drop (List.mem_of_mem_take hz')), by simp, fun i hi => ⟨b, o + a, rfl, ?_⟩⟩
  rw [hl] at hi
  rw [Nat.add_assoc, hc (a + i) (by omega)]
  congr 3
  simp only [List.getD_eq_getElem?_getD, List.getElem?_take, List.getElem?_drop]
  rw [if_pos hi]
theorem join_small {src : List Nat} (h : ∀ z ∈ src, z < 256) : ∀ (ts : List Sc.Tok), ∀ z ∈ joinF src ts, z < 256
  | [], z, hz => by cases hz
  | t :: ts, z, hz => by
    rw [joinF] at hz
    rcases List.mem_append.1 hz with hz | hz
    · exact h z (List.mem_of_mem_drop (List.mem_of_mem_take hz))
    · rcases List.mem_cons.1 hz with rfl | hz
      · decide
      · exact join_small h ts z hz
/-- where the first loop stands -/
structure ApI (src : List Nat) (ts : List Sc.Tok) (w2 : World) (k a : Nat) (bv : Value) (wr : World) : Prop where
  chain : Chain src a (ts.drop k)
  own : Own wr w2.heap.size bv (joinF src (ts.take k))
  len : (joinF src (ts.take k)).length ≤ 2 * a
  below : Below w2.heap.size w2 wr
set_option maxRecDepth 100000 in
set_option maxHeartbeats 2000000 in
theorem apart_walk {w : World} {v : Value} {src : List Nat} (ht : Tabs w) (h9 : 8 ≤ w.heap.size) (hs : Sl w v src) (hv : ∀ k, v.ownBlock = some k → k < w.heap.size) :
    Calls Tryd.prog 4 #[v] w fun e w' => e = .returned (.bool true) ∧ Below w.heap.size w w' := by
  have HK : Hid (∀ W, Below w.heap.size w W → Calls Tryd.prog 5 #[] W fun e w' => e = .returned (.bool true) ∧ Below W.heap.size W w') := fun W hW => known_any (ht.below hW) (Nat.le_trans h9 hW.size)
  have HTk := Lib.hid (tokens_any ht hs hv h9)
  have HTa : Hid (∀ W v zs, Below w.heap.size w W → Sl W v zs → (∀ k, v.ownBlock = some k → k < W.heap.size) → Calls Tryd.prog 17 #[v] W fun e w' => ∃ lv, e = .returned (.tuple #[lv, .int .i64 ((tokens zs).2.1 : Nat), .int .i64 ((tokens zs).2.2 : Nat)]) ∧ OwnT w' W.heap.size lv (tokens zs).1 ∧ Below W.heap.size W w') := fun W v zs hW hs hv => tokens_any (ht.below hW) hs hv (Nat.le_trans h9 hW.size)
  have HS : Hid (Sl w v src) := hs
  clear ht h9 hs hv
  cases hx : tokens src with
  | mk ts rest =>
    obtain ⟨at_, er⟩ := rest
    rw [hx] at HTk
    by_cases he : er = 0
    · subst he
      obtain rfl : at_ = 0 := by
        unfold tokens at hx
        split at hx
        · cases hx
        · split at hx
          · cases hx; rfl
          · cases hx
      have HJ := Lib.hid (tokens_join hx)
      have HLs : Hid (src.length ≤ 1048576) := by
        show _ ≤ _
        unfold tokens at hx
        split at hx
        · cases hx
        · omega
      clear hx
      obtain ⟨ao, cap, rfl, hcap, hmax, z1, z2, z3⟩ := HS.out
      have HCp : Hid (src.length ≤ cap ∧ cap ≤ maxLen) := ⟨hcap, hmax⟩
      clear hcap hmax z1 z2 z3
      obtain ⟨N, hN⟩ : ∃ N, ts.length = N := ⟨_, rfl⟩
      obtain ⟨M, hM⟩ : ∃ M, src.length = M := ⟨_, rfl⟩
      have HN : Hid (ts.length = N) := hN
      have HM : Hid (src.length = M) := hM
      have HTk2 : Hid (Calls Tryd.prog 17 #[.slice ao M cap] w fun e w' => ∃ la lc, e = .returned (.tuple #[.slice la N lc, .int .i64 0, .int .i64 0]) ∧ OwnT w' w.heap.size (.slice la N lc) ts ∧ Below w.heap.size w w') := by
        have hx := HTk.out
        rw [hM] at hx
        refine hx.mono ?_
        rintro e w' ⟨lv, rfl, h1, h2⟩
        obtain ⟨la, lc, rfl⟩ := h1.form
        rw [hN] at h1 ⊢
        exact ⟨la, lc, rfl, h1, h2⟩
      clear HTk
      rw [hM]
      clear hN hM
      go_enter Tryd.func4, Tryd.ntmps4
      go_wp2_with fail
      refine HTk2.out.mono ?_
      rintro e w2 ⟨la, lc, rfl, ho2, hb2⟩
      have HO2 : Hid (OwnT w2 w.heap.size (.slice la N lc) ts) := ho2
      have HB2 : Hid (Below w.heap.size w w2) := hb2
      clear ho2 hb2 HTk2
      go_wp2_with fail
      go_loopw [6, 7, 8] (fun bv av iv wr => ∃ k a : Nat, k ≤ N ∧ iv = .int .i64 (k : Int) ∧ av = .int .i64 (a : Int) ∧ Hid (ApI src ts w2 k a bv wr)) (fun _ _ iv _ => N - (intOf iv).toNat)
      case atStart => exact ⟨0, 0, Nat.zero_le _, rfl, rfl, ⟨HJ.out.1, own_nil _ _, by simp [joinF], Below.refl _ _⟩⟩
      case round =>
        obtain ⟨k, a, hk, rfl, rfl, HI⟩ := hrel
        by_cases hlt : k < N
        · have hlt' : k < ts.length := by rw [HN.out]; exact hlt
          have hch := HI.out.chain
          rw [List.drop_eq_getElem_cons hlt'] at hch
          obtain ⟨h1, h2, h3, h4, h5, h6⟩ := hch
          rw [HM.out] at h3
          have hcp := HCp.out
          rw [HM.out] at hcp
          obtain ⟨b, o, cap', hv, y1, y2, hz, hcs⟩ := HS.out.pos (by rw [HM.out]; omega)
          cases hv
          clear y1 y2
          have hbw : Below w.heap.size w wr := HB2.out.trans (HI.out.below.mono HB2.out.size)
          have HSw : Hid (∀ a n, a + n ≤ M → Sl wr (.slice (some ⟨b, o + a, none⟩) n (cap - a)) ((src.drop a).take n)) := fun a n h => (sl_part hcs hz HCp.out.1 HCp.out.2 (by rw [HM.out]; exact h)).below hbw
          obtain ⟨g, lc', hlv, y1, y2, hg1, hg2, hcl⟩ := HO2.out.cells (by omega)
          simp only [Value.slice.injEq] at hlv
          obtain ⟨rfl, y3, rfl⟩ := hlv
          have HNm : Hid (N ≤ maxLen) := by show _ ≤ _; omega
          clear y1 y2 y3
          have c3 : wr.cell? ⟨g, k * 5 + 3, none⟩ = some (.int .i64 (ts[k].at_ : Int)) := (HI.out.below.cell (p := ⟨g, k * 5 + 3, none⟩) hg2).trans (hcl k 3 hlt' (by omega))
          have c4 : wr.cell? ⟨g, k * 5 + 4, none⟩ = some (.int .i64 (ts[k].end_ : Int)) := (HI.out.below.cell (p := ⟨g, k * 5 + 4, none⟩) hg2).trans (hcl k 4 hlt' (by omega))
          have HLx : Hid (Chain src ts[k].end_ (ts.drop (k + 1))) := h6
          have HBk : Hid (blankF false ((src.drop a).take (ts[k].at_ - a)) = true) := h4
          have HJs : Hid (joinF src (ts.take (k + 1)) = joinF src (ts.take k) ++ ((src.drop ts[k].at_).take (ts[k].end_ - ts[k].at_) ++ [32])) := by
            show _ = _
            rw [List.take_succ_eq_append_getElem hlt', join_snoc]
          clear h4 h5 h6 hbw hcs hz hcl hg1 hg2
          generalize ts[k].at_ = p at *
          generalize ts[k].end_ = q at *
          have i1 : ¬ (p : Int) < (a : Int) := by omega
          have i2 : ¬ (q : Int) ≤ (p : Int) := by omega
          have i3 : ¬ (M : Int) < (q : Int) := by omega
          have i4 : (a : Int) ≤ (p : Int) := by omega
          have i5 : (p : Int) ≤ (cap : Int) := by omega
          have i6 : (k : Int) < (N : Int) := by omega
          have i7 : (0 : Int) ≤ (k : Int) := by omega
          have i8 : (p : Int) ≤ (q : Int) := by omega
          have i9 : (q : Int) ≤ (cap : Int) := by omega
          have HBl : Hid (∀ n, Calls Tryd.prog 18 #[.slice (some ⟨b, o + a, none⟩) (p - a) (cap - a)] (wr.drewN n) fun e w' => e = .returned (.bool true) ∧ w' = wr.drewN n) := fun n => by
            have := blank_any (w := wr.drewN n) ((HSw.out a (p - a) (by omega)).below (bdn (Below.refl _ _) n)) (by have := HLs.out; rw [List.length_take, List.length_drop]; omega)
            rw [HBk.out] at this
            exact this
          have j1 : decide (p < a) = false := decide_eq_false (by omega)
          have j2 : decide (q ≤ p) = false := decide_eq_false (by omega)
          have j3 : decide (M < q) = false := decide_eq_false (by omega)
          clear h1 h2 h3 hcp
          go_wp2_with fail
          go_quiet ((go_at_call 18; exact Calls.quiet_of_same (HBl.out _)))
          have hpl : ((src.drop p).take (q - p)).length = q - p := by rw [List.length_take, List.length_drop, HM.out]; omega
          have HBq : Hid (Below w2.heap.size w2 (wr.drewN nq)) := bdn HI.out.below nq
          have HOq : Hid (Own (wr.drewN nq) w2.heap.size u6 (joinF src (ts.take k))) := HI.out.own.below (bdn (Below.refl _ _) nq)
          have HSq : Hid (Sl (wr.drewN nq) (.slice (some ⟨b, o + p, none⟩) (q - p) (cap - p)) ((src.drop p).take (q - p))) := (HSw.out p (q - p) (by omega)).below (bdn (Below.refl _ _) nq)
          have HPz : Hid (((src.drop p).take (q - p)).length = q - p ∧ (joinF src (ts.take k)).length ≤ 2 * a ∧ q ≤ M ∧ M ≤ 1048576 ∧ a ≤ p ∧ p < q) := ⟨hpl, HI.out.len, by omega, by rw [← HM.out]; exact HLs.out, by omega, by omega⟩
          clear hpl HBl j1 j2 j3 HSw
          generalize joinF src (ts.take k) = L at *
          generalize (src.drop p).take (q - p) = P at *
          go_wp2_with (first
            | (at_builtin; refine wpList_append_sl (v := u6) (.tmp 75) (.tmp 83) (by rfl) rfl rfl HOq.out rfl HSq.out (by have := HPz.out; omega) HBq.out.size ?_; intro v3 w3 h3 g3 l3; have HO3 : Hid (Own w3 w2.heap.size v3 (L ++ P)) := h3; have HB3 : Hid (Below w2.heap.size w2 w3) := HBq.out.trans (below_grown g3 HBq.out.size (fun k hk => (HOq.out.lt k hk).1)); clear h3 g3 l3)
            | (at_builtin; refine wpList_append_sl (v := v3) (.tmp 84) (.tmp 85) (by rfl) rfl rfl (HO3.out.below ((Below.refl _ _).alloc (Nat.le_refl _) _)) rfl (sl_bytes w3 [32] (by decide) (by decide)) (by have := HPz.out; rw [List.length_append]; simp only [List.length_cons, List.length_nil]; omega) (by have := HB3.out.size; simp; omega) ?_; intro v4 w4 h4 g4 l4; have HP4 : Hid (SpPost w3 w2.heap.size v3 (L ++ P) [32] v4 w4) := SpPost.mk h4 g4 l4; clear h4 g4 l4))
          have hw : wrap64 ((k : Int) + 1) = ((k + 1 : Nat) : Int) := by have := HNm.out; unfold maxLen at this; unfold wrap64; omega
          rw [hw]
          refine ⟨⟨k + 1, q, by omega, rfl, rfl, ⟨HLx.out, ?_, ?_, HB3.out.trans (HP4.out.2.1.below HB3.out.size (fun j _ e => (HO3.out.lt j e).1))⟩⟩, by simp only [intOf, Int.toNat_natCast]; omega⟩
          · rw [HJs.out, ← List.append_assoc]
            exact HP4.out.1
          · have := HPz.out
            rw [HJs.out, List.length_append, List.length_append]
            simp only [List.length_cons, List.length_nil]
            omega
        · obtain rfl : k = N := by omega
          have hch := HI.out.chain
          rw [List.drop_of_length_le (by rw [HN.out]; omega)] at hch
          obtain ⟨h1, h2⟩ := hch
          rw [HM.out] at h1
          have hI := HI.out
          have hown := hI.own
          rw [List.take_of_length_le (by rw [HN.out]; omega)] at hown
          have hjl := hI.len
          rw [List.take_of_length_le (by rw [HN.out]; omega)] at hjl
          have HO : Hid (Own wr w2.heap.size u6 (joinF src ts)) := hown
          have HBr : Hid (Below w2.heap.size w2 wr) := hI.below
          obtain ⟨ba, bc, hbf⟩ : ∃ ba bc, u6 = .slice ba (joinF src ts).length bc := by
            rcases hown.2 with ⟨hv, h0⟩ | ⟨g, c, cur, hv, _⟩
            · exact ⟨none, 0, by rw [hv, h0]⟩
            · exact ⟨_, c, hv⟩
          subst hbf
          have i6 : ¬ (k : Int) < (k : Int) := by omega
          clear hI hown HI hk hlt
          have HB0 : Hid (∀ ao c W, Calls Tryd.prog 18 #[.slice ao 0 c] W fun e w' => e = .returned (.bool true) ∧ W = w') := fun ao c W => (blank_none ao c W).mono fun _ _ h => ⟨h.1, h.2.symm⟩
          go_upto_region 13 with fail
          go_cut [91] (fun y wx => y = .bool false ∧ wx = wr)
          case first =>
            by_cases hM0 : 0 < M
            · obtain ⟨b, o, cap', hv, y1, y2, hz, hcs⟩ := HS.out.pos (by rw [HM.out]; omega)
              cases hv
              clear y1 y2
              have hcp := HCp.out
              rw [HM.out] at hcp
              have HBl : Hid (Calls Tryd.prog 18 #[.slice (some ⟨b, o + a, none⟩) (M - a) (cap - a)] wr fun e w' => e = .returned (.bool true) ∧ wr = w') := by
                have hbw : Below w.heap.size w wr := HB2.out.trans (HBr.out.mono HB2.out.size)
                have := blank_any ((sl_part hcs hz HCp.out.1 HCp.out.2 (a := a) (n := M - a) (by rw [HM.out]; omega)).below hbw) (by have := HLs.out; rw [List.length_take, List.length_drop]; omega)
                rw [List.take_of_length_le (by rw [List.length_drop, HM.out]; exact Nat.le_refl _), h2] at this
                exact this.mono fun _ _ h => ⟨h.1, h.2.symm⟩
              have i1 : (a : Int) ≤ (M : Int) := by omega
              have i2 : (M : Int) ≤ (cap : Int) := by omega
              have i3 : (0 : Int) ≤ (a : Int) := by omega
              by_cases hca : cap = a
              · obtain rfl : M = cap := by omega
                subst hca
                clear hcs hz hcp h1 h2 hM0 hjl HBl
                go_wp2_with fail
                refine (HB0.out _ _ _).mono ?_
                rintro e w5 ⟨rfl, rfl⟩
                go_wp2_with fail
                go_meet
                exact ⟨rfl, rfl⟩
              · clear hcs hz hcp h1 h2 hM0 hjl
                go_wp2_with fail
                refine HBl.out.mono ?_
                rintro e w5 ⟨rfl, rfl⟩
                go_wp2_with fail
                go_meet
                exact ⟨rfl, rfl⟩
            · obtain rfl : M = 0 := by omega
              obtain rfl : a = 0 := by omega
              have i3 : (0 : Int) ≤ (cap : Int) := by omega
              clear h1 h2 hM0 hjl
              cases ao with
              | none =>
                go_wp2_with fail
                refine (HB0.out _ _ _).mono ?_
                rintro e w5 ⟨rfl, rfl⟩
                go_wp2_with fail
                go_meet
                exact ⟨rfl, rfl⟩
              | some x =>
                go_wp2_with fail
                all_goals
                  refine (HB0.out _ _ _).mono ?_
                  rintro e w5 ⟨rfl, rfl⟩
                  go_wp2_with fail
                  go_meet
                  exact ⟨rfl, rfl⟩
          case rest =>
            obtain ⟨rfl, hcw⟩ := hcut
            have hcw := hcw.symm
            subst hcw
            have HSj : Hid (Sl wr (.slice ba (joinF src ts).length bc) (joinF src ts)) := HO.out.sl (join_small HS.out.small ts)
            have HLo : Hid (∀ j, Value.ownBlock (.slice ba (joinF src ts).length bc) = some j → j < wr.heap.size) := fun j hj => (HO.out.lt j hj).2
            have HBw : Hid (Below w.heap.size w wr) := HB2.out.trans (HBr.out.mono HB2.out.size)
            clear HB0
            by_cases hJ : 1048576 < (joinF src ts).length
            · have iJ : (1048576 : Int) < ((joinF src ts).length : Int) := by omega
              clear hJ h1 h2 hjl
              go_wp2_with fail
              refine (HK.out _ HBw.out).mono ?_
              rintro e w5 ⟨rfl, hb5⟩
              go_wp2_with fail
              go_ret
              exact ⟨rfl, HBw.out.trans (hb5.mono HBw.out.size)⟩
            · have iJ : ¬ (1048576 : Int) < ((joinF src ts).length : Int) := by omega
              obtain ⟨us, hu1, hu2⟩ := HJ.out.2 (by omega)
              have HU : Hid (us.map keyT = ts.map keyT) := hu2
              have HUl : Hid (us.length = k) := by
                have := congrArg List.length hu2
                simp only [List.length_map] at this
                show _ = _
                rw [this, HN.out]
              have HT5 : Hid (Calls Tryd.prog 17 #[.slice ba (joinF src ts).length bc] wr fun e w' => ∃ ma mc, e = .returned (.tuple #[.slice ma k mc, .int .i64 0, .int .i64 0]) ∧ OwnT w' wr.heap.size (.slice ma k mc) us ∧ Below wr.heap.size wr w') := by
                have hx := HTa.out wr _ _ HBw.out HSj.out HLo.out
                rw [hu1] at hx
                refine hx.mono ?_
                rintro e w' ⟨lv, rfl, h1, h2⟩
                obtain ⟨la, lc, rfl⟩ := h1.form
                rw [HUl.out] at h1 ⊢
                exact ⟨la, lc, rfl, h1, h2⟩
              clear hJ h1 h2 hjl hu1 hu2
              generalize (joinF src ts).length = J at *
              go_wp2_with fail
              refine HT5.out.mono ?_
              rintro e w5 ⟨ma, mc, rfl, ho5, hb5⟩
              have HO5 : Hid (OwnT w5 wr.heap.size (.slice ma k mc) us) := ho5
              have HBa : Hid (Below w.heap.size w w5) := HBw.out.trans (hb5.mono HBw.out.size)
              have HBb : Hid (Below w2.heap.size w2 w5) := HBr.out.trans (hb5.mono HBr.out.size)
              clear ho5 hb5 HT5
              go_wp2_with fail
              go_loopw [12] (fun iv wq => ∃ j : Nat, j ≤ k ∧ iv = .int .i64 (j : Int) ∧ Hid (Below w5.heap.size w5 wq)) (fun iv _ => k - (intOf iv).toNat)
              case atStart => exact ⟨0, Nat.zero_le _, rfl, Below.refl _ _⟩
              case round =>
                obtain ⟨j, hj, rfl, HBq⟩ := hrel
                by_cases hjl : j < k
                · obtain ⟨g, lc', hlv, y1, y2, hg1, hg2, hcl⟩ := HO2.out.cells (by rw [HN.out]; omega)
                  simp only [Value.slice.injEq] at hlv
                  obtain ⟨rfl, y3, rfl⟩ := hlv
                  obtain ⟨g5, mc', hmv, y4, y5, hm1, hm2, hcm⟩ := HO5.out.cells (by rw [HUl.out]; omega)
                  simp only [Value.slice.injEq] at hmv
                  obtain ⟨rfl, y6, rfl⟩ := hmv
                  have HNm : Hid (k ≤ maxLen) := by show _ ≤ _; omega
                  clear y1 y2 y3 y4 y5 y6
                  have hjt : j < ts.length := by rw [HN.out]; exact hjl
                  have hju : j < us.length := by rw [HUl.out]; exact hjl
                  have hkey : keyT us[j] = keyT ts[j] := by
                    have := congrArg (fun l => l[j]?) HU.out
                    simp only [List.getElem?_map, List.getElem?_eq_getElem hjt, List.getElem?_eq_getElem hju, Option.map_some, Option.some.injEq] at this
                    exact this
                  simp only [keyT, Prod.mk.injEq] at hkey
                  obtain ⟨k1, k2, k3⟩ := hkey
                  have hlw : ∀ i, i < 5 → wr.cell? ⟨g, j * 5 + i, none⟩ = (encT ts[j])[i]? := fun i hi => by
                    rw [HBq.out.cell (p := ⟨g, j * 5 + i, none⟩) (Nat.lt_of_lt_of_le hg2 HBb.out.size), HBb.out.cell (p := ⟨g, j * 5 + i, none⟩) hg2]
                    exact hcl j i hjt hi
                  have hmw : ∀ i, i < 5 → wr.cell? ⟨g5, j * 5 + i, none⟩ = (encT us[j])[i]? := fun i hi => by
                    rw [HBq.out.cell (p := ⟨g5, j * 5 + i, none⟩) hm2]
                    exact hcm j i hju hi
                  have l0 : wr.cell? ⟨g, j * 5, none⟩ = some (.int .i64 (ts[j].kind : Int)) := hlw 0 (by omega)
                  have l1 : wr.cell? ⟨g, j * 5 + 1, none⟩ = some (.int .u64 (ts[j].n : Int)) := hlw 1 (by omega)
                  have l2 : wr.cell? ⟨g, j * 5 + 2, none⟩ = some (.string (mkS ts[j].s)) := hlw 2 (by omega)
                  have m0 : wr.cell? ⟨g5, j * 5, none⟩ = some (.int .i64 (ts[j].kind : Int)) := by rw [← k1]; exact hmw 0 (by omega)
                  have m1 : wr.cell? ⟨g5, j * 5 + 1, none⟩ = some (.int .u64 (ts[j].n : Int)) := by rw [← k2]; exact hmw 1 (by omega)
                  have m2 : wr.cell? ⟨g5, j * 5 + 2, none⟩ = some (.string (mkS ts[j].s)) := by rw [← k3]; exact hmw 2 (by omega)
                  clear k1 k2 k3 hlw hmw hcl hcm hm1 hm2 hg1 hg2
                  generalize ts[j].kind = t1 at *
                  generalize ts[j].n = t2 at *
                  generalize mkS ts[j].s = t3 at *
                  have i7 : (j : Int) < (k : Int) := by omega
                  have i8 : (0 : Int) ≤ (j : Int) := by omega
                  go_wp2_with fail
                  go_quiet (fail)
                  go_wp2_with fail
                  have hw : wrap64 ((j : Int) + 1) = ((j + 1 : Nat) : Int) := by have := HNm.out; unfold maxLen at this; unfold wrap64; omega
                  rw [hw]
                  exact ⟨⟨j + 1, by omega, rfl, bdn HBq.out _⟩, by simp only [intOf, Int.toNat_natCast]; omega⟩
                · obtain rfl : j = k := by omega
                  have i7 : ¬ (j : Int) < (j : Int) := by omega
                  have HBz : Hid (Below w.heap.size w wr) := HBa.out.trans (HBq.out.mono HBa.out.size)
                  go_wp2_with fail
                  refine (HK.out _ HBz.out).mono ?_
                  rintro e w6 ⟨rfl, hb6⟩
                  go_wp2_with fail
                  go_ret
                  exact ⟨rfl, HBz.out.trans (hb6.mono HBz.out.size)⟩
    · have i1 : ((er : Int) == 0) = false := beq_eq_false_iff_ne.2 (fun e => he (by omega))
      clear hx he HTa HS
      go_enter Tryd.func4, Tryd.ntmps4
      go_wp2_with fail
      refine HTk.out.mono ?_
      rintro e w2 ⟨lv, rfl, ho2, hb2⟩
      have HB2 : Hid (Below w.heap.size w w2) := hb2
      obtain ⟨la, lc, rfl⟩ := ho2.form
      clear ho2 hb2 HTk
      go_wp2_with fail
      refine (HK.out _ HB2.out).mono ?_
      rintro e w3 ⟨rfl, hb3⟩
      go_wp2_with fail
      go_ret
      exact ⟨rfl, HB2.out.trans (hb3.mono HB2.out.size)⟩
end Go.Proofs.YtkddfhnfhncgpaaDoor
