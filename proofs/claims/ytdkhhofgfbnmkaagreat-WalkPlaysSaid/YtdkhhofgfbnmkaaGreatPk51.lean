import Derived.Test.YtdkhhofgfbnmkaaGreatPk46
import Derived.Test.YtdkhhofgfbnmkaaGreatPk50
import Derived.Deep.DeepCutAuto
import Derived.Deep.RegionHeld3
import Derived.Test.YtdkhhofgfbnmkaaGreatPk19
import Derived.Test.YtdkhhofgfbnmkaaGreatRows
import Derived.Test.YtdkhhofgfbnmkaaGreatPk27
import Derived.WalkKit
import Derived.ProofKit
import Derived.OpenShut
import Derived.ShutString
import Derived.ChangeOld
import Derived.Below
/- WalkPlays: alike. Own work. -/
namespace Go.Proofs.YtdkhhofgfbnmkaaGreat
open Go.RowKit Go.Maps Go.Proofs.YtdkhhofgfbnmkaaGreat.Sp Wk Lv
theorem og_page {LL : List Sp} (hs : Sane LL) {x : Int} (h : Og LL x) : x < 1048576 := by
  obtain ⟨r, hr, h1, h2⟩ := h 4095 (by omega)
  have := hs r hr
  omega
set_option maxRecDepth 100000 in
set_option maxHeartbeats 4000000 in
theorem alike_any {w0 wr : World} {base m B : Nat} {V : Value × Value × Value} {v : Nat} {vr vd : Value} {rs ds : List Sp} {p : Hs} {n k : Nat} (h : GMg w0 wr base m B V v vr vd rs ds p p n k) (hn : n ≤ 4611686018427370000) (hpL : p.2.1 ≤ 4611686018427370000) (hpS : p.2.2 ≤ 4611686018427370000) :
    Calls Tryz.prog 9 #[.pointer (some ⟨m, 0, none⟩), .pointer (some ⟨v, 0, none⟩)] wr fun e w' => e = .returned (.bool true) ∧ Below w0.heap.size w0 w' := by
  obtain ⟨T, X, hX, h1, h2, h3, h4, h5, h6, vp, ps, X', hX', h7, h8⟩ := h
  have HM := Lib.hid h1
  have HR := Lib.hid h7
  have HB := Lib.hid h6
  have HG := Lib.hid h8
  have HNv : Hid (∀ W, Mac W m B V T p.1 rs ds p.2.1 p.2.2 X → ∀ j, VB base W j → ¬ j = m) := fun W hW j hj e => mine_notVB hW.mx h3 m (.inl rfl) (e ▸ hj)
  have HMl : Hid (w0.heap.size ≤ m) := h2 m (.inl rfl)
  have HPb : Hid (∀ x ∈ ps, x.1 < 1048576) := fun x hx => og_page h1.mx.sane (h8 x hx)
  obtain ⟨M, Lc, Sc⟩ := p
  dsimp only at HM HR HNv hpL hpS
  have HCn : Hid (ps.countP (fun x => nz M x.1.toNat) = cnt M) := cnt_pages h7.pn HPb.out h7.2.2.2.2.2.2.2 pagesN rfl
  have HRd : Hid (∀ W (a : Nat), a ≤ 4294967296 → (∀ i, i < 4096 → On (rs ++ ds) ((a : Int) + (i : Nat))) → Mac W m B V T M rs ds Lc Sc X → Calls Tryz.prog 27 #[.pointer (some ⟨m, 0, none⟩), .int .u64 (a : Int), .int .i64 4096] W (ReadPost W m B V T M rs ds Lc Sc X a 4096)) := fun W a ha hon hW => read_ok (n := 4096) hW (by omega) (by omega) (by omega) hon
  obtain ⟨N, hN⟩ : ∃ N, N = ps.length := ⟨_, rfl⟩
  have HN := Lib.hid hN
  have hnl : N ≤ 2097153 := by rw [hN]; exact h7.pn.len
  obtain ⟨a1, cc, hvp, hc1, hc2, _⟩ := h7.2.2.1.form
  rw [← hN] at hvp hc1
  unfold maxLen at hc2
  subst hvp
  clear h1 h2 h3 h4 h5 h6 h7 h8 hN
  go_enter Tryz.func9, Tryz.ntmps9
  go_wp2_with fail
  go_loopw [5] (fun iv wq => ∃ i : Nat, i ≤ N ∧ iv = .int .i64 (i : Int) ∧ Hid (Mac wq m B V T M rs ds Lc Sc X ∧ RM wq base v vr vd (.slice a1 N cc) ps M Lc Sc X' ∧ Below w0.heap.size w0 wq)) (fun iv _ => N - (intOf iv).toNat)
  case atStart => exact ⟨0, Nat.zero_le _, rfl, HM.out, HR.out, HB.out⟩
  case round =>
    obtain ⟨i, hi, rfl, HI⟩ := hrel
    clear HM HR HB
    obtain ⟨c0, c1, c2, c3, c4, _⟩ := HI.out.2.1.2.1.cells
    by_cases hlt : i < N
    · have qi : (i : Int) < (N : Int) := by omega
      have hil : i < ps.length := by rw [← HN.out]; exact hlt
      obtain ⟨g, hal, d0, d1⟩ := HI.out.2.1.2.2.1.cell i hil
      subst hal
      obtain ⟨x, hx⟩ : ∃ x, x = ps[i] := ⟨_, rfl⟩
      have HXm : Hid (x ∈ ps) := hx ▸ List.getElem_mem hil
      have HX := Lib.hid hx
      rw [← hx] at d0 d1
      obtain ⟨pg, hpg⟩ : ∃ pg : Nat, x.1 = (pg : Int) := ⟨x.1.toNat, by have := (HI.out.2.1.pn.2 x HXm.out).1; omega⟩
      have hpb : pg < 1048576 := by have := HPb.out x HXm.out; omega
      have HPg := Lib.hid hpg
      obtain ⟨gp, hgp⟩ : ∃ gp, gp = x.2 := ⟨_, rfl⟩
      have HGp := Lib.hid hgp
      rw [hpg] at d0
      rw [← hgp] at d1
      clear hx hpg hgp
      have HC := Lib.hid (HRd.out wr (pg * 4096) (by omega) (fun i hi => by have := HG.out x HXm.out i hi; rw [HPg.out] at this; simpa using this) HI.out.1)
      have hw1 : IntKind.u64.wrap ((pg : Int) * 4096) = ((pg * 4096 : Nat) : Int) := by rw [IntKind.wrap_u64]; omega
      generalize hA : pg * 4096 = A at HC hw1
      have HA := Lib.hid hA
      clear hA
      go_wp2_with fail
      refine HC.out.mono ?_
      rintro e w2 ⟨gb, rfl, hrow, hgb, hm2, hk2⟩
      have HM2 := Lib.hid hm2
      have HR2 : Hid (RM w2 base v vr vd (.slice (some ⟨g, 0, none⟩) N cc) ps M Lc Sc X') := HI.out.2.1.keeps hk2 (HNv.out wr HI.out.1)
      have HB2 : Hid (Below w0.heap.size w0 w2) := below_keeps HI.out.2.2 hk2 (fun j e => by rw [show j = m from e]; exact HMl.out)
      have HRow := Lib.hid hrow
      clear HC hrow hm2 hk2 c0 c1 c2 c3 c4 d0 d1
      unfold FaultV
      go_upto_region 5 with fail
      obtain ⟨W3, hW3⟩ : ∃ W3, w2.alloc (Obj.cells #[.int .i64 0, .int .u64 0] 57) = W3 := ⟨_, rfl⟩
      have HB3 : Hid (Below w2.heap.size w2 W3) := hW3 ▸ (Below.refl _ _).alloc (Nat.le_refl _) _
      have HF3 : Hid (BoxF W3 w2.heap.size 0 0) := hW3 ▸ BoxF.new w2 0 0
      have HI3 : Hid (Mac W3 m B V T M rs ds Lc Sc X ∧ RM W3 base v vr vd (.slice (some ⟨g, 0, none⟩) N cc) ps M Lc Sc X' ∧ Below w0.heap.size w0 W3) := ⟨HM2.out.below HB3.out, HR2.out.below HB3.out, HB2.out.trans (HB3.out.mono HB2.out.size)⟩
      have HSm : Hid (Calls Tryz.prog 12 #[.slice (some ⟨gb, 0, none⟩) 4096 4096, .slice (some ⟨gp, 0, none⟩) 4096 4096] W3 fun e w' => e = .returned (.bool true) ∧ Below W3.heap.size W3 w') := by
        have hp8 := (HI3.out.2.1.2.2.2.1 x HXm.out).2
        rw [← HGp.out, HPg.out] at hp8
        have hget : ∀ i, i < 4096 → (bytesAt M A 4096).getD i 0 = M (A + i) := fun i hi => by
          rw [List.getD_eq_getElem?_getD, bytesAt, List.getElem?_map, List.getElem?_range hi]
          rfl
        refine same_yes (L := bytesAt M A 4096) (fun i hi => ⟨gb, rfl, ?_, ?_⟩) (fun i hi => ⟨gp, rfl, hp8.lt, ?_⟩) (by omega) (by omega)
        · have := (Array.getElem?_eq_some_iff.1 HRow.out).1
          exact Nat.lt_of_lt_of_le this HB3.out.size
        · have hr3 := (HB3.out.block gb (Array.getElem?_eq_some_iff.1 HRow.out).1).trans HRow.out
          rw [cell_of_row W3 gb i _ _ _ hr3, List.getElem?_toArray, bvs_get _ _ (by rw [bytesAt_length]; exact hi)]
        · rw [hget i hi, ← HA.out]
          have := hp8.cell i hi
          simpa using this
      rw [hW3]
      clear hW3
      obtain ⟨y0, y1, _, _⟩ := HF3.out.cells
      obtain ⟨c0, c1, c2, c3, c4, _⟩ := HI3.out.2.1.2.1.cells
      obtain ⟨g', hal, d0, d1⟩ := HI3.out.2.1.2.2.1.cell i hil
      cases hal
      rw [← HX.out, ← HGp.out] at d1
      clear HRow HM2 HR2 HB2 d0
      go_wp2_with fail
      refine HSm.out.mono ?_
      rintro e w4 ⟨rfl, hb4⟩
      have HI4 : Hid (Mac w4 m B V T M rs ds Lc Sc X ∧ RM w4 base v vr vd (.slice (some ⟨g, 0, none⟩) N cc) ps M Lc Sc X' ∧ Below w0.heap.size w0 w4) := ⟨HI3.out.1.below hb4, HI3.out.2.1.below hb4, HI3.out.2.2.trans (hb4.mono HI3.out.2.2.size)⟩
      clear HSm hb4 c0 c1 c2 c3 c4 d1 y0 y1 HF3
      go_wp2_with fail
      exact ⟨⟨i + 1, by omega, by go_num, HI4⟩, by simp [intOf]; omega⟩
    · have HK1 : Hid (∀ W, Mac W m B V T M rs ds Lc Sc X → Calls Tryz.prog 28 #[.pointer (some ⟨m, 0, none⟩)] W fun e w' => e = .returned (.int .i64 (cnt M : Int)) ∧ w' = W) := fun W hW => kept_any hW
      have HK2 : Hid (∀ W, RM W base v vr vd (.slice a1 N cc) ps M Lc Sc X' → Calls Tryz.prog 29 #[.pointer (some ⟨v, 0, none⟩)] W fun e w' => e = .returned (.int .i64 (cnt M : Int)) ∧ w' = W) := fun W hW => by
        rw [← HCn.out]
        exact rkept_at hW
      have HL1 : Hid (∀ W, Mac W m B V T M rs ds Lc Sc X → Calls Tryz.prog 30 #[.pointer (some ⟨m, 0, none⟩)] W fun e w' => e = .returned (.int .i64 (Lc : Int)) ∧ w' = W) := fun W hW => loads_any hW
      have HS1 : Hid (∀ W, Mac W m B V T M rs ds Lc Sc X → Calls Tryz.prog 31 #[.pointer (some ⟨m, 0, none⟩)] W fun e w' => e = .returned (.int .i64 (Sc : Int)) ∧ w' = W) := fun W hW => stores_any hW
      have HCl := Lib.hid (And.intro c3 c4)
      have HMm := Lib.hid HI.out.1
      have HRr := Lib.hid HI.out.2.1
      have HBb := Lib.hid HI.out.2.2
      have qi : ¬ (i : Int) < (N : Int) := by omega
      clear HI HRd HPb HG HNv HCn c0 c1
      go_upto_region 7 with fail
      have HMd : Hid (Mac wr.drew m B V T M rs ds Lc Sc X) := HMm.out
      have HRd : Hid (RM wr.drew base v vr vd (.slice a1 N cc) ps M Lc Sc X') := HRr.out
      have HCd : Hid (wr.drew.cell? ⟨v, 3, none⟩ = some (.int .i64 (Lc : Int)) ∧ wr.drew.cell? ⟨v, 4, none⟩ = some (.int .i64 (Sc : Int))) := HCl.out
      go_region_held3 (fun wx => wx.cell? ⟨v, 3, none⟩ = some (.int .i64 (Lc : Int)) ∧ wx.cell? ⟨v, 4, none⟩ = some (.int .i64 (Sc : Int))) (exact HCd.out) (first
        | (go_at_call 28; refine (HK1.out _ HMd.out).mono ?_; rintro e x1 ⟨rfl, rfl⟩)
        | (go_at_call 29; refine (HK2.out _ HRd.out).mono ?_; rintro e x1 ⟨rfl, rfl⟩)
        | (go_at_call 30; refine (HL1.out _ HMd.out).mono ?_; rintro e x1 ⟨rfl, rfl⟩)
        | (go_at_call 31; refine (HS1.out _ HMd.out).mono ?_; rintro e x1 ⟨rfl, rfl⟩))
      all_goals
        go_wp2_with fail
        go_ret
        exact ⟨rfl, HBb.out.trans (Below.mono ⟨rfl, rfl, rfl, Nat.le_refl _, fun _ _ => rfl⟩ HBb.out.size)⟩
end Go.Proofs.YtdkhhofgfbnmkaaGreat
/- WalkPlays: the law. Own work. -/
namespace Go.Proofs.YtdkhhofgfbnmkaaGreat
open Go.RowKit Go.Maps Go.Shelf Go.Proofs.YtdkhhofgfbnmkaaGreat.Sp Wk Lv
set_option maxRecDepth 100000 in
set_option maxHeartbeats 2000000 in
theorem grounds_none {w : World} {vr vd vw : Value} {rs ds : List Sp} (hr : U64.SV w vr rs) (hd : U64.SV w vd ds) (fr : Fits 18446744073709551615 rs) (fd : Fits 18446744073709551615 ds) (h0 : refW rs ds ≠ 0) :
    Calls Tryz.prog 6 #[.agg #[vr, vd], vw] w fun e w' => e = .returned (.tuple #[.pointer none, .pointer none]) ∧ Below w.heap.size w w' := by
  have HB0 : Hid (Below w.heap.size w (w.alloc (Obj.cells #[vr, vd] 24))) := (Below.refl _ _).alloc (Nat.le_refl _) _
  obtain ⟨x0, x1⟩ : (w.alloc (Obj.cells #[vr, vd] 24)).cell? ⟨w.heap.size, 0, none⟩ = some vr ∧ (w.alloc (Obj.cells #[vr, vd] 24)).cell? ⟨w.heap.size, 1, none⟩ = some vd := U64.new2 rfl vr vd _
  have HRf := Lib.hid (refuses_any (hr.below HB0.out (Nat.le_refl _)) (hd.below HB0.out (Nat.le_refl _)) fr fd)
  generalize refW rs ds = k at h0 HRf
  have hk : (k != 0) = true := by simpa using h0
  clear hr hd fr fd h0
  go_enter Tryz.func6, Tryz.ntmps6
  go_wp2_with fail
  refine HRf.out.mono ?_
  rintro e w1 ⟨rfl, hb1⟩
  have HB1 : Hid (Below w.heap.size w w1) := HB0.out.trans (hb1.mono HB0.out.size)
  clear HRf hb1 x0 x1
  go_wp2_with fail
  go_ret2
  exact ⟨rfl, HB1.out⟩
set_option maxRecDepth 100000 in
set_option maxHeartbeats 4000000 in
theorem plays_walk {w : World} {vr vd vw sv2 : Value} {rs ds ws : List Sp} {os : List Op5} (hr : U64.SV w vr rs) (hd : U64.SV w vd ds) (fr : Fits 18446744073709551615 rs) (fd : Fits 18446744073709551615 ds) (hw : U64.SV w vw ws) (fw : Fits 18446744073709551615 ws) (hlw : ws.length ≤ 1152921504606846976) (ho : OpsAt w.heap.size w sv2 os) (hb : ∀ o ∈ os, o.2.1 ≤ 18446744073709551615 ∧ o.2.2.1 ≤ 18446744073709551615 ∧ o.2.2.2.1 ≤ 18446744073709551615) (hlo : os.length ≤ 600000000000000) :
    Calls Tryz.prog 3 #[.agg #[vr, vd], vw, sv2] w fun e w' => e = .returned (.bool true) ∧ Below w.heap.size w w' := by
  have HB0 : Hid (Below w.heap.size w (w.alloc (Obj.cells #[vr, vd] 24))) := (Below.refl _ _).alloc (Nat.le_refl _) _
  have HX0 : Hid ((w.alloc (Obj.cells #[vr, vd] 24)).cell? ⟨w.heap.size, 0, none⟩ = some vr ∧ (w.alloc (Obj.cells #[vr, vd] 24)).cell? ⟨w.heap.size, 1, none⟩ = some vd) := U64.new2 rfl vr vd _
  have HG0 : Hid (refW rs ds ≠ 0 → ∀ W, Below w.heap.size w W → Calls Tryz.prog 6 #[.agg #[vr, vd], vw] W fun e w' => e = .returned (.tuple #[.pointer none, .pointer none]) ∧ Below W.heap.size W w') := fun h0 W hW => grounds_none (hr.below hW (Nat.le_refl _)) (hd.below hW (Nat.le_refl _)) fr fd h0
  have HGr : Hid (refW rs ds = 0 → ∀ W, Below w.heap.size w W → Calls Tryz.prog 6 #[.agg #[vr, vd], vw] W fun e w' => ∃ m v base B V, e = .returned (.tuple #[.pointer (some ⟨m, 0, none⟩), .pointer (some ⟨v, 0, none⟩)]) ∧ Hid (GMg W w' base m B V v vr vd rs ds (layF (rs ++ ds) ws) (layF (rs ++ ds) ws) ws.length ws.length)) := fun h0 W hW => grounds_g (hr.below hW (Nat.le_refl _)) (hd.below hW (Nat.le_refl _)) fr fd h0 (hw.below hW (Nat.le_refl _)) fw hlw
  have HRf : Hid (∀ W, Below w.heap.size w W → Calls Tryz.prog 7 #[.agg #[vr, vd]] W fun e w' => e = .returned (.int .i64 (refW rs ds)) ∧ Below W.heap.size W w') := fun W hW => refuses_any (hr.below hW (Nat.le_refl _)) (hd.below hW (Nat.le_refl _)) fr fd
  have HSn : Hid (refW rs ds = 0 → rs.length + ds.length ≤ 64 ∧ Pgd (rs ++ ds)) := fun h => by
    have := (refW_sane fr fd h).2
    exact ⟨by omega, refW_pgd fr fd h⟩
  have HR := Lib.hid hr
  have HD := Lib.hid hd
  have HO := Lib.hid ho
  have HBo := Lib.hid hb
  have HLy := Lib.hid (layF_le (rs ++ ds) ws ws.length (Nat.le_refl _))
  obtain ⟨ao, cap, hsv2, hc1, hc2, _⟩ := ho
  obtain ⟨NW, hNW⟩ : ∃ NW, NW = ws.length := ⟨_, rfl⟩
  rw [← hNW] at hlw HGr
  have HNW := Lib.hid hNW
  obtain ⟨N, hN⟩ : ∃ N, N = os.length := ⟨_, rfl⟩
  have HN := Lib.hid hN
  rw [← hN] at hlo hsv2 hc1
  unfold maxLen at hc2
  subst hsv2
  clear hr hd fr fd hw fw hb hN hNW
  go_enter Tryz.func3, Tryz.ntmps3
  go_wp2_with fail
  refine (awake_any _).mono ?_
  rintro e w1 ⟨rfl, hb1⟩
  have HB1 : Hid (Below w.heap.size w w1) := HB0.out.trans (hb1.mono HB0.out.size)
  have y0 : w1.cell? ⟨w.heap.size, 0, none⟩ = some vr := (hb1.cell (p := ⟨w.heap.size, 0, none⟩) (by simp)).trans HX0.out.1
  have y1 : w1.cell? ⟨w.heap.size, 1, none⟩ = some vd := (hb1.cell (p := ⟨w.heap.size, 1, none⟩) (by simp)).trans HX0.out.2
  have hl1 : w.heap.size < w1.heap.size := by have := hb1.size; simp at this; omega
  clear HX0 hb1 HB0
  by_cases h0 : refW rs ds = 0
  · have HLn := Lib.hid (HSn.out h0)
    have HG2 := Lib.hid (HGr.out h0 w1 HB1.out)
    clear HSn HGr HG0 HRf h0
    go_wp2_with fail
    refine HG2.out.mono ?_
    rintro e w3 ⟨m, v, base, B, V, rfl, HG3⟩
    clear HG2 y0 y1
    have HL1 := HLy.out
    rw [List.take_length] at HL1
    have HG4 : Hid (∃ p : Hs, GMg w1 w3 base m B V v vr vd rs ds p p NW NW ∧ p.2.1 ≤ 0 ∧ p.2.2 ≤ NW) := ⟨_, HG3.out, by omega, by rw [HNW.out]; exact HL1.2⟩
    have HRw : Hid (U64.SV w1 vr rs ∧ U64.SV w1 vd ds) := ⟨HR.out.below HB1.out (Nat.le_refl _), HD.out.below HB1.out (Nat.le_refl _)⟩
    clear HG3 HL1 HLy HR HD
    go_wp2_with fail
    go_loopw [9] (fun iv wq => ∃ i : Nat, i ≤ N ∧ iv = .int .i64 (i : Int) ∧ Hid (∃ p : Hs, GMg w1 wq base m B V v vr vd rs ds p p (NW + 4000 * i) (NW + i) ∧ p.2.1 ≤ 8 * i ∧ p.2.2 ≤ NW + 8 * i)) (fun iv _ => N - (intOf iv).toNat)
    case atStart => exact ⟨0, Nat.zero_le _, rfl, HG4⟩
    case round =>
      obtain ⟨i, hi, rfl, HG⟩ := hrel
      clear HG4
      obtain ⟨p, hg, hpL, hpS⟩ := HG.out
      have HGi := Lib.hid hg
      have HBr : Hid (Below w1.heap.size w1 wr) := by
        obtain ⟨T, X, hX, h1, h2, h3, h4, h5, h6, _⟩ := hg
        exact h6
      clear hg HG
      by_cases hlt : i < N
      · have qi : (i : Int) < (N : Int) := by omega
        have hil : i < os.length := by rw [← HN.out]; exact hlt
        obtain ⟨ao', cap', e', _, _, hcells⟩ := HO.out
        obtain ⟨g, off, eao, hgl, c0, c1, c2, c3, c4⟩ := hcells i hil
        cases e'
        obtain ⟨hb1, hb2, hb3⟩ := HBo.out _ (List.getElem_mem hil)
        subst eao
        have hB : Below w.heap.size w wr := HB1.out.trans (HBr.out.mono HB1.out.size)
        replace c0 := (hB.cell (p := ⟨g, off + i * 5, none⟩) hgl).trans c0
        replace c1 := (hB.cell (p := ⟨g, off + i * 5 + 1, none⟩) hgl).trans c1
        replace c2 := (hB.cell (p := ⟨g, off + i * 5 + 2, none⟩) hgl).trans c2
        replace c3 := (hB.cell (p := ⟨g, off + i * 5 + 3, none⟩) hgl).trans c3
        replace c4 := (hB.cell (p := ⟨g, off + i * 5 + 4, none⟩) hgl).trans c4
        generalize os[i] = o at c0 c1 c2 c3 c4 hb1 hb2 hb3
        obtain ⟨kd, rt, vt, vl, nn⟩ := o
        dsimp only at c0 c1 c2 c3 c4 hb1 hb2 hb3
        have HSt := Lib.hid (step_any (kd := kd) (nn := nn) HGi.out HRw.out.1 HRw.out.2 HLn.out.1 HLn.out.2 hb1 hb2 hb3 (by omega) (by omega) (by omega) (by omega))
        clear hcells hB HGi
        go_wp2_with fail
        refine HSt.out.mono ?_
        rintro e w4 ⟨rfl, p', HG', hp1, hp2⟩
        have HG5 : Hid (∃ p : Hs, GMg w1 w4 base m B V v vr vd rs ds p p (NW + 4000 * (i + 1)) (NW + (i + 1)) ∧ p.2.1 ≤ 8 * (i + 1) ∧ p.2.2 ≤ NW + 8 * (i + 1)) := ⟨p', HG'.out.mono (by omega) (by omega), by omega, by omega⟩
        clear HSt HG' hp1 hp2 c0 c1 c2 c3 c4
        go_wp2_with fail
        exact ⟨⟨i + 1, by omega, by go_num, HG5⟩, by simp [intOf]; omega⟩
      · have qi : ¬ (i : Int) < (N : Int) := by omega
        have HAl := Lib.hid (alike_any HGi.out (by omega) (by omega) (by omega))
        clear HGi
        go_wp2_with fail
        refine HAl.out.mono ?_
        rintro e w4 ⟨rfl, hb4⟩
        have HB4 := Lib.hid hb4
        clear hb4 HAl
        go_wp2_with fail
        go_ret
        exact ⟨rfl, HB1.out.trans (HB4.out.mono HB1.out.size)⟩
  · have HG2 := Lib.hid (HG0.out h0 w1 HB1.out)
    obtain ⟨k, hk⟩ : ∃ k, k = refW rs ds := ⟨_, rfl⟩
    rw [← hk] at HRf h0
    have hkb : (k != 0) = true := by simpa using h0
    clear HSn HGr HG0 h0 hk HLy
    go_wp2_with fail
    refine HG2.out.mono ?_
    rintro e w2 ⟨rfl, hb2⟩
    have HB2 : Hid (Below w.heap.size w w2) := HB1.out.trans (hb2.mono HB1.out.size)
    have z0 : w2.cell? ⟨w.heap.size, 0, none⟩ = some vr := (hb2.cell (p := ⟨w.heap.size, 0, none⟩) hl1).trans y0
    have z1 : w2.cell? ⟨w.heap.size, 1, none⟩ = some vd := (hb2.cell (p := ⟨w.heap.size, 1, none⟩) hl1).trans y1
    clear hb2 y0 y1 HG2 HB1
    go_wp2_with fail
    refine (HRf.out w2 HB2.out).mono ?_
    rintro e w3 ⟨rfl, hb3⟩
    have HB3 : Hid (Below w.heap.size w w3) := HB2.out.trans (hb3.mono HB2.out.size)
    clear hb3 HRf z0 z1
    go_wp2_with fail
    go_ret
    exact ⟨rfl, HB3.out⟩
end Go.Proofs.YtdkhhofgfbnmkaaGreat
/- WalkPlays: its row, by the guide's shell. -/
namespace Go.Proofs.YtdkhhofgfbnmkaaGreat.walkPlays
open Go.ChangeShapes Go.WideShapes Go.ChangeAt Go.RowKit
open Go.ChangeMaps (open_string shut_string)
set_option linter.unusedVariables false

theorem own : ownKnob Tryz.prog.godebug = none := by kernel_rfl
theorem laidOut : laidOutB Tryz.prog = true := by kernel_rfl

set_option maxRecDepth 100000 in
theorem lifted (os : Os) (started : os.Started) (H : Type) (enc : TypeId × Value → H) :
    ReturnsInHanded {} Tryz.checked os 3 .any (Rows.walkPlaysSpec.pre6 enc Tryz.prog Tryz.f3 Rows.walkPlaysRow.domain false) (Rows.walkPlaysSpec.post enc Tryz.prog Tryz.f3 false true false false) := by
  refine returnsInHanded_of_change_sized (C := Tryz.checked) own started (by kernel_rfl) Tryz.func3
    (ChangeSpec.witness6 (enc := enc) (C := Tryz.checked) false ⟨#[], #[.agg #[.slice none 0 0, .slice none 0 0], .slice none 0 0, .slice none 0 0], []⟩ 8 (by kernel_rfl) (by kernel_rfl) (by kernel_rfl) (by kernel_rfl)) ?_
  intro W base args ds gs before hval0 hW hcnd hsz _
  have hval : ∀ (j : Nat) t v, Tryz.f3.params[j]? = some t → args[j]? = some v → Value.okWide Tryz.prog W .any base t v := hval0
  have hW' := hW
  obtain ⟨p, q, hA0, hV, rfl, hfz, hnd⟩ := hW
  have hA : DataW.TrodAll enc Tryz.prog W 0 (fun _ => true) true Tryz.f3.params.toList args.toList ds p := hA0
  rw [Tryz.params3] at hA hval hsz
  obtain ⟨v0, vs0, d0, ds0, p0, q0, hargs, rfl, rfl, h0, r0⟩ := trodAll_cons hA
  obtain ⟨v1, vs1, d1, ds1, p1, q1, rfl, rfl, rfl, h1, r1⟩ := trodAll_cons r0
  obtain ⟨v2, vs2, d2, ds2, p2, q2, rfl, rfl, rfl, h2, r2⟩ := trodAll_cons r1
  obtain ⟨rfl, rfl, rfl⟩ := trodAll_nil r2
  obtain rfl : args = #[v0, v1, v2] := by cases args; simp_all
  obtain ⟨rfl, rfl⟩ := trodVars_none hV
  have k0 := h0
  have lt0 : ∀ x ∈ p0, x.block < W.heap.size := by obtain ⟨m, hm⟩ := k0; exact DataW.trod_lt m _ _ _ hm
  obtain ⟨cs, rfl, _, hrow⟩ : ∃ cs, v0 = .agg cs ∧ cs.size = Tryz.prog.cellsOf 24 ∧ Row.okWide Tryz.prog W .any base 24 cs := by
    have := hval 0 24 v0 rfl rfl
    simp only [Value.okWide, Tryz.underlying24] at this
    exact this
  obtain ⟨vr, vd, rs, dd, rfl, hr, hd, fr, fd⟩ : ∃ vr vd rs ds, cs = #[vr, vd] ∧ U64.SV W vr rs ∧ U64.SV W vd ds ∧ Sp.Fits 18446744073709551615 rs ∧ Sp.Fits 18446744073709551615 ds := by
    obtain ⟨fuel, hf⟩ := h0
    exact bus_opened hrow hf
  obtain ⟨a1, len1, cap1, rfl⟩ := okWide_slice Tryz.underlying25 (hval 1 25 v1 rfl rfl)
  have k1 := h1
  have lt1 : ∀ x ∈ p1, x.block < W.heap.size := by obtain ⟨m, hm⟩ := k1; exact DataW.trod_lt m _ _ _ hm
  obtain ⟨ws, hx, fx, hp⟩ : ∃ ws, U64.SV W (.slice a1 len1 cap1) ws ∧ Sp.Fits 18446744073709551615 ws ∧ ws.length ≤ 1152921504606846976 := by
    obtain ⟨fuel, hf⟩ := h1
    obtain ⟨v, xs, e, hx, fx, hlen⟩ := wds_opened (fun v e => by
      have hv := hval 1 25 (.slice a1 len1 cap1) rfl rfl
      simp [Value.cells] at e
      subst e
      refine ⟨.any, base, ?_⟩
      simp only [Value.okWide, Tryz.underlying25] at hv
      exact hv) hf
    simp [Value.cells] at e
    subst e
    refine ⟨xs, hx, fx, ?_⟩
    rcases hlen with h | ⟨el, sp, hd, h⟩
    · omega
    · simp only at hd
      have hw := sized_slice hsz (j := 1) (t := 25) (elems := el) (spare := sp) rfl (by rw [← hd]; rfl) Tryz.underlying25
      have hw : (el.length + sp.length) * Tryz.prog.bytesOf 44 ≤ reachBytes := hw
      rw [show Tryz.prog.bytesOf 44 = 16 from by kernel_rfl] at hw
      have e3 : reachBytes = 140737488351232 := rfl
      omega
  obtain ⟨a2, len2, cap2, rfl⟩ := okWide_slice Tryz.underlying26 (hval 2 26 v2 rfl rfl)
  have k2 := h2
  have lt2 : ∀ x ∈ p2, x.block < W.heap.size := by obtain ⟨m, hm⟩ := k2; exact DataW.trod_lt m _ _ _ hm
  obtain ⟨os, ho, fo, hlo⟩ : ∃ os, OpsAt W.heap.size W (.slice a2 len2 cap2) os ∧ (∀ o ∈ os, o.2.1 ≤ 18446744073709551615 ∧ o.2.2.1 ≤ 18446744073709551615 ∧ o.2.2.2.1 ≤ 18446744073709551615) ∧ os.length ≤ 600000000000000 := by
    obtain ⟨fuel, hf⟩ := h2
    obtain ⟨v, os, e, ho, fo, hlen⟩ := ops_opened (fun v e => by
      have hv := hval 2 26 (.slice a2 len2 cap2) rfl rfl
      simp [Value.cells] at e
      subst e
      refine ⟨.any, base, ?_⟩
      simp only [Value.okWide, Tryz.underlying26] at hv
      exact hv) hf
    simp [Value.cells] at e
    subst e
    refine ⟨os, ho, fo, ?_⟩
    rcases hlen with h | ⟨el, sp, hd, h⟩
    · omega
    · simp only at hd
      have hw := sized_slice hsz (j := 2) (t := 26) (elems := el) (spare := sp) rfl (by rw [← hd]; rfl) Tryz.underlying26
      have hw : (el.length + sp.length) * Tryz.prog.bytesOf 36 ≤ reachBytes := hw
      rw [show Tryz.prog.bytesOf 36 = 40 from by kernel_rfl] at hw
      have e3 : reachBytes = 140737488351232 := rfl
      omega
  clear hA0 hval0
  refine (plays_walk hr hd fr fd hx fx hp ho fo hlo).mono fun e W' ⟨he, bel⟩ => ?_
  subst he
  exact ⟨_, rfl, _, _, _, [], _, [], hW', trodAll_mk1 (shut_bool Tryz.underlying4 _), (trodAll_cons_mk (Below.trod laidOut (by kernel_rfl) (of_decide_eq_true (by kernel_rfl)) k0 bel lt0) (trodAll_cons_mk (Below.trod laidOut (by kernel_rfl) (of_decide_eq_true (by kernel_rfl)) k1 bel lt1) (trodAll_cons_mk (Below.trod laidOut (by kernel_rfl) (of_decide_eq_true (by kernel_rfl)) k2 bel lt2) trodAll_mk0))), rfl, bel.frame _, fun h => by cases h⟩

theorem over : Rows.walkPlaysRow.holds Tryz.pinned (OpenSpec.ofChange Rows.walkPlaysSpec) :=
  OpenClaim.holds_of_wide 3 Tryz.f3 rfl rfl rfl rfl rfl rfl rfl ⟨rfl, rfl, rfl, rfl, rfl⟩ rfl rfl rfl rfl rfl (by kernel_rfl) Tryz.func3 (by kernel_rfl)
    (of_decide_eq_true (by kernel_rfl)) (by unfold Func.isWrapper; first | (rw [if_pos (by decide +kernel)]; kernel_rfl) | (rw [if_neg (by decide +kernel)]; exact ⟨rfl, rfl⟩))
    (fun os started H enc _ => lifted os started H enc)

theorem proved : Rows.WalkPlaysSaid :=
  over
#print axioms proved
end Go.Proofs.YtdkhhofgfbnmkaaGreat.walkPlays
