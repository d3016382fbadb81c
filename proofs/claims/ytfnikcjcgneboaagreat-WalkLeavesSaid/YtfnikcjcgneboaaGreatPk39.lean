import Derived.Test.YtfnikcjcgneboaaGreatPk38
/- The two machines of the law: grounds, and what lies in both then. Own work. -/
namespace Go.Proofs.YtfnikcjcgneboaaGreat
open Go.RowKit Go.Maps Go.Proofs.YtfnikcjcgneboaaGreat.Sp Wk
set_option maxRecDepth 100000 in
set_option maxHeartbeats 4000000 in
theorem grounds_at {w : World} {vr vd vw : Value} {rs ds ws : List Sp} (hr : U64.SV w vr rs) (hd : U64.SV w vd ds) (fr : Fits 18446744073709551615 rs) (fd : Fits 18446744073709551615 ds) (h0 : refW rs ds = 0) (hw : U64.SV w vw ws) (fw : Fits 18446744073709551615 ws) (hlw : ws.length ≤ 1152921504606846976) :
    Calls Tryz.prog 7 #[.agg #[vr, vd], vw] w fun e w' => ∃ m v base B V, e = .returned (.tuple #[.pointer (some ⟨m, 0, none⟩), .pointer (some ⟨v, 0, none⟩)]) ∧ Hid (GM w w' base m B V v vr vd rs ds (layF (rs ++ ds) ws) (layF (rs ++ ds) ws) ws.length ws.length) := by
  have HB0 : Hid (Below w.heap.size w (w.alloc (Obj.cells #[vr, vd] 24))) := (Below.refl _ _).alloc (Nat.le_refl _) _
  have HR0 : Hid (U64.SV w vr rs) := hr
  have HD0 : Hid (U64.SV w vd ds) := hd
  have HW0 : Hid (U64.SV w vw ws) := hw
  have HFw : Hid (Fits 18446744073709551615 ws) := fw
  have HSn := Lib.hid (refW_sane fr fd h0)
  have HX0 : Hid ((w.alloc (Obj.cells #[vr, vd] 24)).cell? ⟨w.heap.size, 0, none⟩ = some vr ∧ (w.alloc (Obj.cells #[vr, vd] 24)).cell? ⟨w.heap.size, 1, none⟩ = some vd) := U64.new2 rfl vr vd _
  have HRf : Hid (Calls Tryz.prog 8 #[.agg #[vr, vd]] (w.alloc (Obj.cells #[vr, vd] 24)) fun e w' => e = .returned (.int .i64 0) ∧ Below (w.alloc (Obj.cells #[vr, vd] 24)).heap.size (w.alloc (Obj.cells #[vr, vd] 24)) w') := by
    have h := refuses_any (hr.below HB0.out (Nat.le_refl _)) (hd.below HB0.out (Nat.le_refl _)) fr fd
    rw [h0] at h
    exact h
  have HNw : Hid (∀ W, Below w.heap.size w W → Calls Tryz.prog 21 #[.agg #[vr, vd]] W fun e w' => ∃ m B V, e = .returned (.tuple #[.pointer (some ⟨m, 0, none⟩), .int .i64 0]) ∧ Hid (Below W.heap.size W w') ∧ Hid (Mac w' m B V (fun _ => none) (fun _ => 0) rs ds 0 0 0 ∧ ∀ j, Mine m B V (fun _ => none) j → W.heap.size ≤ j)) := fun W hW => by
    refine (new_any (hr.below hW (Nat.le_refl _)) (hd.below hW (Nat.le_refl _)) fr fd).mono ?_
    rintro e w' ⟨pm, rfl, hb, hm⟩
    rcases hm.out with ⟨h1, _⟩ | ⟨_, m, B, V, rfl, h2, h3⟩
    · exact absurd h0 h1
    · exact ⟨m, B, V, by rw [h0], hb, h2, h3⟩
  obtain ⟨aw, cw, rfl, hc1, hc2, hc3, hc4, hc5⟩ := hw
  unfold maxLen at hc2
  have HC := Lib.hid hc5
  obtain ⟨N, hN⟩ : ∃ N, N = ws.length := ⟨_, rfl⟩
  have HN : Hid (N = ws.length) := hN
  rw [← hN] at hc1 hlw HW0
  rw [← hN]
  clear hr hd fr fd fw hc3 hc4 hc5 h0 hN
  obtain ⟨x0, x1⟩ := HX0.out
  go_enter Tryz.func7, Tryz.ntmps7
  go_wp2_with fail
  refine HRf.out.mono ?_
  rintro e w1 ⟨rfl, hb1⟩
  have HB1 : Hid (Below w.heap.size w w1) := HB0.out.trans (hb1.mono HB0.out.size)
  have y0 : w1.cell? ⟨w.heap.size, 0, none⟩ = some vr := (hb1.cell (p := ⟨w.heap.size, 0, none⟩) (by simp)).trans HX0.out.1
  have y1 : w1.cell? ⟨w.heap.size, 1, none⟩ = some vd := (hb1.cell (p := ⟨w.heap.size, 1, none⟩) (by simp)).trans HX0.out.2
  have hl1 : w.heap.size < w1.heap.size := by have := hb1.size; simp at this; omega
  have HC1 := Lib.hid (HNw.out w1 HB1.out)
  clear HRf HNw HX0 x0 x1 hb1
  go_wp2_with fail
  refine HC1.out.mono ?_
  rintro e w2 ⟨m, B, V, rfl, HB2, HM2⟩
  have z0 : w2.cell? ⟨w.heap.size, 0, none⟩ = some vr := (HB2.out.cell (p := ⟨w.heap.size, 0, none⟩) hl1).trans y0
  have z1 : w2.cell? ⟨w.heap.size, 1, none⟩ = some vd := (HB2.out.cell (p := ⟨w.heap.size, 1, none⟩) hl1).trans y1
  have HB2' : Hid (Below w.heap.size w w2) := HB1.out.trans (HB2.out.mono HB1.out.size)
  have hl2 : w1.heap.size ≤ w2.heap.size := HB2.out.size
  clear HC1 y0 y1
  go_wp2_with fail
  refine rnewW_any.mono ?_
  rintro e w3 ⟨v, rfl, HV3, HB3⟩
  have HG3 : Hid (GM w w3 w2.heap.size m B V v vr vd rs ds (fun _ => 0, 0, 0) (fun _ => 0, 0, 0) 0 0) := ⟨_, 0, Nat.le_refl _, HM2.out.1.below HB3.out.1, fun j hj => Nat.le_trans (Nat.le_of_lt hl1) (HM2.out.2 j hj), fun j hj => HM2.out.1.mx.mine_lt hj, by omega, HB3.out.1.size, HB2'.out.trans (HB3.out.1.mono HB2'.out.size), _, [], 0, Nat.le_refl _, HB3.out.2, HV3.out, World.ownsRow_nil w3 _ _ 2, by simp, Pn.nil, by simp, fun _ => Nat.zero_lt_succ _, fun _ _ => rfl⟩
  generalize w2.heap.size = base at HG3
  clear HM2 HB2 HB2' HV3 HB3 z0 z1 HB1 hl1 hl2 HB0
  go_wp2_with fail
  go_loopw [9] (fun iv wr => ∃ i : Nat, i ≤ N ∧ iv = .int .i64 (i : Int) ∧ Hid (GM w wr base m B V v vr vd rs ds (layF (rs ++ ds) (ws.take i)) (layF (rs ++ ds) (ws.take i)) i i)) (fun iv _ => N - (intOf iv).toNat)
  case atStart => exact ⟨0, Nat.zero_le _, rfl, HG3⟩
  case round =>
    obtain ⟨i, hi, rfl, HG⟩ := hrel
    by_cases hlt : i < N
    · have qi : (i : Int) < (N : Int) := by omega
      have hil : i < ws.length := by rw [← HN.out]; exact hlt
      have HBr : Hid (Below w.heap.size w wr) := by obtain ⟨_, _, _, _, _, _, _, _, h, _⟩ := HG.out; exact h
      obtain ⟨g, off, rfl, d0, d1⟩ := sv_at (HW0.out.below HBr.out (Nat.le_refl _)) i hil
      obtain ⟨p0, p1, p2, p3⟩ := HFw.out _ (List.getElem_mem hil)
      have HLe := Lib.hid (layF_le (rs ++ ds) ws i (by omega)).2
      have HSt : Hid (layF (rs ++ ds) (ws.take (i + 1)) = stF (rs ++ ds) (ws[i]'hil).1.toNat (ws[i]'hil).2.toNat (layF (rs ++ ds) (ws.take i))) := by
        show _ = _
        rw [List.take_add_one, List.getElem?_eq_getElem hil, show (some (ws[i]'hil)).toList = [ws[i]'hil] from rfl, layF_snoc]
      generalize layF (rs ++ ds) (ws.take i) = P at *
      generalize hxi : ws[i] = x at *
      obtain ⟨x1, x2⟩ := x
      obtain ⟨a, rfl⟩ : ∃ a : Nat, x1 = (a : Int) := ⟨x1.toNat, by simp only at p0; omega⟩
      obtain ⟨val, rfl⟩ : ∃ a : Nat, x2 = (a : Int) := ⟨x2.toNat, by simp only at p2; omega⟩
      simp only [Int.toNat_natCast] at p0 p1 p2 p3 d0 d1 HSt
      have hP : P.2.2 ≤ i := HLe.out
      have HS1 : Hid (∀ W, Below wr.heap.size wr W → Calls Tryz.prog 22 #[.pointer (some ⟨m, 0, none⟩), .int .u64 (a : Int), .int .i64 8, .int .u64 (val : Int)] W fun e w' => (∃ f, e = .returned f) ∧ Hid (GM w w' base m B V v vr vd rs ds (stF (rs ++ ds) a val P) P (i + 1) i)) := fun W hW => (gm_store1 (HG.out.below hW) (by omega) (by omega) (by omega) (by omega)).mono (fun e w' h => by obtain ⟨_, _, _, h1, h2⟩ := h; exact ⟨⟨_, h1⟩, h2⟩)
      have HS2 : Hid (∀ wq W, GM w wq base m B V v vr vd rs ds (stF (rs ++ ds) a val P) P (i + 1) i → Below wq.heap.size wq W → Calls Tryz.prog 12 #[.pointer (some ⟨v, 0, none⟩), .int .u64 (a : Int), .int .i64 8, .int .u64 (val : Int)] W fun e w' => (∃ f, e = .returned f) ∧ Hid (GM w w' base m B V v vr vd rs ds (layF (rs ++ ds) (ws.take (i + 1))) (layF (rs ++ ds) (ws.take (i + 1))) (i + 1) (i + 1))) := fun wq W hG hW => (gm_store2 (hG.below hW) HR0.out HD0.out (by have := HSn.out.2; omega) (by omega) (by omega) (by omega)).mono (fun e w' h => by obtain ⟨_, _, _, h1, h2⟩ := h; rw [HSt.out]; exact ⟨⟨_, h1⟩, h2⟩)
      have HXi : Hid (ws[i] = ((a : Int), (val : Int))) := hxi
      have HBd : Hid (Below wr.heap.size wr wr.drew) := (Below.refl _ _).drew
      clear hxi p0 p1 p2 p3
      go_wp2_with fail
      go_region_with (go_at_call 22; refine (HS1.out _ HBd.out).mono ?_; rintro e w4 ⟨⟨f, rfl⟩, HG4⟩)
      all_goals
        have HB4 : Hid (Below w.heap.size w w4) := by obtain ⟨_, _, _, _, _, _, _, _, h, _⟩ := HG4.out; exact h
        obtain ⟨g', off', hgo, e0, e1⟩ := sv_at (HW0.out.below HB4.out (Nat.le_refl _)) i hil
        cases hgo
        rw [HXi.out] at e0 e1
        simp only at e0 e1
        have HBd4 : Hid (Below w4.heap.size w4 w4.drew) := (Below.refl _ _).drew
        clear d0 d1 HS1 HBd
        go_wp2_with fail
        go_region_with (go_at_call 12; refine (HS2.out _ _ HG4.out HBd4.out).mono ?_; rintro e w5 ⟨⟨f', rfl⟩, HG5⟩)
        all_goals
          go_wp2_with fail
          go_roundw
          case rel => exact ⟨i + 1, by omega, by go_num, HG5⟩
          case measure => simp [intOf]; omega
    · obtain rfl : i = N := by omega
      go_wp2_with fail
      go_ret2
      have h := HG.out
      rw [List.take_of_length_le (by rw [← HN.out]; exact Nat.le_refl _)] at h
      exact ⟨m, v, base, B, V, rfl, h⟩
end Go.Proofs.YtfnikcjcgneboaaGreat
