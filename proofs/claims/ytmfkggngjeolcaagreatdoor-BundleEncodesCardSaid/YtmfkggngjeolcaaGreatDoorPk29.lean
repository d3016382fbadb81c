import Derived.Test.YtmfkggngjeolcaaGreatDoorPk28
/- Bundle, the document's own Encode: bus. Own work. -/
namespace Go.Proofs.YtmfkggngjeolcaaGreatDoor
open Go.RowKit Bn Ek Dc
set_option linter.unusedVariables false
set_option linter.unusedSimpArgs false
theorem own_low {w : World} {B B' : Nat} {v : Value} {xs : List Nat} (h : Own w B v xs) (hB : B' ≤ B) : Own w B' v xs := by
  rcases h.2 with hv | ⟨g, cap, cur, e, hb1, r⟩
  · exact ⟨h.1, .inl hv⟩
  · exact ⟨h.1, .inr ⟨g, cap, cur, e, by omega, r⟩⟩
theorem LdR.low {w w9 : World} (hb : Below w.heap.size w w9) {s : S} {e : Ending} {w' : World} (h : LdR w9 s e w') : LdR w s e w' := by
  obtain ⟨v, h1, h2, h3, h4, h5⟩ := h
  exact ⟨v, h1, own_low h2 hb.size, h3, h4, hb.trans (h5.mono hb.size)⟩
theorem OwnG.fk {β : Type} {t : TypeId} {k : Nat} {enc : β → List Value} {w w' : World} {base : Nat} {v : Value} {xs : List β} {B : Nat} (h : OwnG t k enc w base v xs) (hf : Fk B w w') (h1 : t ≠ 101) (h2 : t ≠ 5) : OwnG t k enc w' base v xs := by
  refine h.keeps hf (fun j e => ?_)
  obtain ⟨_, _, _, _, _, hj⟩ := h.form
  obtain ⟨_, _, ht⟩ := hj j e
  rintro ⟨_, e | e⟩
  · exact h1 (tag_same ht e)
  · exact h2 (tag_same ht e)
theorem Ld.here {B kb : Nat} {w0 : World} {s : S} {w : World} (h : Ld B kb w0 s w) : Ld B kb w s w := by
  obtain ⟨v, h⟩ := h
  exact ⟨v, Lv.here h⟩
theorem Ld.since {B kb : Nat} {w0 w1 : World} {s : S} {w : World} (h : Ld B kb w s w1) (k : Fk B w0 w) (hw : B ≤ w0.heap.size) : Ld B kb w0 s w1 := by
  obtain ⟨v, h⟩ := h
  exact ⟨v, Lv.since h k hw⟩
set_option maxRecDepth 100000 in
set_option maxHeartbeats 8000000 in
theorem kbusX {w : World} {rv dv : Value} {rs ds : List Rg} (hr : RowG 2 rgE w rv rs) (hd : RowG 2 rgE w dv ds) (ho1 : ∀ x ∈ rs, rgOk x) (ho2 : ∀ x ∈ ds, rgOk x) (hl1 : rs.length ≤ 16000000) (hl2 : ds.length ≤ 16000000) : Calls Tryz.prog 29 #[.agg #[rv, dv]] w (LdR w (eachS rangeS (rs ++ ds) (zerosS 4 (numD 2 (ds.length : Int) (numD 2 (rs.length : Int) ([], 0)))))) := by
  have HR1 : Hid (∀ W, Below w.heap.size w W → RowG 2 rgE W rv rs) := fun W hW => hr.below hW
  have HR2 : Hid (∀ W, Below w.heap.size w W → RowG 2 rgE W dv ds) := fun W hW => hd.below hW
  have HOk : Hid (∀ x ∈ rs ++ ds, rgOk x) := fun x hx => (List.mem_append.1 hx).elim (ho1 x) (ho2 x)
  obtain ⟨ro, rc, rfl, q1, q2, q3⟩ := hr
  obtain ⟨do_, dc, rfl, p1, p2, p3⟩ := hd
  clear q3 p3 ho1 ho2
  unfold maxLen at q2 p2
  have s9 : (w.alloc (.cells #[.slice ro rs.length rc, .slice do_ ds.length dc] 25)).heap.size = w.heap.size + 1 := by simp
  obtain ⟨hb1, hb2, hb3⟩ := ld_begin (w.alloc (.cells #[.slice ro rs.length rc, .slice do_ ds.length dc] 25))
  rw [s9] at hb1 hb2 hb3
  have HS0 : Hid (Ld (w.heap.size + 2) (w.heap.size + 2) (((w.alloc (.cells #[.slice ro rs.length rc, .slice do_ ds.length dc] 25)).alloc (.cells #[.slice none 0 0, .int .i64 0] 101)).alloc (.cells #[.slice none 0 0, .int .i64 0] 101)) ([], 0) (((w.alloc (.cells #[.slice ro rs.length rc, .slice do_ ds.length dc] 25)).alloc (.cells #[.slice none 0 0, .int .i64 0] 101)).alloc (.cells #[.slice none 0 0, .int .i64 0] 101))) := hb1
  have HRes : Hid ((((w.alloc (.cells #[.slice ro rs.length rc, .slice do_ ds.length dc] 25)).alloc (.cells #[.slice none 0 0, .int .i64 0] 101)).alloc (.cells #[.slice none 0 0, .int .i64 0] 101)).heap[w.heap.size + 1]? = some (ldC (.slice none 0 0) 0)) := hb2
  have HB9 : Hid (Below (w.heap.size + 1) (w.alloc (.cells #[.slice ro rs.length rc, .slice do_ ds.length dc] 25)) (((w.alloc (.cells #[.slice ro rs.length rc, .slice do_ ds.length dc] 25)).alloc (.cells #[.slice none 0 0, .int .i64 0] 101)).alloc (.cells #[.slice none 0 0, .int .i64 0] 101))) := hb3
  have hB0 : Below w.heap.size w (w.alloc (.cells #[.slice ro rs.length rc, .slice do_ ds.length dc] 25)) := (Below.refl _ _).alloc (Nat.le_refl _) _
  have HB0 := Lib.hid hB0
  have hbx : (((w.alloc (.cells #[.slice ro rs.length rc, .slice do_ ds.length dc] 25)).alloc (.cells #[.slice none 0 0, .int .i64 0] 101)).alloc (.cells #[.slice none 0 0, .int .i64 0] 101)).heap[w.heap.size]? = some (.cells ([.slice ro rs.length rc, .slice do_ ds.length dc] : List Value).toArray 25 (0, 0)) := (hb3.block w.heap.size (Nat.lt_succ_self _)).trans (heap_alloc_new w _)
  have HBox := Lib.hid hbx
  have S9 := Lib.hid s9
  obtain ⟨n, hn⟩ : ∃ n, rs.length = n := ⟨_, rfl⟩
  obtain ⟨m, hm⟩ : ∃ m, ds.length = m := ⟨_, rfl⟩
  have HN := Lib.hid hn
  have HM := Lib.hid hm
  rw [hn, hm] at HS0 HRes HB9 HB0 HBox S9
  rw [hn] at q1 HR1 hl1
  rw [hm] at p1 HR2 hl2
  rw [hn, hm]
  clear hn hm hb1 hb2 hb3 hB0 hbx s9
  obtain ⟨s0, hs0⟩ : ∃ s0, zerosS 4 (numD 2 (m : Int) (numD 2 (n : Int) ([], 0))) = s0 := ⟨_, rfl⟩
  have HL0 : Hid (s0.1.length = 8) := show _ = _ by rw [← hs0, zeros_len, num_len, num_len]; rfl
  obtain ⟨sz, hsz⟩ : ∃ sz, eachS rangeS (rs ++ ds) s0 = sz := ⟨_, rfl⟩
  rw [hs0, hsz]
  have HS00 := Lib.hid hs0
  have HSz := Lib.hid hsz
  clear hs0 hsz
  go_enter Tryz.func29, Tryz.ntmps29
  go_upto_region 2 with fail
  generalize hG1 : (((w.alloc (.cells #[.slice ro n rc, .slice do_ m dc] 25)).alloc (.cells #[.slice none 0 0, .int .i64 0] 101)).alloc (.cells #[.slice none 0 0, .int .i64 0] 101)) = W1 at *
  have HBw : Hid (∀ W t, Ld (w.heap.size + 2) (w.heap.size + 2) W1 t W → Below w.heap.size w W ∧ W.cell? ⟨w.heap.size, 0, none⟩ = some (.slice ro n rc) ∧ W.cell? ⟨w.heap.size, 1, none⟩ = some (.slice do_ m dc)) := fun W t hW => by
    have h9 := (hW.bl.block w.heap.size (by omega)).trans HBox.out
    exact ⟨(HB0.out.trans (HB9.out.mono (Nat.le_succ _))).trans (hW.bl.mono (by omega)), (box_cell h9 0).trans rfl, (box_cell h9 1).trans rfl⟩
  clear hG1 HBox
  obtain ⟨_, c0, c1⟩ := HBw.out _ _ HS0.out
  go_wp2_with fail
  refine (knum2X HS0.out (k := (n : Int)) ⟨by omega, by omega⟩ (by decide)).mono ?_
  rintro e w1 ⟨rfl, h1⟩
  clear c0 c1
  obtain ⟨_, c0, c1⟩ := HBw.out _ _ h1
  have HS1 := Lib.hid h1
  clear h1 HS0
  go_wp2_with fail
  refine (knum2X HS1.out (k := (m : Int)) ⟨by omega, by omega⟩ (by rw [num_len]; exact (by decide : 0 + 2 ≤ 549755813888))).mono ?_
  rintro e w2 ⟨rfl, h2⟩
  clear c0 c1
  obtain ⟨_, c0, c1⟩ := HBw.out _ _ h2
  have HS2 := Lib.hid h2
  clear h2 HS1
  go_wp2_with fail
  refine (kzeros4X HS2.out (by rw [num_len, num_len]; exact (by decide : 0 + 2 + 2 ≤ 549755813888))).mono ?_
  rintro e w3 ⟨rfl, h3⟩
  rw [HS00.out] at h3
  clear c0 c1
  obtain ⟨hb3, c0, c1⟩ := HBw.out _ _ h3
  have HS3 := Lib.hid h3
  have HRa := Lib.hid (HR1.out _ (hb3.trans (⟨rfl, rfl, rfl, Nat.le_refl _, fun _ _ => rfl⟩ : Below w.heap.size w3 w3.drew)))
  have HRb : Hid (∀ W, Below w3.heap.size w3 W → RowG 2 rgE W (.slice do_ m dc) ds) := fun W hW => HR2.out _ (hb3.trans (hW.mono hb3.size))
  have HBd : Hid (∀ W, Below w3.heap.size w3 W → W.cell? ⟨w.heap.size, 0, none⟩ = some (.slice ro n rc) ∧ W.cell? ⟨w.heap.size, 1, none⟩ = some (.slice do_ m dc)) := fun W hW => (HBw.out _ _ (HS3.out.below hW)).2
  clear h3 HS2 hb3 HR1 HR2
  go_upto_region 5 with fail
  go_cut [4] (fun y wx => ∃ va vc, y = .slice va (n + m) vc ∧ Hid (OwnG 64 2 rgE wx w3.heap.size y (rs ++ ds)) ∧ Hid (Below w3.heap.size w3 wx))
  case first =>
    go_region_law (first
      | (refine step_appN (enc := rgE) (by rfl) 23 64 (.const (.slice none 0 0)) (.tmp 17) rfl 2 16 (.agg #[.int .u64 0, .int .u64 0]) Tryz.underlying23 (by kernel_rfl) (by decide) rfl (by decide) rg_ok (ys := rs) (by rfl) (by first | rfl | (rw [HN.out]; rfl)) HRa.out (by rw [HN.out]; omega) ?_; intro va vc w5 H5 HB5; rw [HN.out]; have H5b : Hid (OwnG 64 2 rgE w5 w3.heap.size (.slice va n vc) rs) := (by have h9 := H5.out; rw [HN.out] at h9; exact h9); have HB5b : Hid (Below w3.heap.size w3 w5) := (⟨rfl, rfl, rfl, Nat.le_refl _, fun _ _ => rfl⟩ : Below w3.heap.size w3 w3.drew).trans HB5.out; obtain ⟨k0, k1⟩ := HBd.out _ HB5b.out; clear H5 HB5)
      | (refine step_appR (enc := rgE) (by rfl) 23 64 (.tmp 18) (.tmp 20) rfl 2 16 (.agg #[.int .u64 0, .int .u64 0]) Tryz.underlying23 (by kernel_rfl) (by decide) rfl (by decide) rg_ok (by rfl) H5b.out (by rfl) (HRb.out _ HB5b.out) (by rw [HN.out, HM.out]; omega) HB5b.out.size ?_; intro vb vd w6 H6 HB6; have HB6b : Hid (Below w3.heap.size w3 w6) := HB5b.out.grown HB6.out HB5b.out.size (fun k e => ((H5b.out.form).choose_spec.choose_spec.2.2.2 k e).1)))
    all_goals
      go_wp2_with fail
      go_meet
      have h7 := H6.out
      rw [List.length_append] at h7
      exact ⟨vb, vd, by rw [HN.out, HM.out], Lib.hid h7, HB6b⟩
  case rest =>
    obtain ⟨va, vc, rfl, HAl, HB4⟩ := hcut
    have hL4 := HS3.out.below HB4.out
    have HK4 := Lib.hid hL4.fr
    have HW4 : Hid (w.heap.size + 2 ≤ W1.heap.size) := Lib.hid (by obtain ⟨v, h⟩ := hL4; exact h.hw)
    have H0 : Hid (Ld (w.heap.size + 2) (w.heap.size + 2) wc (eachS rangeS ((rs ++ ds).take 0) s0) wc) := hL4.here
    have HXl : Hid ((rs ++ ds).length = n + m) := show _ = _ by rw [List.length_append, HN.out, HM.out]
    clear hL4 HS3 HRa HRb HBd HB4 c0 c1
    generalize rs ++ ds = xs at *
    generalize hNM : n + m = N at *
    have hNl : N ≤ 32000000 := by omega
    clear hNM
    go_wp2_with fail
    go_loopw [5] (fun iv wr => ∃ i : Nat, i ≤ N ∧ iv = .int .i64 (i : Int) ∧ Hid (Ld (w.heap.size + 2) (w.heap.size + 2) wc (eachS rangeS (xs.take i) s0) wr)) (fun iv _ => N - (intOf iv).toNat)
    case atStart => exact ⟨0, Nat.zero_le _, rfl, H0⟩
    case round =>
      clear H0
      obtain ⟨i, hi, rfl, HI⟩ := hrel
      by_cases hin : i < N
      · have ji : (i : Int) < (N : Int) := by omega
        have hix : i < xs.length := by rw [HXl.out]; exact hin
        have hw1 : IntKind.i64.wrap ((i : Int) + 1) = ((i + 1 : Nat) : Int) := by rw [IntKind.wrap_i64]; omega
        have HCell : Hid (∀ W t, Ld (w.heap.size + 2) (w.heap.size + 2) wc t W → ∃ b of, va = some ⟨b, of, none⟩ ∧ N ≤ vc ∧ ∀ j, j < 2 → W.cell? ⟨b, of + i * 2 + j, none⟩ = (rgE xs[i])[j]?) := fun W t hW => by
          obtain ⟨_, _, e', g1, _, hc⟩ := (HAl.out.fk hW.fr (by decide) (by decide)).rowG rg_ok
          simp only [Value.slice.injEq] at e'
          obtain ⟨rfl, e9, rfl⟩ := e'
          obtain ⟨b, of, e, _, hc⟩ := hc i hix
          exact ⟨b, of, e, by rw [e9]; exact g1, hc⟩
        obtain ⟨b, of, rfl, hNv, hz⟩ := HCell.out _ _ HI.out
        clear hz
        have hok1 := HOk.out xs[i] (List.getElem_mem _)
        have HE : Hid (eachS rangeS (xs.take (i + 1)) s0 = rangeS xs[i] (eachS rangeS (xs.take i) s0)) := eachS_take _ _ _ _ hix
        have HLi : Hid ((eachS rangeS (xs.take i) s0).1.length + 32 ≤ 549755813888) := show _ ≤ _ by
          rw [each_len rangeS_len, List.length_take, HL0.out]
          omega
        generalize eachS rangeS (xs.take i) s0 = si at HI HE HLi
        generalize xs[i] = x at *
        obtain ⟨x0, x1⟩ := x
        obtain ⟨k0, k1⟩ := hok1
        replace HCell : Hid (∀ W t, Ld (w.heap.size + 2) (w.heap.size + 2) wc t W → W.cell? ⟨b, of + i * 2, none⟩ = some (.int .u64 (x0 : Int)) ∧ W.cell? ⟨b, of + i * 2 + 1, none⟩ = some (.int .u64 (x1 : Int))) := fun W t hW => by
          obtain ⟨_, _, e, _, hc⟩ := HCell.out W t hW
          cases e
          exact ⟨(hc 0 (by decide)).trans rfl, (hc 1 (by decide)).trans rfl⟩
        obtain ⟨c0, c1⟩ := HCell.out _ _ HI.out
        go_wp2_with fail
        refine (klongX HI.out (m := x0) k0 (by have := HLi.out; omega)).mono ?_
        rintro e w5 ⟨rfl, h5⟩
        clear c0 c1
        obtain ⟨c0, c1⟩ := HCell.out _ _ h5
        have HS5 := Lib.hid h5
        clear h5 HI
        go_wp2_with fail
        refine (klongX HS5.out (m := x1) k1 (by rw [long_len]; have := HLi.out; omega)).mono ?_
        rintro e w6 ⟨rfl, h6⟩
        have HS6 : Hid (Ld (w.heap.size + 2) (w.heap.size + 2) wc (eachS rangeS (xs.take (i + 1)) s0) w6) := Lib.hid (by rw [HE.out]; exact h6)
        clear h6 HS5 c0 c1
        go_wp2_with fail
        go_roundw
        case rel => exact ⟨i + 1, by omega, rfl, HS6⟩
        case measure => simp [intOf]; omega
      · obtain rfl : i = N := by omega
        have ji : ¬ (i : Int) < (i : Int) := by omega
        have HE : Hid (eachS rangeS (xs.take i) s0 = sz) := show _ = _ by rw [List.take_of_length_le (by rw [HXl.out]; exact Nat.le_refl _), HSz.out]
        rw [HE.out] at HI
        have HI1 := Lib.hid (HI.out.since HK4.out HW4.out)
        obtain ⟨v, h9⟩ := HI1.out
        obtain ⟨a9, p9, rfl⟩ := own_slice h9.own
        have d0 := h9.cell0
        have d1 := h9.cell1
        have hr9 := ld_res (N := w.heap.size + 1) HI1.out HRes.out
        have g0 : _ = some (Value.slice none 0 0) := cell_of_row _ _ 0 _ _ _ hr9
        have g1 : _ = some (Value.int .i64 0) := cell_of_row _ _ 1 _ _ _ hr9
        have f0 := box_free hr9 0
        have f1 := box_free hr9 1
        have HEnd := Lib.hid (ld_end (N := w.heap.size + 1) h9 HRes.out HB9.out S9.out.symm _ rfl)
        clear h9 hr9 HI HRes HB9 HBw HI1 HK4
        go_wp2_with fail
        obtain ⟨k0, k1, kR⟩ := HEnd.out
        refine bodyPost_ret (v := .agg #[.slice a9 sz.1.length p9, .int .i64 sz.2]) (by simp [results, Tryz.results29, go_sem, k0, k1]) rfl (LdR.low HB0.out kR)
end Go.Proofs.YtmfkggngjeolcaaGreatDoor
/- Bundle, the document's own Encode: plans. Own work. -/
namespace Go.Proofs.YtmfkggngjeolcaaGreatDoor
open Go.RowKit Bn Ek
set_option linter.unusedVariables false
set_option linter.unusedSimpArgs false
namespace Ek
def stD (x : Int × Int) (s : S) : S := numD 4 x.2 (zerosS 2 (noneD x.1 s))
def laneD (l : List (Int × Int)) (s : S) : S := eachS stD l (manyD l.length s)
def planD (n : Nat) (p : Sc) (s : S) : S := eachS laneD p.lanes (zerosS 4 (numD 4 p.maj (fieldS (decide (p.lanes.length = n)) s)))
end Ek
theorem stD_len (x : Int × Int) (s : S) : (stD x s).1.length = s.1.length + 8 := by rw [stD, num_len, zeros_len, noneD_len]
theorem laneD_len (l : List (Int × Int)) (s : S) : (laneD l s).1.length = s.1.length + 8 + 8 * l.length := by rw [laneD, each_len stD_len, manyD_len]
theorem lanesD_len : ∀ (ls : List (List (Int × Int))) (s : S), (eachS laneD ls s).1.length = s.1.length + lsum ls
  | [], s => rfl
  | l :: ls, s => by rw [eachS, lanesD_len ls, laneD_len, lsum]; omega
theorem planD_len (n : Nat) (p : Sc) (s : S) : (planD n p s).1.length = s.1.length + 8 + lsum p.lanes := by rw [planD, lanesD_len, zeros_len, num_len, field_len]
theorem plansD_len (n : Nat) : ∀ (ps : List Sc) (s : S), (eachS (planD n) ps s).1.length = s.1.length + psum ps
  | [], s => rfl
  | p :: ps, s => by rw [eachS, plansD_len n ps, planD_len, psum]; omega
set_option maxRecDepth 100000 in
set_option maxHeartbeats 8000000 in
theorem kplansX {w : World} {im : List Value} {v : Value} {xs : List Sc} {ms st : Int} (him : im.length = 12) (hi : im[8]? = some v) (hi9 : im[9]? = some (.int .i64 ms)) (hi10 : im[10]? = some (.int .i64 st)) (hone : im.toArray.all (·.oneCell') = true) (hr : PlG w v xs) (hok : ∀ x ∈ xs, scOk x) (hms : I64R ms) (hst : I64R st) (hl : psum xs ≤ 274877906944) : Calls Tryz.prog 35 #[.agg im.toArray] w (LdR w (eachS (planD (lanesL xs)) xs (numD 2 st (noneD ms (numD 2 (lanesL xs : Int) (numD 2 (xs.length : Int) ([], 0))))))) := by
  have HOk : Hid (∀ x ∈ xs, scOk x) := hok
  obtain ⟨ao, cap, rfl, q1, q2, q3⟩ := hr
  have HRz : Hid (∀ i (h : i < xs.length), ∃ b o u, ao = some ⟨b, o, none⟩ ∧ w.cell? ⟨b, o + i * 2, none⟩ = some (.int .i64 xs[i].maj) ∧ w.cell? ⟨b, o + i * 2 + 1, none⟩ = some u ∧ LnG w u xs[i].lanes) := q3
  unfold maxLen at q2
  have s9 : (w.alloc (.cells im.toArray 33)).heap.size = w.heap.size + 1 := by simp
  obtain ⟨hb1, hb2, hb3⟩ := ld_begin (w.alloc (.cells im.toArray 33))
  rw [s9] at hb1 hb2 hb3
  have HS0 : Hid (Ld (w.heap.size + 2) (w.heap.size + 2) (((w.alloc (.cells im.toArray 33)).alloc (.cells #[.slice none 0 0, .int .i64 0] 101)).alloc (.cells #[.slice none 0 0, .int .i64 0] 101)) ([], 0) (((w.alloc (.cells im.toArray 33)).alloc (.cells #[.slice none 0 0, .int .i64 0] 101)).alloc (.cells #[.slice none 0 0, .int .i64 0] 101))) := hb1
  have HRes : Hid ((((w.alloc (.cells im.toArray 33)).alloc (.cells #[.slice none 0 0, .int .i64 0] 101)).alloc (.cells #[.slice none 0 0, .int .i64 0] 101)).heap[w.heap.size + 1]? = some (ldC (.slice none 0 0) 0)) := hb2
  have HB9 : Hid (Below (w.heap.size + 1) (w.alloc (.cells im.toArray 33)) (((w.alloc (.cells im.toArray 33)).alloc (.cells #[.slice none 0 0, .int .i64 0] 101)).alloc (.cells #[.slice none 0 0, .int .i64 0] 101))) := hb3
  have hB0 : Below w.heap.size w (w.alloc (.cells im.toArray 33)) := (Below.refl _ _).alloc (Nat.le_refl _) _
  have HB0 := Lib.hid hB0
  have hbx : (((w.alloc (.cells im.toArray 33)).alloc (.cells #[.slice none 0 0, .int .i64 0] 101)).alloc (.cells #[.slice none 0 0, .int .i64 0] 101)).heap[w.heap.size]? = some (.cells im.toArray 33 (0, 0)) := (hb3.block w.heap.size (Nat.lt_succ_self _)).trans (heap_alloc_new w _)
  have HBox := Lib.hid hbx
  have S9 := Lib.hid s9
  have HI8 : Hid (im[8]? = some (.slice ao xs.length cap) ∧ im[9]? = some (.int .i64 ms) ∧ im[10]? = some (.int .i64 st)) := ⟨hi, hi9, hi10⟩
  have HFst : Hid (0 < xs.length → ∃ b of la lc, ao = some ⟨b, of, none⟩ ∧ w.cell? ⟨b, of + 1, none⟩ = some (.slice la (lanesL xs) lc) ∧ lanesL xs ≤ 9223372036854775807) := fun hp => by
    obtain ⟨b, of, u, e, _, hc, hL⟩ := q3 0 hp
    obtain ⟨la, lc, rfl, k1, k2, _⟩ := hL
    unfold maxLen at k2
    have e2 : xs[0].lanes.length = lanesL xs := by
      cases xs with
      | nil => simp at hp
      | cons p ps => rfl
    rw [e2] at hc k1
    refine ⟨b, of, la, lc, e, ?_, by omega⟩
    simpa using hc
  clear q3 hB0 hb1 hb2 hb3 hbx s9 hi hi9 hi10 hok
  obtain ⟨n, hn⟩ : ∃ n, xs.length = n := ⟨_, rfl⟩
  obtain ⟨q, hq⟩ : ∃ q, lanesL xs = q := ⟨_, rfl⟩
  have HN := Lib.hid hn
  have HQ0 : Hid (n = 0 → q = 0) := fun e => by
    rw [← hq]
    cases xs with
    | nil => rfl
    | cons p ps => simp at hn; omega
  rw [hn] at q1 HI8 HFst
  rw [hq] at HFst
  rw [hn, hq]
  obtain ⟨s0, hs0⟩ : ∃ s0, numD 2 st (noneD ms (numD 2 (q : Int) (numD 2 (n : Int) ([], 0)))) = s0 := ⟨_, rfl⟩
  have HL0 : Hid (s0.1.length = 8) := show _ = _ by rw [← hs0, num_len, noneD_len, num_len, num_len]; rfl
  obtain ⟨sz, hsz⟩ : ∃ sz, eachS (planD q) xs s0 = sz := ⟨_, rfl⟩
  rw [hs0, hsz]
  have HS00 := Lib.hid hs0
  have HSz := Lib.hid hsz
  have HL : Hid (psum xs ≤ 274877906944) := hl
  have HIn := Lib.hid (info_im him)
  clear hs0 hsz hn hq hl
  go_enter Tryz.func35, Tryz.ntmps35
  go_upto_region 2 with fail
  generalize hG1 : (((w.alloc (.cells im.toArray 33)).alloc (.cells #[.slice none 0 0, .int .i64 0] 101)).alloc (.cells #[.slice none 0 0, .int .i64 0] 101)) = W1 at *
  have HBw : Hid (∀ W t, Ld (w.heap.size + 2) (w.heap.size + 2) W1 t W → Below w.heap.size w W ∧ W.cell? ⟨w.heap.size, 8, none⟩ = some (.slice ao n cap) ∧ W.cell? ⟨w.heap.size, 9, none⟩ = some (.int .i64 ms) ∧ W.cell? ⟨w.heap.size, 10, none⟩ = some (.int .i64 st)) := fun W t hW => by
    have h9 := (hW.bl.block w.heap.size (by omega)).trans HBox.out
    exact ⟨(HB0.out.trans (HB9.out.mono (Nat.le_succ _))).trans (hW.bl.mono (by omega)), (box_cell h9 8).trans HI8.out.1, (box_cell h9 9).trans HI8.out.2.1, (box_cell h9 10).trans HI8.out.2.2⟩
  clear hG1 HBox HI8
  obtain ⟨hbw, c8, c9, c10⟩ := HBw.out _ _ HS0.out
  have HB1 := Lib.hid hbw
  clear hbw
  go_upto_if 13 with fail
  go_cut [4] (fun y wx => y = .int .i64 (q : Int) ∧ wx = W1 ∧ Hid (q ≤ 9223372036854775807))
  case first =>
    by_cases hp : 0 < n
    · obtain ⟨b, of, la, lc, rfl, hc0, hq9⟩ := HFst.out hp
      have hc := cell_low HB1.out hc0
      clear hc0
      have jp : (0 : Int) < (n : Int) := by omega
      go_wp2_with fail
      go_meet
      exact ⟨rfl, rfl, hq9⟩
    · have jp : ¬ (0 : Int) < (n : Int) := by omega
      have hq0 : q = 0 := HQ0.out (by omega)
      go_wp2_with fail
      go_meet
      exact ⟨by rw [hq0]; rfl, rfl, by rw [hq0]; exact Lib.hid (Nat.zero_le _)⟩
  case rest =>
    obtain ⟨rfl, hw, HQ9⟩ := hcut
    have hw := hw.symm
    subst hw
    have hq9 := HQ9.out
    clear HFst HQ0
    go_wp2_with fail
    refine (knum2X HS0.out (k := (n : Int)) ⟨by omega, by omega⟩ (by decide)).mono ?_
    rintro e w1 ⟨rfl, h1'⟩
    have H1 := Lib.hid h1'
    clear c8 c9 c10
    obtain ⟨_, c8, c9, c10⟩ := HBw.out _ _ h1'
    clear h1' HS0
    go_wp2_with fail
    refine (knum2X H1.out (k := (q : Int)) ⟨by omega, by omega⟩ (by rw [num_len]; exact (by decide : 0 + 2 ≤ 549755813888))).mono ?_
    rintro e w2 ⟨rfl, h2'⟩
    have H2 := Lib.hid h2'
    clear c8 c9 c10
    obtain ⟨_, c8, c9, c10⟩ := HBw.out _ _ h2'
    clear h2' H1
    go_wp2_with fail
    refine (knoneX H2.out (k := ms) hms (by rw [num_len, num_len]; exact (by decide : 0 + 2 + 2 ≤ 549755813888))).mono ?_
    rintro e w3 ⟨rfl, h3'⟩
    have H3 := Lib.hid h3'
    clear c8 c9 c10
    obtain ⟨_, c8, c9, c10⟩ := HBw.out _ _ h3'
    clear h3' H2
    go_wp2_with fail
    refine (knum2X H3.out (k := st) hst (by rw [noneD_len, num_len, num_len]; exact (by decide : 0 + 2 + 2 + 2 ≤ 549755813888))).mono ?_
    rintro e w4 ⟨rfl, h4'⟩
    rw [HS00.out] at h4'
    have H0 : Hid (Ld (w.heap.size + 2) (w.heap.size + 2) W1 (eachS (planD q) (xs.take 0) s0) w4) := Lib.hid h4'
    clear c9 c10 c8
    obtain ⟨_, c8, c9, c10⟩ := HBw.out _ _ h4'
    clear h4' H3 c9 c10
    go_wp2_with fail
    clear c8
    go_loopw [5] (fun iv wr => ∃ i : Nat, i ≤ n ∧ iv = .int .i64 (i : Int) ∧ Hid (Ld (w.heap.size + 2) (w.heap.size + 2) W1 (eachS (planD q) (xs.take i) s0) wr)) (fun iv _ => n - (intOf iv).toNat)
    case atStart => exact ⟨0, Nat.zero_le _, rfl, H0⟩
    case round =>
      clear H0
      obtain ⟨i, hi, rfl, HI⟩ := hrel
      by_cases hin : i < n
      · have ji : (i : Int) < (n : Int) := by omega
        have hix : i < xs.length := by rw [HN.out]; exact hin
        have hw1 : IntKind.i64.wrap ((i : Int) + 1) = ((i + 1 : Nat) : Int) := by rw [IntKind.wrap_i64]; omega
        obtain ⟨b, of, u, rfl, z0, z1, zL⟩ := HRz.out i hix
        obtain ⟨la, lc, rfl, g1, g2, g3⟩ := zL
        clear HRz
        have HLn : Hid (∀ j (h : j < xs[i].lanes.length), ∃ b o u, la = some ⟨b, o, none⟩ ∧ w.cell? ⟨b, o + j, none⟩ = some u ∧ RowG 2 stE w u xs[i].lanes[j]) := g3
        clear g3
        have HC0 : Hid (w.cell? ⟨b, of + i * 2, none⟩ = some (.int .i64 xs[i].maj) ∧ w.cell? ⟨b, of + i * 2 + 1, none⟩ = some (.slice la xs[i].lanes.length lc)) := ⟨z0, z1⟩
        clear z0 z1
        have HOk1 : Hid (scOk xs[i]) := HOk.out xs[i] (List.getElem_mem _)
        have HE : Hid (eachS (planD q) (xs.take (i + 1)) s0 = planD q xs[i] (eachS (planD q) (xs.take i) s0)) := eachS_take _ _ _ _ hix
        have HLi : Hid ((eachS (planD q) (xs.take i) s0).1.length + 8 + lsum xs[i].lanes ≤ 300000000000) := show _ ≤ _ by
          rw [plansD_len, HL0.out]
          have := psum_take xs i hix
          have := HL.out
          omega
        generalize eachS (planD q) (xs.take i) s0 = si at HI HE HLi
        generalize xs[i] = x at *
        obtain ⟨x0, ls⟩ := x
        obtain ⟨hmj, hls⟩ := HOk1.out
        simp only at hmj hls g1 HC0 HLn HLi
        have HLs : Hid (∀ l ∈ ls, lnOk l) := hls
        clear hls HOk1
        obtain ⟨r, hr⟩ : ∃ r, ls.length = r := ⟨_, rfl⟩
        have HR := Lib.hid hr
        rw [hr] at g1 HC0
        unfold maxLen at g2
        have HCell : Hid (∀ W t, Ld (w.heap.size + 2) (w.heap.size + 2) W1 t W → W.cell? ⟨w.heap.size, 8, none⟩ = some (.slice (some ⟨b, of, none⟩) n cap) ∧ W.cell? ⟨b, of + i * 2, none⟩ = some (.int .i64 x0) ∧ W.cell? ⟨b, of + i * 2 + 1, none⟩ = some (.slice la r lc)) := fun W t hW => by
          obtain ⟨hb, e8, _, _⟩ := HBw.out W t hW
          exact ⟨e8, cell_low hb HC0.out.1, cell_low hb HC0.out.2⟩
        have HEp : Hid (planD q ⟨x0, ls⟩ si = eachS laneD ls (zerosS 4 (numD 4 x0 (fieldS (decide (r = q)) si)))) := show _ = _ by rw [planD]; simp only [hr]
        clear hr
        obtain ⟨c8, d0, d1⟩ := HCell.out _ _ HI.out
        obtain ⟨wA, hwA⟩ : ∃ x, x = wr := ⟨_, rfl⟩
        subst hwA
        go_upto_if 47 with fail
        go_cut [] (fun wx => Hid (Ld (w.heap.size + 2) (w.heap.size + 2) W1 (fieldS (decide (r = q)) si) wx))
        case first =>
          by_cases he : r = q
          · have HD9 : Hid (decide (r = q) = true) := decide_eq_true he
            have d9 : ((r : Int) != (q : Int)) = false := by rw [he]; simp
            clear he
            go_wp2_with fail
            go_meet
            exact (by rw [HD9.out]; exact HI)
          · have HD9 : Hid (decide (r = q) = false) := decide_eq_false he
            have d9 : ((r : Int) != (q : Int)) = true := by simp; omega
            clear he
            go_wp2_with fail
            refine (krefuseX HI.out).mono ?_
            rintro e w5 ⟨rfl, h5⟩
            have H5 := Lib.hid h5
            clear h5
            go_wp2_with fail
            go_meet
            exact (by rw [HD9.out]; exact H5)
        case rest =>
          have HI5 := hcut
          clear hcut HI c8 d0 d1
          obtain ⟨wB, hwB⟩ : ∃ x, x = wc := ⟨_, rfl⟩
          subst hwB
          obtain ⟨c8, d0, d1⟩ := HCell.out _ _ HI5.out
          go_wp2_with fail
          refine (knum4X HI5.out (k := x0) hmj (by rw [field_len]; have := HLi.out; omega)).mono ?_
          rintro e w6 ⟨rfl, h6⟩
          have H6 := Lib.hid h6
          clear h6 HI5 c8 d0 d1
          go_wp2_with fail
          refine (kzeros4X H6.out (by rw [num_len, field_len]; have := HLi.out; omega)).mono ?_
          rintro e w7 ⟨rfl, h7⟩
          obtain ⟨s1, hs1⟩ : ∃ s1, zerosS 4 (numD 4 x0 (fieldS (decide (r = q)) si)) = s1 := ⟨_, rfl⟩
          rw [hs1] at h7 HEp
          have HLs1 : Hid (s1.1.length + lsum ls ≤ 300000000000) := show _ ≤ _ by rw [← hs1, zeros_len, num_len, field_len]; have := HLi.out; omega
          have H7 : Hid (Ld (w.heap.size + 2) (w.heap.size + 2) W1 (eachS laneD (ls.take 0) s1) w7) := Lib.hid h7
          clear h7 H6 hs1 HLi
          go_wp2_with fail
          go_loopw [6] (fun kv wr => ∃ k : Nat, k ≤ r ∧ kv = .int .i64 (k : Int) ∧ Hid (Ld (w.heap.size + 2) (w.heap.size + 2) W1 (eachS laneD (ls.take k) s1) wr)) (fun kv _ => r - (intOf kv).toNat)
          case atStart => exact ⟨0, Nat.zero_le _, rfl, H7⟩
          case round =>
            clear H7
            obtain ⟨k, hk, rfl, HK⟩ := hrel
            obtain ⟨c8, d0, d1⟩ := HCell.out _ _ HK.out
            clear d0
            by_cases hkr : k < r
            · have jk : (k : Int) < (r : Int) := by omega
              have hkx : k < ls.length := by rw [HR.out]; exact hkr
              have hw2 : IntKind.i64.wrap ((k : Int) + 1) = ((k + 1 : Nat) : Int) := by rw [IntKind.wrap_i64]; omega
              obtain ⟨b2, o2, u2, rfl, z2, zR⟩ := HLn.out k hkx
              obtain ⟨ka, kc, rfl, y1, y2, y3⟩ := zR
              unfold maxLen at y2
              have HRw : Hid (∀ j (h : j < ls[k].length), ∃ b o, ka = some ⟨b, o, none⟩ ∧ b < w.heap.size ∧ ∀ p, p < 2 → w.cell? ⟨b, o + j * 2 + p, none⟩ = (stE ls[k][j])[p]?) := y3
              clear y3
              have HC2 : Hid (w.cell? ⟨b2, o2 + k, none⟩ = some (.slice ka ls[k].length kc)) := z2
              clear z2
              have HOl : Hid (lnOk ls[k]) := HLs.out ls[k] (List.getElem_mem _)
              have HEk : Hid (eachS laneD (ls.take (k + 1)) s1 = laneD ls[k] (eachS laneD (ls.take k) s1)) := eachS_take _ _ _ _ hkx
              have HLk : Hid ((eachS laneD (ls.take k) s1).1.length + 8 + 8 * ls[k].length ≤ 300000000000) := show _ ≤ _ by
                rw [lanesD_len]
                have := lsum_take ls k hkx
                have := HLs1.out
                omega
              generalize eachS laneD (ls.take k) s1 = sk at HK HEk HLk
              generalize ls[k] = l at *
              obtain ⟨y, hy⟩ : ∃ y, l.length = y := ⟨_, rfl⟩
              have HY := Lib.hid hy
              have HEl : Hid (laneD l sk = eachS stD l (manyD y sk)) := show _ = _ by rw [laneD, hy]
              rw [hy] at y1 HC2 HLk
              clear hy
              have HCell2 : Hid (∀ W t, Ld (w.heap.size + 2) (w.heap.size + 2) W1 t W → W.cell? ⟨b2, o2 + k, none⟩ = some (.slice ka y kc)) := fun W t hW => cell_low (HBw.out W t hW).1 HC2.out
              have d2 := HCell2.out _ _ HK.out
              obtain ⟨wC, hwC⟩ : ∃ x, x = wr := ⟨_, rfl⟩
              subst hwC
              go_wp2_with fail
              refine (kcountX HK.out (n := y) (by omega) (by have := HLk.out; omega)).mono ?_
              rintro e w8 ⟨rfl, h8⟩
              obtain ⟨s2, hs2⟩ : ∃ s2, manyD y sk = s2 := ⟨_, rfl⟩
              rw [hs2] at h8 HEl
              have HL2 : Hid (s2.1.length + 8 * y ≤ 300000000000) := show _ ≤ _ by rw [← hs2, manyD_len]; exact HLk.out
              have H8 : Hid (Ld (w.heap.size + 2) (w.heap.size + 2) W1 (eachS stD (l.take 0) s2) w8) := Lib.hid h8
              clear h8 HK hs2 HLk c8 d1 d2
              go_wp2_with fail
              go_loopw [8] (fun xv wr => ∃ x : Nat, x ≤ y ∧ xv = .int .i64 (x : Int) ∧ Hid (Ld (w.heap.size + 2) (w.heap.size + 2) W1 (eachS stD (l.take x) s2) wr)) (fun xv _ => y - (intOf xv).toNat)
              case atStart => exact ⟨0, Nat.zero_le _, rfl, H8⟩
              case round =>
                clear H8
                obtain ⟨x, hx, rfl, HX⟩ := hrel
                by_cases hxy : x < y
                · have jx : (x : Int) < (y : Int) := by omega
                  have hxl : x < l.length := by rw [HY.out]; exact hxy
                  have hw3 : IntKind.i64.wrap ((x : Int) + 1) = ((x + 1 : Nat) : Int) := by rw [IntKind.wrap_i64]; omega
                  obtain ⟨b3, o3, rfl, _, z3⟩ := HRw.out x hxl
                  have a0 := z3 0 (by decide)
                  have a1 := z3 1 (by decide)
                  clear z3
                  have hok3 := HOl.out l[x] (List.getElem_mem _)
                  have HEx : Hid (eachS stD (l.take (x + 1)) s2 = stD l[x] (eachS stD (l.take x) s2)) := eachS_take _ _ _ _ hxl
                  have HLx : Hid ((eachS stD (l.take x) s2).1.length + 8 ≤ 300000000000) := show _ ≤ _ by
                    rw [each_len stD_len, List.length_take]
                    have := HL2.out
                    omega
                  generalize eachS stD (l.take x) s2 = sx at HX HEx HLx
                  generalize l[x] = g at *
                  obtain ⟨g0, g9⟩ := g
                  obtain ⟨k0, k1⟩ := hok3
                  simp only [stE, List.getElem?_cons_zero, List.getElem?_cons_succ, Nat.add_zero] at a0 a1
                  have HCx : Hid (∀ W t, Ld (w.heap.size + 2) (w.heap.size + 2) W1 t W → W.cell? ⟨b3, o3 + x * 2, none⟩ = some (.int .i64 g0) ∧ W.cell? ⟨b3, o3 + x * 2 + 1, none⟩ = some (.int .i64 g9)) := by
                    have Ha0 := Lib.hid a0
                    have Ha1 := Lib.hid a1
                    exact fun W t hW => ⟨cell_low (HBw.out W t hW).1 Ha0.out, cell_low (HBw.out W t hW).1 Ha1.out⟩
                  clear a0 a1
                  obtain ⟨e0, e1⟩ := HCx.out _ _ HX.out
                  go_wp2_with fail
                  refine (knoneX HX.out (k := g0) k0 (by have := HLx.out; omega)).mono ?_
                  rintro e w10 ⟨rfl, h10⟩
                  have H10 := Lib.hid h10
                  clear e0 e1
                  obtain ⟨e0, e1⟩ := HCx.out _ _ h10
                  clear h10 HX
                  go_wp2_with fail
                  refine (kzeros2X H10.out (by rw [noneD_len]; have := HLx.out; omega)).mono ?_
                  rintro e w11 ⟨rfl, h11⟩
                  have H11 := Lib.hid h11
                  clear e0 e1
                  obtain ⟨e0, e1⟩ := HCx.out _ _ h11
                  clear h11 H10
                  go_wp2_with fail
                  refine (knum4X H11.out (k := g9) k1 (by rw [zeros_len, noneD_len]; have := HLx.out; omega)).mono ?_
                  rintro e w12 ⟨rfl, h12⟩
                  have H12 : Hid (Ld (w.heap.size + 2) (w.heap.size + 2) W1 (eachS stD (l.take (x + 1)) s2) w12) := Lib.hid (by rw [HEx.out]; exact h12)
                  clear h12 H11 e0 e1
                  go_wp2_with fail
                  go_roundw
                  case rel => exact ⟨x + 1, by omega, rfl, H12⟩
                  case measure => simp [intOf]; omega
                · obtain rfl : x = y := by omega
                  have jx : ¬ (x : Int) < (x : Int) := by omega
                  have HE9 : Hid (eachS stD (l.take x) s2 = eachS laneD (ls.take (k + 1)) s1) := show _ = _ by rw [HEk.out, HEl.out, List.take_of_length_le (by rw [HY.out]; exact Nat.le_refl _)]
                  rw [HE9.out] at HX
                  go_wp2_with fail
                  go_roundw
                  case rel => exact ⟨k + 1, by omega, rfl, HX⟩
                  case measure => simp [intOf]; omega
            · obtain rfl : k = r := by omega
              have jk : ¬ (k : Int) < (k : Int) := by omega
              have HE9 : Hid (eachS laneD (ls.take k) s1 = eachS (planD q) (xs.take (i + 1)) s0) := show _ = _ by rw [HE.out, HEp.out, List.take_of_length_le (by rw [HR.out]; exact Nat.le_refl _)]
              rw [HE9.out] at HK
              go_wp2_with fail
              go_roundw
              case rel => exact ⟨i + 1, by omega, rfl, HK⟩
              case measure => simp [intOf]; omega
      · obtain rfl : i = n := by omega
        have ji : ¬ (i : Int) < (i : Int) := by omega
        have HE : Hid (eachS (planD q) (xs.take i) s0 = sz) := show _ = _ by rw [List.take_of_length_le (by rw [HN.out]; exact Nat.le_refl _), HSz.out]
        rw [HE.out] at HI
        obtain ⟨_, c8, _, _⟩ := HBw.out _ _ HI.out
        obtain ⟨v, h9⟩ := HI.out
        obtain ⟨a9, p9, rfl⟩ := own_slice h9.own
        have d0 := h9.cell0
        have d1 := h9.cell1
        have hr9 := ld_res (N := w.heap.size + 1) HI.out HRes.out
        have g0 : _ = some (Value.slice none 0 0) := cell_of_row _ _ 0 _ _ _ hr9
        have g1 : _ = some (Value.int .i64 0) := cell_of_row _ _ 1 _ _ _ hr9
        have f0 := box_free hr9 0
        have f1 := box_free hr9 1
        have HEnd := Lib.hid (ld_end (N := w.heap.size + 1) h9 HRes.out HB9.out S9.out.symm _ rfl)
        clear h9 hr9 HI HRes HB9 HBw
        go_wp2_with fail
        obtain ⟨k0, k1, kR⟩ := HEnd.out
        refine bodyPost_ret (v := .agg #[.slice a9 sz.1.length p9, .int .i64 sz.2]) (by simp [results, Tryz.results35, go_sem, k0, k1]) rfl (LdR.low HB0.out kR)
end Go.Proofs.YtmfkggngjeolcaaGreatDoor
/- Bundle, the document's own Encode: subjects, channels, irqs, ports (written by parts/gen_ek.py). Own work. -/
namespace Go.Proofs.YtmfkggngjeolcaaGreatDoor
open Go.RowKit Bn Ek
set_option linter.unusedVariables false
set_option linter.unusedSimpArgs false
namespace Ek
def tenD (x : Tn) (s : S) : S := noneD x.root (noneD x.to (numD 1 x.vec (numD 1 x.rule (flagD x.st (numD 1 x.cpu s)))))
def portD (r : Int) (s : S) : S := zerosS 6 (noneD r s)
def chD (c : Lk) (s : S) : S := zerosS 2 (numD 1 c.vec (numD 1 c.eff (noneD c.to (noneD c.fr (fieldS (!c.msk) s)))))
def iqD (c : Lk) (s : S) : S := zerosS 2 (flagD c.msk (numD 1 c.vec (noneD c.to (noneD c.fr (fieldS (decide (c.eff = 1)) s)))))
end Ek
theorem tenD_len (x : Tn) (s : S) : (tenD x s).1.length = s.1.length + 8 := by rw [tenD, noneD_len, noneD_len, num_len, num_len, flagD_len, num_len]
theorem portD_len (x : Int) (s : S) : (portD x s).1.length = s.1.length + 8 := by rw [portD, zeros_len, noneD_len]
theorem chD_len (x : Lk) (s : S) : (chD x s).1.length = s.1.length + 8 := by rw [chD, zeros_len, num_len, num_len, noneD_len, noneD_len, field_len]
theorem iqD_len (x : Lk) (s : S) : (iqD x s).1.length = s.1.length + 8 := by rw [iqD, zeros_len, flagD_len, num_len, noneD_len, noneD_len, field_len]
set_option maxRecDepth 100000 in
set_option maxHeartbeats 8000000 in
theorem ksubjectsX {w : World} {v : Value} {xs : List Tn} (hr : RowG 6 tnE w v xs) (hok : ∀ x ∈ xs, tnOk x) (hl : xs.length ≤ 16000000) : Calls Tryz.prog 30 #[v] w (LdR w (eachS tenD xs (manyD xs.length ([], 0)))) := by
  have HR : Hid (∀ W, Below w.heap.size w W → RowG 6 tnE W v xs) := fun W hW => hr.below hW
  have HOk : Hid (∀ x ∈ xs, tnOk x) := hok
  obtain ⟨ao, cap, rfl, q1, q2, q3⟩ := hr
  clear q3
  unfold maxLen at q2
  obtain ⟨hb1, hb2, hb3⟩ := ld_begin w
  have HS0 := Lib.hid hb1
  have HRes := Lib.hid hb2
  have HB0 := Lib.hid hb3
  obtain ⟨n, hn⟩ : ∃ n, xs.length = n := ⟨_, rfl⟩
  have HN := Lib.hid hn
  rw [hn] at q1 hl HR ⊢
  clear hn hok hb1 hb2 hb3
  obtain ⟨s0, hs0⟩ : ∃ s0, manyD n ([], 0) = s0 := ⟨_, rfl⟩
  have HL0 : Hid (s0.1.length = 8) := show _ = _ by rw [← hs0, manyD_len]; rfl
  have HS00 := Lib.hid hs0
  rw [hs0]
  clear hs0
  go_enter Tryz.func30, Tryz.ntmps30
  go_upto_region 2 with fail
  generalize ((w.alloc (.cells #[.slice none 0 0, .int .i64 0] 101)).alloc (.cells #[.slice none 0 0, .int .i64 0] 101)) = W1 at *
  have HBw : Hid (∀ W t, Ld (w.heap.size + 1) (w.heap.size + 1) W1 t W → Below w.heap.size w W) := fun W t hW => HB0.out.trans (hW.bl.mono (Nat.le_succ _))
  go_wp2_with fail
  refine (kcountX HS0.out (n := n) (by omega) (by decide)).mono ?_
  rintro e w1 ⟨rfl, hc⟩
  rw [HS00.out] at hc
  clear HS0 HS00
  have H0 : Hid (Ld (w.heap.size + 1) (w.heap.size + 1) W1 (eachS tenD (xs.take 0) s0) _) := Lib.hid hc
  clear hc
  go_wp2_with fail
  go_loopw [4] (fun iv wr => ∃ i : Nat, i ≤ n ∧ iv = .int .i64 (i : Int) ∧ Hid (Ld (w.heap.size + 1) (w.heap.size + 1) W1 (eachS tenD (xs.take i) s0) wr)) (fun iv _ => n - (intOf iv).toNat)
  case atStart => exact ⟨0, Nat.zero_le _, rfl, H0⟩
  case round =>
    clear H0
    obtain ⟨i, hi, rfl, HI⟩ := hrel
    by_cases hin : i < n
    · have ji : (i : Int) < (n : Int) := by omega
      have hix : i < xs.length := by rw [HN.out]; exact hin
      have hw1 : IntKind.i64.wrap ((i : Int) + 1) = ((i + 1 : Nat) : Int) := by rw [IntKind.wrap_i64]; omega
      have HCell : Hid (∀ W t, Ld (w.heap.size + 1) (w.heap.size + 1) W1 t W → ∃ b of, ao = some ⟨b, of, none⟩ ∧ ∀ j, j < 6 → W.cell? ⟨b, of + i * 6 + j, none⟩ = (tnE xs[i])[j]?) := fun W t hW => by
        obtain ⟨_, _, e', _, _, hc⟩ := HR.out W (HBw.out W t hW)
        simp only [Value.slice.injEq] at e'
        obtain ⟨rfl, e9, rfl⟩ := e'
        obtain ⟨b, of, e, _, hc⟩ := hc i hix
        exact ⟨b, of, e, hc⟩
      obtain ⟨b, of, rfl, hz⟩ := HCell.out _ _ HI.out
      clear hz
      have hok1 := HOk.out xs[i] (List.getElem_mem _)
      have HE : Hid (eachS tenD (xs.take (i + 1)) s0 = tenD xs[i] (eachS tenD (xs.take i) s0)) := eachS_take _ _ _ _ hix
      have HLi : Hid ((eachS tenD (xs.take i) s0).1.length + 32 ≤ 549755813888) := show _ ≤ _ by
        rw [each_len tenD_len, List.length_take, HL0.out]
        omega
      generalize eachS tenD (xs.take i) s0 = si at HI HE HLi
      generalize xs[i] = x at *
      obtain ⟨x0, x1, x2, x3, x4, x5⟩ := x
      obtain ⟨k0, k1, k3, k4, k5⟩ := hok1
      replace HCell : Hid (∀ W t, Ld (w.heap.size + 1) (w.heap.size + 1) W1 t W → W.cell? ⟨b, of + i * 6, none⟩ = some (.int .i64 x0) ∧ W.cell? ⟨b, of + i * 6 + 1, none⟩ = some (.int .i64 x1) ∧ W.cell? ⟨b, of + i * 6 + 2, none⟩ = some (.bool x2) ∧ W.cell? ⟨b, of + i * 6 + 3, none⟩ = some (.int .i64 x3) ∧ W.cell? ⟨b, of + i * 6 + 4, none⟩ = some (.int .i64 x4) ∧ W.cell? ⟨b, of + i * 6 + 5, none⟩ = some (.int .i64 x5)) := fun W t hW => by
        obtain ⟨_, _, e, hc⟩ := HCell.out W t hW
        cases e
        refine ⟨?_, ?_, ?_, ?_, ?_, ?_⟩
        · exact (hc 0 (by decide)).trans rfl
        · exact (hc 1 (by decide)).trans rfl
        · exact (hc 2 (by decide)).trans rfl
        · exact (hc 3 (by decide)).trans rfl
        · exact (hc 4 (by decide)).trans rfl
        · exact (hc 5 (by decide)).trans rfl
      obtain ⟨c0, c1, c2, c3, c4, c5⟩ := HCell.out _ _ HI.out
      go_wp2_with fail
      refine (knum1X HI.out (k := x0) k0 (by (try simp only [num_len, noneD_len, flagD_len, manyD_len, zeros_len, long_len, field_len]); have := HLi.out; omega)).mono ?_
      rintro e w1 ⟨rfl, h1⟩
      clear c0 c1 c2 c3 c4 c5
      obtain ⟨c0, c1, c2, c3, c4, c5⟩ := HCell.out _ _ h1
      have HS1 := Lib.hid h1
      clear h1 HI
      go_wp2_with fail
      refine (kflagX HS1.out (b := x2) (by (try simp only [num_len, noneD_len, flagD_len, manyD_len, zeros_len, long_len, field_len]); have := HLi.out; omega)).mono ?_
      rintro e w2 ⟨rfl, h2⟩
      clear c0 c1 c2 c3 c4 c5
      obtain ⟨c0, c1, c2, c3, c4, c5⟩ := HCell.out _ _ h2
      have HS2 := Lib.hid h2
      clear h2 HS1
      go_wp2_with fail
      refine (knum1X HS2.out (k := x3) k3 (by (try simp only [num_len, noneD_len, flagD_len, manyD_len, zeros_len, long_len, field_len]); have := HLi.out; omega)).mono ?_
      rintro e w3 ⟨rfl, h3⟩
      clear c0 c1 c2 c3 c4 c5
      obtain ⟨c0, c1, c2, c3, c4, c5⟩ := HCell.out _ _ h3
      have HS3 := Lib.hid h3
      clear h3 HS2
      go_wp2_with fail
      refine (knum1X HS3.out (k := x5) k5 (by (try simp only [num_len, noneD_len, flagD_len, manyD_len, zeros_len, long_len, field_len]); have := HLi.out; omega)).mono ?_
      rintro e w4 ⟨rfl, h4⟩
      clear c0 c1 c2 c3 c4 c5
      obtain ⟨c0, c1, c2, c3, c4, c5⟩ := HCell.out _ _ h4
      have HS4 := Lib.hid h4
      clear h4 HS3
      go_wp2_with fail
      refine (knoneX HS4.out (k := x4) k4 (by (try simp only [num_len, noneD_len, flagD_len, manyD_len, zeros_len, long_len, field_len]); have := HLi.out; omega)).mono ?_
      rintro e w5 ⟨rfl, h5⟩
      clear c0 c1 c2 c3 c4 c5
      obtain ⟨c0, c1, c2, c3, c4, c5⟩ := HCell.out _ _ h5
      have HS5 := Lib.hid h5
      clear h5 HS4
      go_wp2_with fail
      refine (knoneX HS5.out (k := x1) k1 (by (try simp only [num_len, noneD_len, flagD_len, manyD_len, zeros_len, long_len, field_len]); have := HLi.out; omega)).mono ?_
      rintro e w6 ⟨rfl, h6⟩
      clear c0 c1 c2 c3 c4 c5
      obtain ⟨c0, c1, c2, c3, c4, c5⟩ := HCell.out _ _ h6
      have HS6 := Lib.hid h6
      clear h6 HS5
      go_wp2_with fail
      go_roundw
      case rel => exact ⟨i + 1, by omega, rfl, by rw [HE.out]; exact HS6⟩
      case measure => simp [intOf]; omega
    · obtain rfl : i = n := by omega
      have ji : ¬ (i : Int) < (i : Int) := by omega
      have HE : Hid (eachS tenD (xs.take i) s0 = eachS tenD xs s0) := show _ = _ by rw [List.take_of_length_le (by rw [HN.out]; exact Nat.le_refl _)]
      rw [HE.out] at HI
      generalize eachS tenD xs s0 = sz at *
      obtain ⟨v, h9⟩ := HI.out
      obtain ⟨a9, p9, rfl⟩ := own_slice h9.own
      have d0 := h9.cell0
      have d1 := h9.cell1
      have hr9 := ld_res HI.out HRes.out
      have g0 : _ = some (Value.slice none 0 0) := cell_of_row _ _ 0 _ _ _ hr9
      have g1 : _ = some (Value.int .i64 0) := cell_of_row _ _ 1 _ _ _ hr9
      have f0 := box_free hr9 0
      have f1 := box_free hr9 1
      have HEnd := Lib.hid (ld_end h9 HRes.out HB0.out rfl _ rfl)
      clear h9 hr9 HI HRes HB0 HBw
      go_wp2_with fail
      obtain ⟨k0, k1, kR⟩ := HEnd.out
      refine bodyPost_ret (by simp [results, Tryz.results30, go_sem, k0, k1]) rfl kR
set_option maxRecDepth 100000 in
set_option maxHeartbeats 8000000 in
theorem kchannelsX {w : World} {v : Value} {xs : List Lk} (hr : RowG 5 lkE w v xs) (hok : ∀ x ∈ xs, lkOk x) (hl : xs.length ≤ 16000000) : Calls Tryz.prog 33 #[v] w (LdR w (eachS chD xs (manyD xs.length ([], 0)))) := by
  have HR : Hid (∀ W, Below w.heap.size w W → RowG 5 lkE W v xs) := fun W hW => hr.below hW
  have HOk : Hid (∀ x ∈ xs, lkOk x) := hok
  obtain ⟨ao, cap, rfl, q1, q2, q3⟩ := hr
  clear q3
  unfold maxLen at q2
  obtain ⟨hb1, hb2, hb3⟩ := ld_begin w
  have HS0 := Lib.hid hb1
  have HRes := Lib.hid hb2
  have HB0 := Lib.hid hb3
  obtain ⟨n, hn⟩ : ∃ n, xs.length = n := ⟨_, rfl⟩
  have HN := Lib.hid hn
  rw [hn] at q1 hl HR ⊢
  clear hn hok hb1 hb2 hb3
  obtain ⟨s0, hs0⟩ : ∃ s0, manyD n ([], 0) = s0 := ⟨_, rfl⟩
  have HL0 : Hid (s0.1.length = 8) := show _ = _ by rw [← hs0, manyD_len]; rfl
  have HS00 := Lib.hid hs0
  rw [hs0]
  clear hs0
  go_enter Tryz.func33, Tryz.ntmps33
  go_upto_region 2 with fail
  generalize ((w.alloc (.cells #[.slice none 0 0, .int .i64 0] 101)).alloc (.cells #[.slice none 0 0, .int .i64 0] 101)) = W1 at *
  have HBw : Hid (∀ W t, Ld (w.heap.size + 1) (w.heap.size + 1) W1 t W → Below w.heap.size w W) := fun W t hW => HB0.out.trans (hW.bl.mono (Nat.le_succ _))
  go_wp2_with fail
  refine (kcountX HS0.out (n := n) (by omega) (by decide)).mono ?_
  rintro e w1 ⟨rfl, hc⟩
  rw [HS00.out] at hc
  clear HS0 HS00
  have H0 : Hid (Ld (w.heap.size + 1) (w.heap.size + 1) W1 (eachS chD (xs.take 0) s0) _) := Lib.hid hc
  clear hc
  go_wp2_with fail
  go_loopw [4] (fun iv wr => ∃ i : Nat, i ≤ n ∧ iv = .int .i64 (i : Int) ∧ Hid (Ld (w.heap.size + 1) (w.heap.size + 1) W1 (eachS chD (xs.take i) s0) wr)) (fun iv _ => n - (intOf iv).toNat)
  case atStart => exact ⟨0, Nat.zero_le _, rfl, H0⟩
  case round =>
    clear H0
    obtain ⟨i, hi, rfl, HI⟩ := hrel
    by_cases hin : i < n
    · have ji : (i : Int) < (n : Int) := by omega
      have hix : i < xs.length := by rw [HN.out]; exact hin
      have hw1 : IntKind.i64.wrap ((i : Int) + 1) = ((i + 1 : Nat) : Int) := by rw [IntKind.wrap_i64]; omega
      have HCell : Hid (∀ W t, Ld (w.heap.size + 1) (w.heap.size + 1) W1 t W → ∃ b of, ao = some ⟨b, of, none⟩ ∧ ∀ j, j < 5 → W.cell? ⟨b, of + i * 5 + j, none⟩ = (lkE xs[i])[j]?) := fun W t hW => by
        obtain ⟨_, _, e', _, _, hc⟩ := HR.out W (HBw.out W t hW)
        simp only [Value.slice.injEq] at e'
        obtain ⟨rfl, e9, rfl⟩ := e'
        obtain ⟨b, of, e, _, hc⟩ := hc i hix
        exact ⟨b, of, e, hc⟩
      obtain ⟨b, of, rfl, hz⟩ := HCell.out _ _ HI.out
      clear hz
      have hok1 := HOk.out xs[i] (List.getElem_mem _)
      have HE : Hid (eachS chD (xs.take (i + 1)) s0 = chD xs[i] (eachS chD (xs.take i) s0)) := eachS_take _ _ _ _ hix
      have HLi : Hid ((eachS chD (xs.take i) s0).1.length + 32 ≤ 549755813888) := show _ ≤ _ by
        rw [each_len chD_len, List.length_take, HL0.out]
        omega
      generalize eachS chD (xs.take i) s0 = si at HI HE HLi
      generalize xs[i] = x at *
      obtain ⟨x0, x1, x2, x3, x4⟩ := x
      obtain ⟨k0, k1, k2, k3⟩ := hok1
      replace HCell : Hid (∀ W t, Ld (w.heap.size + 1) (w.heap.size + 1) W1 t W → W.cell? ⟨b, of + i * 5, none⟩ = some (.int .i64 x0) ∧ W.cell? ⟨b, of + i * 5 + 1, none⟩ = some (.int .i64 x1) ∧ W.cell? ⟨b, of + i * 5 + 2, none⟩ = some (.int .i64 x2) ∧ W.cell? ⟨b, of + i * 5 + 3, none⟩ = some (.int .i64 x3) ∧ W.cell? ⟨b, of + i * 5 + 4, none⟩ = some (.bool x4)) := fun W t hW => by
        obtain ⟨_, _, e, hc⟩ := HCell.out W t hW
        cases e
        refine ⟨?_, ?_, ?_, ?_, ?_⟩
        · exact (hc 0 (by decide)).trans rfl
        · exact (hc 1 (by decide)).trans rfl
        · exact (hc 2 (by decide)).trans rfl
        · exact (hc 3 (by decide)).trans rfl
        · exact (hc 4 (by decide)).trans rfl
      obtain ⟨c0, c1, c2, c3, c4⟩ := HCell.out _ _ HI.out
      cases x4
      · skip
        go_wp2_with fail
        refine (knoneX HI.out (k := x0) k0 (by (try simp only [num_len, noneD_len, flagD_len, manyD_len, zeros_len, long_len, field_len]); have := HLi.out; omega)).mono ?_
        rintro e w1 ⟨rfl, h1⟩
        clear c0 c1 c2 c3 c4
        obtain ⟨c0, c1, c2, c3, c4⟩ := HCell.out _ _ h1
        have HS1 := Lib.hid h1
        clear h1 HI
        go_wp2_with fail
        refine (knoneX HS1.out (k := x1) k1 (by (try simp only [num_len, noneD_len, flagD_len, manyD_len, zeros_len, long_len, field_len]); have := HLi.out; omega)).mono ?_
        rintro e w2 ⟨rfl, h2⟩
        clear c0 c1 c2 c3 c4
        obtain ⟨c0, c1, c2, c3, c4⟩ := HCell.out _ _ h2
        have HS2 := Lib.hid h2
        clear h2 HS1
        go_wp2_with fail
        refine (knum1X HS2.out (k := x2) k2 (by (try simp only [num_len, noneD_len, flagD_len, manyD_len, zeros_len, long_len, field_len]); have := HLi.out; omega)).mono ?_
        rintro e w3 ⟨rfl, h3⟩
        clear c0 c1 c2 c3 c4
        obtain ⟨c0, c1, c2, c3, c4⟩ := HCell.out _ _ h3
        have HS3 := Lib.hid h3
        clear h3 HS2
        go_wp2_with fail
        refine (knum1X HS3.out (k := x3) k3 (by (try simp only [num_len, noneD_len, flagD_len, manyD_len, zeros_len, long_len, field_len]); have := HLi.out; omega)).mono ?_
        rintro e w4 ⟨rfl, h4⟩
        clear c0 c1 c2 c3 c4
        obtain ⟨c0, c1, c2, c3, c4⟩ := HCell.out _ _ h4
        have HS4 := Lib.hid h4
        clear h4 HS3
        go_wp2_with fail
        refine (kzeros2X HS4.out (by (try simp only [num_len, noneD_len, flagD_len, manyD_len, zeros_len, long_len, field_len]); have := HLi.out; omega)).mono ?_
        rintro e w5 ⟨rfl, h5⟩
        clear c0 c1 c2 c3 c4
        obtain ⟨c0, c1, c2, c3, c4⟩ := HCell.out _ _ h5
        have HS5 := Lib.hid h5
        clear h5 HS4
        go_wp2_with fail
        go_roundw
        case rel => exact ⟨i + 1, by omega, rfl, by rw [HE.out]; exact HS5⟩
        case measure => simp [intOf]; omega
      · skip
        go_wp2_with fail
        refine (krefuseX HI.out).mono ?_
        rintro e w1 ⟨rfl, h1⟩
        clear c0 c1 c2 c3 c4
        obtain ⟨c0, c1, c2, c3, c4⟩ := HCell.out _ _ h1
        have HS1 := Lib.hid h1
        clear h1 HI
        go_wp2_with fail
        refine (knoneX HS1.out (k := x0) k0 (by (try simp only [num_len, noneD_len, flagD_len, manyD_len, zeros_len, long_len, field_len]); have := HLi.out; omega)).mono ?_
        rintro e w2 ⟨rfl, h2⟩
        clear c0 c1 c2 c3 c4
        obtain ⟨c0, c1, c2, c3, c4⟩ := HCell.out _ _ h2
        have HS2 := Lib.hid h2
        clear h2 HS1
        go_wp2_with fail
        refine (knoneX HS2.out (k := x1) k1 (by (try simp only [num_len, noneD_len, flagD_len, manyD_len, zeros_len, long_len, field_len]); have := HLi.out; omega)).mono ?_
        rintro e w3 ⟨rfl, h3⟩
        clear c0 c1 c2 c3 c4
        obtain ⟨c0, c1, c2, c3, c4⟩ := HCell.out _ _ h3
        have HS3 := Lib.hid h3
        clear h3 HS2
        go_wp2_with fail
        refine (knum1X HS3.out (k := x2) k2 (by (try simp only [num_len, noneD_len, flagD_len, manyD_len, zeros_len, long_len, field_len]); have := HLi.out; omega)).mono ?_
        rintro e w4 ⟨rfl, h4⟩
        clear c0 c1 c2 c3 c4
        obtain ⟨c0, c1, c2, c3, c4⟩ := HCell.out _ _ h4
        have HS4 := Lib.hid h4
        clear h4 HS3
        go_wp2_with fail
        refine (knum1X HS4.out (k := x3) k3 (by (try simp only [num_len, noneD_len, flagD_len, manyD_len, zeros_len, long_len, field_len]); have := HLi.out; omega)).mono ?_
        rintro e w5 ⟨rfl, h5⟩
        clear c0 c1 c2 c3 c4
        obtain ⟨c0, c1, c2, c3, c4⟩ := HCell.out _ _ h5
        have HS5 := Lib.hid h5
        clear h5 HS4
        go_wp2_with fail
        refine (kzeros2X HS5.out (by (try simp only [num_len, noneD_len, flagD_len, manyD_len, zeros_len, long_len, field_len]); have := HLi.out; omega)).mono ?_
        rintro e w6 ⟨rfl, h6⟩
        clear c0 c1 c2 c3 c4
        obtain ⟨c0, c1, c2, c3, c4⟩ := HCell.out _ _ h6
        have HS6 := Lib.hid h6
        clear h6 HS5
        go_wp2_with fail
        go_roundw
        case rel => exact ⟨i + 1, by omega, rfl, by rw [HE.out]; exact HS6⟩
        case measure => simp [intOf]; omega
    · obtain rfl : i = n := by omega
      have ji : ¬ (i : Int) < (i : Int) := by omega
      have HE : Hid (eachS chD (xs.take i) s0 = eachS chD xs s0) := show _ = _ by rw [List.take_of_length_le (by rw [HN.out]; exact Nat.le_refl _)]
      rw [HE.out] at HI
      generalize eachS chD xs s0 = sz at *
      obtain ⟨v, h9⟩ := HI.out
      obtain ⟨a9, p9, rfl⟩ := own_slice h9.own
      have d0 := h9.cell0
      have d1 := h9.cell1
      have hr9 := ld_res HI.out HRes.out
      have g0 : _ = some (Value.slice none 0 0) := cell_of_row _ _ 0 _ _ _ hr9
      have g1 : _ = some (Value.int .i64 0) := cell_of_row _ _ 1 _ _ _ hr9
      have f0 := box_free hr9 0
      have f1 := box_free hr9 1
      have HEnd := Lib.hid (ld_end h9 HRes.out HB0.out rfl _ rfl)
      clear h9 hr9 HI HRes HB0 HBw
      go_wp2_with fail
      obtain ⟨k0, k1, kR⟩ := HEnd.out
      refine bodyPost_ret (by simp [results, Tryz.results33, go_sem, k0, k1]) rfl kR
set_option maxRecDepth 100000 in
set_option maxHeartbeats 8000000 in
theorem kirqsX {w : World} {v : Value} {xs : List Lk} (hr : RowG 5 lkE w v xs) (hok : ∀ x ∈ xs, lkOk x) (hl : xs.length ≤ 16000000) : Calls Tryz.prog 34 #[v] w (LdR w (eachS iqD xs (manyD xs.length ([], 0)))) := by
  have HR : Hid (∀ W, Below w.heap.size w W → RowG 5 lkE W v xs) := fun W hW => hr.below hW
  have HOk : Hid (∀ x ∈ xs, lkOk x) := hok
  obtain ⟨ao, cap, rfl, q1, q2, q3⟩ := hr
  clear q3
  unfold maxLen at q2
  obtain ⟨hb1, hb2, hb3⟩ := ld_begin w
  have HS0 := Lib.hid hb1
  have HRes := Lib.hid hb2
  have HB0 := Lib.hid hb3
  obtain ⟨n, hn⟩ : ∃ n, xs.length = n := ⟨_, rfl⟩
  have HN := Lib.hid hn
  rw [hn] at q1 hl HR ⊢
  clear hn hok hb1 hb2 hb3
  obtain ⟨s0, hs0⟩ : ∃ s0, manyD n ([], 0) = s0 := ⟨_, rfl⟩
  have HL0 : Hid (s0.1.length = 8) := show _ = _ by rw [← hs0, manyD_len]; rfl
  have HS00 := Lib.hid hs0
  rw [hs0]
  clear hs0
  go_enter Tryz.func34, Tryz.ntmps34
  go_upto_region 2 with fail
  generalize ((w.alloc (.cells #[.slice none 0 0, .int .i64 0] 101)).alloc (.cells #[.slice none 0 0, .int .i64 0] 101)) = W1 at *
  have HBw : Hid (∀ W t, Ld (w.heap.size + 1) (w.heap.size + 1) W1 t W → Below w.heap.size w W) := fun W t hW => HB0.out.trans (hW.bl.mono (Nat.le_succ _))
  go_wp2_with fail
  refine (kcountX HS0.out (n := n) (by omega) (by decide)).mono ?_
  rintro e w1 ⟨rfl, hc⟩
  rw [HS00.out] at hc
  clear HS0 HS00
  have H0 : Hid (Ld (w.heap.size + 1) (w.heap.size + 1) W1 (eachS iqD (xs.take 0) s0) _) := Lib.hid hc
  clear hc
  go_wp2_with fail
  go_loopw [4] (fun iv wr => ∃ i : Nat, i ≤ n ∧ iv = .int .i64 (i : Int) ∧ Hid (Ld (w.heap.size + 1) (w.heap.size + 1) W1 (eachS iqD (xs.take i) s0) wr)) (fun iv _ => n - (intOf iv).toNat)
  case atStart => exact ⟨0, Nat.zero_le _, rfl, H0⟩
  case round =>
    clear H0
    obtain ⟨i, hi, rfl, HI⟩ := hrel
    by_cases hin : i < n
    · have ji : (i : Int) < (n : Int) := by omega
      have hix : i < xs.length := by rw [HN.out]; exact hin
      have hw1 : IntKind.i64.wrap ((i : Int) + 1) = ((i + 1 : Nat) : Int) := by rw [IntKind.wrap_i64]; omega
      have HCell : Hid (∀ W t, Ld (w.heap.size + 1) (w.heap.size + 1) W1 t W → ∃ b of, ao = some ⟨b, of, none⟩ ∧ ∀ j, j < 5 → W.cell? ⟨b, of + i * 5 + j, none⟩ = (lkE xs[i])[j]?) := fun W t hW => by
        obtain ⟨_, _, e', _, _, hc⟩ := HR.out W (HBw.out W t hW)
        simp only [Value.slice.injEq] at e'
        obtain ⟨rfl, e9, rfl⟩ := e'
        obtain ⟨b, of, e, _, hc⟩ := hc i hix
        exact ⟨b, of, e, hc⟩
      obtain ⟨b, of, rfl, hz⟩ := HCell.out _ _ HI.out
      clear hz
      have hok1 := HOk.out xs[i] (List.getElem_mem _)
      have HE : Hid (eachS iqD (xs.take (i + 1)) s0 = iqD xs[i] (eachS iqD (xs.take i) s0)) := eachS_take _ _ _ _ hix
      have HLi : Hid ((eachS iqD (xs.take i) s0).1.length + 32 ≤ 549755813888) := show _ ≤ _ by
        rw [each_len iqD_len, List.length_take, HL0.out]
        omega
      generalize eachS iqD (xs.take i) s0 = si at HI HE HLi
      generalize xs[i] = x at *
      obtain ⟨x0, x1, x2, x3, x4⟩ := x
      obtain ⟨k0, k1, k2, k3⟩ := hok1
      replace HCell : Hid (∀ W t, Ld (w.heap.size + 1) (w.heap.size + 1) W1 t W → W.cell? ⟨b, of + i * 5, none⟩ = some (.int .i64 x0) ∧ W.cell? ⟨b, of + i * 5 + 1, none⟩ = some (.int .i64 x1) ∧ W.cell? ⟨b, of + i * 5 + 2, none⟩ = some (.int .i64 x2) ∧ W.cell? ⟨b, of + i * 5 + 3, none⟩ = some (.int .i64 x3) ∧ W.cell? ⟨b, of + i * 5 + 4, none⟩ = some (.bool x4)) := fun W t hW => by
        obtain ⟨_, _, e, hc⟩ := HCell.out W t hW
        cases e
        refine ⟨?_, ?_, ?_, ?_, ?_⟩
        · exact (hc 0 (by decide)).trans rfl
        · exact (hc 1 (by decide)).trans rfl
        · exact (hc 2 (by decide)).trans rfl
        · exact (hc 3 (by decide)).trans rfl
        · exact (hc 4 (by decide)).trans rfl
      obtain ⟨c0, c1, c2, c3, c4⟩ := HCell.out _ _ HI.out
      by_cases he : x2 = 1
      · subst he
        go_wp2_with fail
        refine (knoneX HI.out (k := x0) k0 (by (try simp only [num_len, noneD_len, flagD_len, manyD_len, zeros_len, long_len, field_len]); have := HLi.out; omega)).mono ?_
        rintro e w1 ⟨rfl, h1⟩
        clear c0 c1 c2 c3 c4
        obtain ⟨c0, c1, c2, c3, c4⟩ := HCell.out _ _ h1
        have HS1 := Lib.hid h1
        clear h1 HI
        go_wp2_with fail
        refine (knoneX HS1.out (k := x1) k1 (by (try simp only [num_len, noneD_len, flagD_len, manyD_len, zeros_len, long_len, field_len]); have := HLi.out; omega)).mono ?_
        rintro e w2 ⟨rfl, h2⟩
        clear c0 c1 c2 c3 c4
        obtain ⟨c0, c1, c2, c3, c4⟩ := HCell.out _ _ h2
        have HS2 := Lib.hid h2
        clear h2 HS1
        go_wp2_with fail
        refine (knum1X HS2.out (k := x3) k3 (by (try simp only [num_len, noneD_len, flagD_len, manyD_len, zeros_len, long_len, field_len]); have := HLi.out; omega)).mono ?_
        rintro e w3 ⟨rfl, h3⟩
        clear c0 c1 c2 c3 c4
        obtain ⟨c0, c1, c2, c3, c4⟩ := HCell.out _ _ h3
        have HS3 := Lib.hid h3
        clear h3 HS2
        go_wp2_with fail
        refine (kflagX HS3.out (b := x4) (by (try simp only [num_len, noneD_len, flagD_len, manyD_len, zeros_len, long_len, field_len]); have := HLi.out; omega)).mono ?_
        rintro e w4 ⟨rfl, h4⟩
        clear c0 c1 c2 c3 c4
        obtain ⟨c0, c1, c2, c3, c4⟩ := HCell.out _ _ h4
        have HS4 := Lib.hid h4
        clear h4 HS3
        go_wp2_with fail
        refine (kzeros2X HS4.out (by (try simp only [num_len, noneD_len, flagD_len, manyD_len, zeros_len, long_len, field_len]); have := HLi.out; omega)).mono ?_
        rintro e w5 ⟨rfl, h5⟩
        clear c0 c1 c2 c3 c4
        obtain ⟨c0, c1, c2, c3, c4⟩ := HCell.out _ _ h5
        have HS5 := Lib.hid h5
        clear h5 HS4
        go_wp2_with fail
        go_roundw
        case rel => exact ⟨i + 1, by omega, rfl, by rw [HE.out]; exact HS5⟩
        case measure => simp [intOf]; omega
      · have HD9 : Hid (decide (x2 = 1) = false) := decide_eq_false he
        have d9 : (x2 == 1) = false := by simpa using he
        go_wp2_with fail
        refine (krefuseX HI.out).mono ?_
        rintro e w1 ⟨rfl, h1⟩
        clear c0 c1 c2 c3 c4
        obtain ⟨c0, c1, c2, c3, c4⟩ := HCell.out _ _ h1
        have HS1 := Lib.hid h1
        clear h1 HI
        go_wp2_with fail
        refine (knoneX HS1.out (k := x0) k0 (by (try simp only [num_len, noneD_len, flagD_len, manyD_len, zeros_len, long_len, field_len]); have := HLi.out; omega)).mono ?_
        rintro e w2 ⟨rfl, h2⟩
        clear c0 c1 c2 c3 c4
        obtain ⟨c0, c1, c2, c3, c4⟩ := HCell.out _ _ h2
        have HS2 := Lib.hid h2
        clear h2 HS1
        go_wp2_with fail
        refine (knoneX HS2.out (k := x1) k1 (by (try simp only [num_len, noneD_len, flagD_len, manyD_len, zeros_len, long_len, field_len]); have := HLi.out; omega)).mono ?_
        rintro e w3 ⟨rfl, h3⟩
        clear c0 c1 c2 c3 c4
        obtain ⟨c0, c1, c2, c3, c4⟩ := HCell.out _ _ h3
        have HS3 := Lib.hid h3
        clear h3 HS2
        go_wp2_with fail
        refine (knum1X HS3.out (k := x3) k3 (by (try simp only [num_len, noneD_len, flagD_len, manyD_len, zeros_len, long_len, field_len]); have := HLi.out; omega)).mono ?_
        rintro e w4 ⟨rfl, h4⟩
        clear c0 c1 c2 c3 c4
        obtain ⟨c0, c1, c2, c3, c4⟩ := HCell.out _ _ h4
        have HS4 := Lib.hid h4
        clear h4 HS3
        go_wp2_with fail
        refine (kflagX HS4.out (b := x4) (by (try simp only [num_len, noneD_len, flagD_len, manyD_len, zeros_len, long_len, field_len]); have := HLi.out; omega)).mono ?_
        rintro e w5 ⟨rfl, h5⟩
        clear c0 c1 c2 c3 c4
        obtain ⟨c0, c1, c2, c3, c4⟩ := HCell.out _ _ h5
        have HS5 := Lib.hid h5
        clear h5 HS4
        go_wp2_with fail
        refine (kzeros2X HS5.out (by (try simp only [num_len, noneD_len, flagD_len, manyD_len, zeros_len, long_len, field_len]); have := HLi.out; omega)).mono ?_
        rintro e w6 ⟨rfl, h6⟩
        clear c0 c1 c2 c3 c4
        obtain ⟨c0, c1, c2, c3, c4⟩ := HCell.out _ _ h6
        have HS6 := Lib.hid h6
        clear h6 HS5
        go_wp2_with fail
        go_roundw
        case rel => exact ⟨i + 1, by omega, rfl, by rw [HE.out]; unfold iqD; simp only [HD9.out]; exact HS6⟩
        case measure => simp [intOf]; omega
    · obtain rfl : i = n := by omega
      have ji : ¬ (i : Int) < (i : Int) := by omega
      have HE : Hid (eachS iqD (xs.take i) s0 = eachS iqD xs s0) := show _ = _ by rw [List.take_of_length_le (by rw [HN.out]; exact Nat.le_refl _)]
      rw [HE.out] at HI
      generalize eachS iqD xs s0 = sz at *
      obtain ⟨v, h9⟩ := HI.out
      obtain ⟨a9, p9, rfl⟩ := own_slice h9.own
      have d0 := h9.cell0
      have d1 := h9.cell1
      have hr9 := ld_res HI.out HRes.out
      have g0 : _ = some (Value.slice none 0 0) := cell_of_row _ _ 0 _ _ _ hr9
      have g1 : _ = some (Value.int .i64 0) := cell_of_row _ _ 1 _ _ _ hr9
      have f0 := box_free hr9 0
      have f1 := box_free hr9 1
      have HEnd := Lib.hid (ld_end h9 HRes.out HB0.out rfl _ rfl)
      clear h9 hr9 HI HRes HB0 HBw
      go_wp2_with fail
      obtain ⟨k0, k1, kR⟩ := HEnd.out
      refine bodyPost_ret (by simp [results, Tryz.results34, go_sem, k0, k1]) rfl kR
set_option maxRecDepth 100000 in
set_option maxHeartbeats 8000000 in
theorem kportsX {w : World} {v : Value} {xs : List Int} {dn : Nat} (hdn : dn ≤ 9223372036854775807) (hr : RowG 1 poE w v xs) (hok : ∀ x ∈ xs, I64R x) (hl : xs.length ≤ 16000000) : Calls Tryz.prog 31 #[v, .int .i64 (dn : Int)] w (LdR w (eachS portD xs (manyD xs.length (fieldS (decide (xs.length = dn)) ([], 0))))) := by
  have HR : Hid (∀ W, Below w.heap.size w W → RowG 1 poE W v xs) := fun W hW => hr.below hW
  have HOk : Hid (∀ x ∈ xs, I64R x) := hok
  obtain ⟨ao, cap, rfl, q1, q2, q3⟩ := hr
  clear q3
  unfold maxLen at q2
  obtain ⟨hb1, hb2, hb3⟩ := ld_begin w
  have HS0 := Lib.hid hb1
  have HRes := Lib.hid hb2
  have HB0 := Lib.hid hb3
  obtain ⟨n, hn⟩ : ∃ n, xs.length = n := ⟨_, rfl⟩
  have HN := Lib.hid hn
  rw [hn] at q1 hl HR ⊢
  clear hn hok hb1 hb2 hb3
  obtain ⟨s0, hs0⟩ : ∃ s0, manyD n (fieldS (decide (n = dn)) ([], 0)) = s0 := ⟨_, rfl⟩
  have HL0 : Hid (s0.1.length = 8) := show _ = _ by rw [← hs0, manyD_len]; rfl
  have HS00 := Lib.hid hs0
  rw [hs0]
  clear hs0
  go_enter Tryz.func31, Tryz.ntmps31
  go_upto_region 2 with fail
  generalize ((w.alloc (.cells #[.slice none 0 0, .int .i64 0] 101)).alloc (.cells #[.slice none 0 0, .int .i64 0] 101)) = W1 at *
  have HBw : Hid (∀ W t, Ld (w.heap.size + 1) (w.heap.size + 1) W1 t W → Below w.heap.size w W) := fun W t hW => HB0.out.trans (hW.bl.mono (Nat.le_succ _))
  go_upto_if 11 with fail
  go_cut [] (fun wx => Hid (Ld (w.heap.size + 1) (w.heap.size + 1) W1 (fieldS (decide (n = dn)) ([], 0)) wx))
  case first =>
    by_cases he : n = dn
    · have HD9 : Hid (decide (n = dn) = true) := decide_eq_true he
      have d9 : ((n : Int) != (dn : Int)) = false := by rw [he]; simp
      clear he
      go_wp2_with fail
      go_meet
      exact (by rw [HD9.out]; exact HS0)
    · have HD9 : Hid (decide (n = dn) = false) := decide_eq_false he
      have d9 : ((n : Int) != (dn : Int)) = true := by simp; omega
      clear he
      go_wp2_with fail
      refine (krefuseX HS0.out).mono ?_
      rintro e w2 ⟨rfl, h2⟩
      have H2 := Lib.hid h2
      clear h2
      go_wp2_with fail
      go_meet
      exact (by rw [HD9.out]; exact H2)
  case rest =>
    clear HS0
    go_wp2_with fail
    refine (kcountX hcut.out (n := n) (by omega) (by rw [field_len]; decide)).mono ?_
    rintro e w1 ⟨rfl, hc⟩
    rw [HS00.out] at hc
    clear HS00
    have H0 : Hid (Ld (w.heap.size + 1) (w.heap.size + 1) W1 (eachS portD (xs.take 0) s0) _) := Lib.hid hc
    clear hc
    go_wp2_with fail
    go_loopw [6] (fun iv wr => ∃ i : Nat, i ≤ n ∧ iv = .int .i64 (i : Int) ∧ Hid (Ld (w.heap.size + 1) (w.heap.size + 1) W1 (eachS portD (xs.take i) s0) wr)) (fun iv _ => n - (intOf iv).toNat)
    case atStart => exact ⟨0, Nat.zero_le _, rfl, H0⟩
    case round =>
      clear H0
      obtain ⟨i, hi, rfl, HI⟩ := hrel
      by_cases hin : i < n
      · have ji : (i : Int) < (n : Int) := by omega
        have hix : i < xs.length := by rw [HN.out]; exact hin
        have hw1 : IntKind.i64.wrap ((i : Int) + 1) = ((i + 1 : Nat) : Int) := by rw [IntKind.wrap_i64]; omega
        have HCell : Hid (∀ W t, Ld (w.heap.size + 1) (w.heap.size + 1) W1 t W → ∃ b of, ao = some ⟨b, of, none⟩ ∧ ∀ j, j < 1 → W.cell? ⟨b, of + i * 1 + j, none⟩ = (poE xs[i])[j]?) := fun W t hW => by
          obtain ⟨_, _, e', _, _, hc⟩ := HR.out W (HBw.out W t hW)
          simp only [Value.slice.injEq] at e'
          obtain ⟨rfl, e9, rfl⟩ := e'
          obtain ⟨b, of, e, _, hc⟩ := hc i hix
          exact ⟨b, of, e, hc⟩
        obtain ⟨b, of, rfl, hz⟩ := HCell.out _ _ HI.out
        clear hz
        have hok1 := HOk.out xs[i] (List.getElem_mem _)
        have HE : Hid (eachS portD (xs.take (i + 1)) s0 = portD xs[i] (eachS portD (xs.take i) s0)) := eachS_take _ _ _ _ hix
        have HLi : Hid ((eachS portD (xs.take i) s0).1.length + 32 ≤ 549755813888) := show _ ≤ _ by
          rw [each_len portD_len, List.length_take, HL0.out]
          omega
        generalize eachS portD (xs.take i) s0 = si at HI HE HLi
        generalize xs[i] = x at *
        skip
        replace HCell : Hid (∀ W t, Ld (w.heap.size + 1) (w.heap.size + 1) W1 t W → W.cell? ⟨b, of + i, none⟩ = some (.int .i64 x)) := fun W t hW => by
          obtain ⟨_, _, e, hc⟩ := HCell.out W t hW
          cases e
          show _
          exact (show _ from (by have h8 := hc 0 (by decide); rw [Nat.mul_one, Nat.add_zero] at h8; exact h8))
        have c0 := HCell.out _ _ HI.out
        go_wp2_with fail
        refine (knoneX HI.out (k := x) hok1 (by (try simp only [num_len, noneD_len, flagD_len, manyD_len, zeros_len, long_len, field_len]); have := HLi.out; omega)).mono ?_
        rintro e w1 ⟨rfl, h1⟩
        clear c0
        have c0 := HCell.out _ _ h1
        have HS1 := Lib.hid h1
        clear h1 HI
        go_wp2_with fail
        refine (kzeros6X HS1.out (by (try simp only [num_len, noneD_len, flagD_len, manyD_len, zeros_len, long_len, field_len]); have := HLi.out; omega)).mono ?_
        rintro e w2 ⟨rfl, h2⟩
        clear c0
        have c0 := HCell.out _ _ h2
        have HS2 := Lib.hid h2
        clear h2 HS1
        go_wp2_with fail
        go_roundw
        case rel => exact ⟨i + 1, by omega, rfl, by rw [HE.out]; exact HS2⟩
        case measure => simp [intOf]; omega
      · obtain rfl : i = n := by omega
        have ji : ¬ (i : Int) < (i : Int) := by omega
        have HE : Hid (eachS portD (xs.take i) s0 = eachS portD xs s0) := show _ = _ by rw [List.take_of_length_le (by rw [HN.out]; exact Nat.le_refl _)]
        rw [HE.out] at HI
        generalize eachS portD xs s0 = sz at *
        obtain ⟨v, h9⟩ := HI.out
        obtain ⟨a9, p9, rfl⟩ := own_slice h9.own
        have d0 := h9.cell0
        have d1 := h9.cell1
        have hr9 := ld_res HI.out HRes.out
        have g0 : _ = some (Value.slice none 0 0) := cell_of_row _ _ 0 _ _ _ hr9
        have g1 : _ = some (Value.int .i64 0) := cell_of_row _ _ 1 _ _ _ hr9
        have f0 := box_free hr9 0
        have f1 := box_free hr9 1
        have HEnd := Lib.hid (ld_end h9 HRes.out HB0.out rfl _ rfl)
        clear h9 hr9 HI HRes HB0 HBw
        go_wp2_with fail
        obtain ⟨k0, k1, kR⟩ := HEnd.out
        refine bodyPost_ret (by simp [results, Tryz.results31, go_sem, k0, k1]) rfl kR
end Go.Proofs.YtmfkggngjeolcaaGreatDoor
