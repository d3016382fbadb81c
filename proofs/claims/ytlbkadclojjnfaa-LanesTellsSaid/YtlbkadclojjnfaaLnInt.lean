/- Lanes: Intact of stints. Own work. -/
import Derived.Test.YtlbkadclojjnfaaLnRoom
namespace Go.Proofs.Ytlbkadclojjnfaa
open Go.RowKit
set_option maxRecDepth 100000 in
set_option maxHeartbeats 4000000 in
theorem intact2_any {v : Value} {p : List (Int × Int)} {w : World} {g : Nat} (hr : Row2 w g (room2 p)) (hv : Rd2 w v p) (hp : p.length ≤ 8796093022000) :
    Calls Try.prog 24 #[.slice (some ⟨g, 0, none⟩) (p.length + 80) (p.length + 80), v, .agg #[.int .i64 0, .int .i64 (-9)]] w fun e w' => e = .returned (.bool true) ∧ Below w.heap.size w w' := by
  have HV := Lib.hid hv
  have HRw := Lib.hid hr
  have hb3 := hv
  obtain ⟨ao, cap, rfl, h1, h2, h3, _⟩ := hb3
  unfold maxLen at h2
  have HP := Lib.hid (fun W (h : Row2 W g (room2 p)) => by
    have := h.rd (n := p.length) (c := p.length + 80) (by rw [room2_len]; omega) (by omega) (by unfold maxLen; omega) (by rw [room2, List.take_left]; exact h3)
    rw [room2, List.take_left] at this
    exact this)
  have HB0 : Hid (Below w.heap.size w (w.alloc (.cells #[.int .i64 0, .int .i64 (-9)] 47))) := (Below.refl _ _).alloc (Nat.le_refl _) _
  have HM0 : Hid ((w.alloc (.cells #[.int .i64 0, .int .i64 (-9)] 47)).heap[w.heap.size]? = some (.cells #[.int .i64 0, .int .i64 (-9)] 47 (0, 0))) := Array.getElem?_push_size (xs := w.heap)
  have HS := Lib.hid (same2_any (HP.out _ (HRw.out.below HB0.out)) (HV.out.below HB0.out))
  clear hr hv h3
  go_enter Try.func24, Try.ntmps24
  go_wp2_with fail
  refine HS.out.mono ?_
  rintro e w1 ⟨rfl, hb1⟩
  have HB1 : Hid (Below w.heap.size w w1) := HB0.out.trans (hb1.mono HB0.out.size)
  have HM1 : Hid (w1.heap[w.heap.size]? = some (.cells #[.int .i64 0, .int .i64 (-9)] 47 (0, 0))) := (hb1.block w.heap.size (Array.getElem?_eq_some_iff.1 HM0.out).1).trans HM0.out
  clear hb1 HS HB0 HM0
  go_wp2_with fail
  go_loopw [7] (fun iv wr => ∃ j : Nat, p.length ≤ j ∧ j ≤ p.length + 80 ∧ iv = .int .i64 (j : Int) ∧ Hid (wr.heap[w.heap.size]? = some (.cells #[.int .i64 0, .int .i64 (-9)] 47 (0, 0))) ∧ Hid (Below w.heap.size w wr)) (fun iv _ => p.length + 80 - (intOf iv).toNat)
  case atStart => exact ⟨p.length, by omega, by omega, rfl, HM1, HB1⟩
  case round =>
    clear HM1 HB1
    obtain ⟨j, hj0, hj1, rfl, HM, HB⟩ := hrel
    by_cases hlt : j < p.length + 80
    · have hrr := HRw.out.below HB.out
      have hg : (room2 p)[j]'(by rw [room2_len]; omega) = (0, -9) := by
        unfold room2
        rw [List.getElem_append_right (by omega), List.getElem_replicate]
      have c0 := hrr.cell j 0 (by rw [room2_len]; omega) (by omega)
      have c1 := hrr.cell j 1 (by rw [room2_len]; omega) (by omega)
      rw [hg] at c0 c1
      simp only [enc2, List.getElem?_cons_zero, List.getElem?_cons_succ, Nat.add_zero] at c0 c1
      have m0 : wr.cell? ⟨w.heap.size, 0, none⟩ = some (.int .i64 0) := by rw [cell_of_row _ _ _ _ _ _ HM.out]; rfl
      have m1 : wr.cell? ⟨w.heap.size, 1, none⟩ = some (.int .i64 (-9)) := by rw [cell_of_row _ _ _ _ _ _ HM.out]; rfl
      have ji : (j : Int) < (p.length : Int) + 80 := by omega
      have hw1 : IntKind.i64.wrap ((j : Int) + 1) = ((j + 1 : Nat) : Int) := by rw [IntKind.wrap_i64]; omega
      clear hrr hg
      go_wp2_with fail
      go_region_law (refine step_neq_st 0 (-9) (by kernel_rfl) (.tmp 34) (.tmp 35) (by rfl) (by rfl) (by rfl) ?_)
      all_goals
        go_wp2_with fail
        go_roundw
        case rel => exact ⟨j + 1, by omega, by omega, rfl, HM, by repeat (first | exact HB.out | refine Below.drew ?_)⟩
        case measure => simp [intOf]; omega
    · obtain rfl : j = p.length + 80 := by omega
      go_wp2_with fail
      go_ret
      exact ⟨rfl, HB.out⟩
end Go.Proofs.Ytlbkadclojjnfaa
