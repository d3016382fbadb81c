/- Lanes: Flatten and Demand of known's lanes. Own work. -/
import Derived.Test.YtkhlkbgolonkkaaLnTurn
namespace Go.Proofs.Ytkhlkbgolonkkaa
open Go.RowKit
set_option maxRecDepth 100000 in
set_option maxHeartbeats 4000000 in
theorem flatten_two {w : World} {g c : Nat} (h : Two w g) (hc : 2 ≤ c) (hm : c ≤ maxLen) : Calls Try.prog 10 #[.int .u64 10, .agg #[.int .i64 0, .int .u64 0, .bool false, .slice (some ⟨g, 0, none⟩) 2 c]] w fun e w' => ∃ v, e = .returned (.tuple #[v, .int .i64 0, .int .i64 0]) ∧ OwnS w' w.heap.size v [⟨sA, 0, 3⟩, ⟨sN, 3, 10⟩] ∧ Below w.heap.size w w' := by
  have HT := Lib.hid h
  have HR := Lib.hid (fun W (hb : Below w.heap.size w W) => refused_two (HT.out.below HT.out.lt hb) hc hm)
  have HI := Lib.hid (fun W (hb : Below w.heap.size w W) => inTurn_two (HT.out.below HT.out.lt hb) hc hm)
  have HX0 : Hid ((w.alloc (.cells #[.int .i64 0, .int .u64 0, .bool false, .slice (some ⟨g, 0, none⟩) 2 c] 25)).heap[w.heap.size]? = some (.cells #[.int .i64 0, .int .u64 0, .bool false, .slice (some ⟨g, 0, none⟩) 2 c] 25 (0, 0))) := Array.getElem?_push_size (xs := w.heap)
  have HB0 : Hid (Below w.heap.size w (w.alloc (.cells #[.int .i64 0, .int .u64 0, .bool false, .slice (some ⟨g, 0, none⟩) 2 c] 25))) := (Below.refl _ _).alloc (Nat.le_refl _) _
  clear h
  go_enter Try.func10, Try.ntmps10
  go_wp2_with (go_at_call 24; refine (framed_ten _).mono ?_; rintro e w' ⟨rfl, hw⟩; have hw := hw.symm; subst hw)
  refine (HR.out _ HB0.out).mono ?_
  rintro e w1 ⟨rfl, hb1⟩
  have HB1 : Hid (Below w.heap.size w w1) := HB0.out.trans (hb1.mono HB0.out.size)
  have hx1 : w1.heap[w.heap.size]? = some (.cells #[.int .i64 0, .int .u64 0, .bool false, .slice (some ⟨g, 0, none⟩) 2 c] 25 (0, 0)) := (hb1.block w.heap.size (Array.getElem?_eq_some_iff.1 HX0.out).1).trans HX0.out
  have y2 : w1.cell? ⟨w.heap.size, 2, none⟩ = some (.bool false) := by rw [cell_of_row _ _ _ _ _ _ hx1]; rfl
  have y3 : w1.cell? ⟨w.heap.size, 3, none⟩ = some (.slice (some ⟨g, 0, none⟩) 2 c) := by rw [cell_of_row _ _ _ _ _ _ hx1]; rfl
  clear hx1 hb1 HR
  go_wp2_with fail
  refine (HI.out _ HB1.out).mono ?_
  rintro e w2 ⟨v2, rfl, ho2, hb2⟩
  obtain ⟨a2, c2, rfl⟩ := ho2.form
  have HO2 : Hid (OwnS w2 w.heap.size (.slice a2 2 c2) [⟨sA, 0, 3⟩, ⟨sN, 3, 10⟩]) := by
    refine ⟨ho2.1, ?_⟩
    rcases ho2.2 with h | ⟨g', cp, cur, e, hb, rest⟩
    · exact .inl h
    · exact .inr ⟨g', cp, cur, e, Nat.le_trans HB1.out.size hb, rest⟩
  have HB2 : Hid (Below w.heap.size w w2) := HB1.out.trans (hb2.mono HB1.out.size)
  clear ho2 hb2
  go_wp2_with fail
  go_ret3
  exact ⟨_, rfl, HO2.out, HB2.out⟩
set_option maxRecDepth 100000 in
set_option maxHeartbeats 4000000 in
theorem flatten_zero {w : World} {v : Value} (hv : v = .agg #[.int .i64 0, .int .u64 0, .bool false, .slice none 0 0]) : Calls Try.prog 10 #[.int .u64 0, v] w fun e w' => e = .returned (.tuple #[.slice none 0 0, .int .i64 (-1), .int .i64 92]) ∧ Below w.heap.size w w' := by
  subst hv
  go_enter Try.func10, Try.ntmps10
  go_wp2_with (go_at_call 24; refine (framed_zero _).mono ?_; rintro e w' ⟨rfl, hw⟩; have hw := hw.symm; subst hw)
  go_ret3
  exact ⟨rfl, (Below.refl _ _).alloc (Nat.le_refl _) _⟩
/-- the run a 3 in memory -/
structure One (w : World) (g : Nat) : Prop where
  c0 : w.cell? ⟨g, 0, none⟩ = some (.int .i64 0)
  c1 : w.cell? ⟨g, 1, none⟩ = some (.string ⟨#[97]⟩)
  c2 : w.cell? ⟨g, 2, none⟩ = some (.int .u64 3)
  c3 : w.cell? ⟨g, 3, none⟩ = some (.int .u64 0)
theorem One.lt {w : World} {g : Nat} (h : One w g) : g < w.heap.size := World.block_lt_of_cell? w _ h.c0
theorem One.below {w w' : World} {g B : Nat} (h : One w g) (hg : g < B) (hb : Below B w w') : One w' g :=
  ⟨by rw [hb.cell (p := ⟨g, _, none⟩) hg]; exact h.c0, by rw [hb.cell (p := ⟨g, _, none⟩) hg]; exact h.c1, by rw [hb.cell (p := ⟨g, _, none⟩) hg]; exact h.c2, by rw [hb.cell (p := ⟨g, _, none⟩) hg]; exact h.c3⟩
set_option maxRecDepth 100000 in
set_option maxHeartbeats 4000000 in
theorem demand_one {w : World} {g c : Nat} (h : One w g) (hc : 1 ≤ c) (hm : c ≤ maxLen) : Calls Try.prog 17 #[.int .u64 10, .agg #[.int .i64 0, .int .u64 0, .bool false, .slice (some ⟨g, 0, none⟩) 1 c]] w fun e w' => e = .returned (.tuple #[.int .u64 3, .bool true]) ∧ Below w.heap.size w w' := by
  unfold maxLen at hm
  have HT := Lib.hid h
  have hci : (1 : Int) ≤ (c : Int) := by omega
  have HB0 : Hid (Below w.heap.size w (w.alloc (.cells #[.int .i64 0, .int .u64 0, .bool false, .slice (some ⟨g, 0, none⟩) 1 c] 25))) := (Below.refl _ _).alloc (Nat.le_refl _) _
  have HX0 : Hid ((w.alloc (.cells #[.int .i64 0, .int .u64 0, .bool false, .slice (some ⟨g, 0, none⟩) 1 c] 25)).heap[w.heap.size]? = some (.cells #[.int .i64 0, .int .u64 0, .bool false, .slice (some ⟨g, 0, none⟩) 1 c] 25 (0, 0))) := Array.getElem?_push_size (xs := w.heap)
  have HW1 : Hid (∀ W, Calls Try.prog 33 #[.int .u64 10, .bool false, .agg #[.int .i64 0, .string ⟨#[97]⟩, .int .u64 3, .int .u64 0]] W fun e w' => e = .returned (.tuple #[.int .u64 3, .int .i64 0]) ∧ Below W.heap.size W w') := fun W => wants_run (m := 10) (b := 3) (p := 0) (by omega) (by omega) W
  clear h
  go_enter Try.func17, Try.ntmps17
  go_wp2_with (go_at_call 24; refine (framed_ten _).mono ?_; rintro e w' ⟨rfl, hw⟩; have hw := hw.symm; subst hw)
  go_loopw [6, 17] (fun lv iv wr => Hid (Below w.heap.size w wr) ∧ Hid (wr.heap[w.heap.size]? = some (.cells #[.int .i64 0, .int .u64 0, .bool false, .slice (some ⟨g, 0, none⟩) 1 c] 25 (0, 0))) ∧ ((iv = .int .i64 0 ∧ lv = .int .u64 0) ∨ (iv = .int .i64 1 ∧ lv = .int .u64 3))) (fun _ iv _ => 1 - (intOf iv).toNat)
  case atStart => exact ⟨HB0, HX0, .inl ⟨rfl, rfl⟩⟩
  case round =>
    clear HB0 HX0
    obtain ⟨HB, HX, ⟨rfl, rfl⟩ | ⟨rfl, rfl⟩⟩ := hrel
    · obtain ⟨c0, c1, c2, c3⟩ := HT.out.below HT.out.lt HB.out
      have y2 : wr.cell? ⟨w.heap.size, 2, none⟩ = some (.bool false) := by rw [cell_of_row _ _ _ _ _ _ HX.out]; rfl
      have y3 := cell_alloc y2 (.cells #[.int .i64 0, .string ⟨#[97]⟩, .int .u64 3, .int .u64 0] 30)
      clear y2
      go_wp2_with fail
      refine (HW1.out _).mono ?_
      rintro e w5 ⟨rfl, hb5⟩
      have ha : Below wr.heap.size wr w5 := ((Below.refl _ _).alloc (Nat.le_refl _) _).trans (hb5.mono (by simp))
      have HB5 : Hid (Below w.heap.size w w5) := HB.out.trans (ha.mono HB.out.size)
      have HX5 : Hid (w5.heap[w.heap.size]? = some (.cells #[.int .i64 0, .int .u64 0, .bool false, .slice (some ⟨g, 0, none⟩) 1 c] 25 (0, 0))) := (ha.block w.heap.size (Array.getElem?_eq_some_iff.1 HX.out).1).trans HX.out
      clear ha hb5
      go_wp2_with fail
      go_roundw
      case rel => exact ⟨HB5, HX5, .inr ⟨rfl, rfl⟩⟩
      case measure => simp [intOf]
    · go_wp2_with fail
      go_ret2
      exact ⟨rfl, HB.out⟩
end Go.Proofs.Ytkhlkbgolonkkaa
