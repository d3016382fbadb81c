/- LanesNames: the walk. Own work. -/
import Derived.Test.YtmgekglndjigiaaLnUniq
import Derived.Test.YtmgekglndjigiaaLnKnown
namespace Go.Proofs.Ytmgekglndjigiaa
open Go.RowKit
set_option linter.unusedVariables false
theorem rn_ex {w : World} : Rn (w.alloc (.cells #[.int .i64 0, .string ⟨#[97]⟩, .int .u64 1, .int .u64 2, .int .i64 0, .string ⟨#[98]⟩, .int .u64 2, .int .u64 4] 28)) (.slice (some ⟨w.heap.size, 0, none⟩) 2 2) exN := by
  have h : (w.alloc (.cells #[.int .i64 0, .string ⟨#[97]⟩, .int .u64 1, .int .u64 2, .int .i64 0, .string ⟨#[98]⟩, .int .u64 2, .int .u64 4] 28)).heap[w.heap.size]? = some (.cells #[.int .i64 0, .string ⟨#[97]⟩, .int .u64 1, .int .u64 2, .int .i64 0, .string ⟨#[98]⟩, .int .u64 2, .int .u64 4] 28 (0, 0)) := Array.getElem?_push_size
  refine ⟨_, 2, rfl, by decide, by decide, fun x hx => ?_, fun i hi => ⟨_, 0, rfl, ?_⟩⟩
  · simp only [exN, List.mem_cons, List.not_mem_nil, or_false] at hx
    rcases hx with rfl | rfl <;> exact ⟨by decide, by decide⟩
  · have h2 : i = 0 ∨ i = 1 := by simp [exN] at hi; omega
    rcases h2 with rfl | rfl
    · refine ⟨?_, ?_, ?_, ?_⟩ <;> rw [cell_of_row _ _ _ _ _ _ h] <;> rfl
    · refine ⟨?_, ?_, ?_, ?_⟩ <;> rw [cell_of_row _ _ _ _ _ _ h] <;> rfl
theorem flatten_ex {w : World} : Calls Try.prog 8 #[.int .u64 4, .agg #[.int .i64 0, .int .u64 0, .bool true, .slice (some ⟨w.heap.size, 0, none⟩) 2 2]] (w.alloc (.cells #[.int .i64 0, .string ⟨#[97]⟩, .int .u64 1, .int .u64 2, .int .i64 0, .string ⟨#[98]⟩, .int .u64 2, .int .u64 4] 28)) fun e w' => ∃ g cap, e = .returned (.tuple #[.slice (some ⟨g, 0, none⟩) 4 cap, .int .i64 0, .int .i64 0]) ∧ 4 ≤ cap ∧ Below w.heap.size w w' ∧ OwnS w' (w.heap.size + 1) (.slice (some ⟨g, 0, none⟩) 4 cap) exR := by
  refine (flatten_needs (m := 4) rn_ex (by decide) (by decide)).mono ?_
  rintro e w' ⟨hb, h⟩
  have hb2 : Below w.heap.size w w' := ((Below.refl _ _).alloc (Nat.le_refl _) _).trans (hb.mono (by simp))
  rcases h with ⟨h, _⟩ | ⟨_, ws, cs, rs, hed, hend, h⟩
  · exact absurd (by rw [ex_ref]) h
  · obtain rfl := ex_row hed hend
    rcases h with ⟨h, _⟩ | ⟨_, u, rfl, ho⟩
    · exact absurd h (by decide)
    · obtain ⟨g, cap, rfl, h1, h2, h3, h4⟩ := ho.pos (by decide)
      refine ⟨g, cap, rfl, h3, hb2, ?_⟩
      have es : (w.alloc (.cells #[.int .i64 0, .string ⟨#[97]⟩, .int .u64 1, .int .u64 2, .int .i64 0, .string ⟨#[98]⟩, .int .u64 2, .int .u64 4] 28)).heap.size = w.heap.size + 1 := by simp
      rw [es] at ho
      exact ho
set_option maxRecDepth 100000 in
set_option maxHeartbeats 4000000 in
theorem lnames_any (w : World) : Calls Try.prog 3 #[] w fun e w' => e = .returned (.bool true) ∧ Below w.heap.size w w' := by
  go_enter Try.func3, Try.ntmps3
  go_wp2_with fail
  refine flatten_ex.mono ?_
  rintro e w1 ⟨g, cap, rfl, hcap, hb1, ho⟩
  have c00 := ho.cell 0 0 (by decide) (by decide)
  have c10 := ho.cell 1 0 (by decide) (by decide)
  have c20 := ho.cell 2 0 (by decide) (by decide)
  have c21 := ho.cell 2 1 (by decide) (by decide)
  have c22 := ho.cell 2 2 (by decide) (by decide)
  have c30 := ho.cell 3 0 (by decide) (by decide)
  simp only [exR, enc3, List.getElem_cons_zero, List.getElem_cons_succ, List.getElem?_cons_zero, List.getElem?_cons_succ] at c00 c10 c20 c21 c22 c30
  have HB1 := Lib.hid hb1
  have HK : Hid (∀ W, Calls Try.prog 9 #[] W fun e w' => e = .returned (.bool true) ∧ Below W.heap.size W w') := fun W => known_any W
  clear ho hb1
  have hci : (4 : Int) ≤ (cap : Int) := by omega
  go_wp2_with fail
  refine (HK.out _).mono ?_
  rintro e w2 ⟨rfl, hb2⟩
  have HB2 : Hid (Below w.heap.size w w2) := HB1.out.trans (hb2.mono HB1.out.size)
  clear hb2 HB1 HK
  go_wp2_with fail
  go_ret
  exact ⟨rfl, HB2.out⟩
end Go.Proofs.Ytmgekglndjigiaa
