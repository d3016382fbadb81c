/- Lanes: the document's At, walked. Own work. -/
import Derived.Test.YtkhlkbgolonkkaaLnAt2
import Derived.Deep.DeepCutAuto
import Derived.Deep.CutBlock
namespace Go.Proofs.Ytkhlkbgolonkkaa
open Go.RowKit
set_option maxRecDepth 100000 in
set_option maxHeartbeats 1000000 in
theorem at_out {w : World} {v : Value} {m o : Int} (h : o < 0 ∨ m ≤ o) : Calls Try.prog 18 #[v, .int .i64 m, .int .i64 o] w fun e w' => e = .returned (.tuple #[.int .i64 (-1), .int .i64 0]) ∧ Below w.heap.size w w' := by
  by_cases h0 : o < 0
  · go_enter Try.func18, Try.ntmps18
    go_wp2_with fail
    go_ret2
    exact ⟨rfl, Below.refl _ _⟩
  · have h1 : m ≤ o := by omega
    clear h
    go_enter Try.func18, Try.ntmps18
    go_wp2_with fail
    go_ret2
    exact ⟨rfl, Below.refl _ _⟩
theorem atR_end {m o who left at_ : Int} (h : ¬ at_ < m) (l : List (Int × Int)) : atR m o who left at_ l = (who, left) := by
  cases l <;> (unfold atR; rw [if_neg h])
/-- where the document's loop stands -/
def Ra (m o : Int) (xs : List (Int × Int)) (R : Int × Int) (i : Nat) (who left at_ : Int) : Prop :=
  (i ≤ xs.length ∧ atR m o who left at_ (xs.drop i) = R) ∨ (i = xs.length + 1 ∧ (who, left) = R)
end Go.Proofs.Ytkhlkbgolonkkaa
