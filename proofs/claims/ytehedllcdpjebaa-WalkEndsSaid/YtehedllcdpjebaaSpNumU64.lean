/- Sums of numbers of one type: greatest, Add, Up. Own work. -/
import Derived.Test.YtehedllcdpjebaaProg
import Derived.Test.YtehedllcdpjebaaSpMath
import Derived.WalkKit
import Derived.WalkSpells
import Derived.WalkLawsBesides
import Derived.Shelf.Abstract
namespace Go.Proofs.Ytehedllcdpjebaa.U64
open Go.RowKit Go.Shelf Go.Proofs.Ytehedllcdpjebaa.Sp

theorem greatest_any (w : World) : Calls Try.prog 51 #[] w fun e w' => e = .returned (.int .u64 18446744073709551615) ∧ w' = w := by
  go_enter Try.func51, Try.ntmps51
  go_wp2
  go_ret
  exact ⟨by kernel_rfl, rfl⟩
def addB (a b : Int) : Int × Bool := if a + b ≤ 18446744073709551615 then (a + b, true) else (0, false)
set_option maxHeartbeats 1000000 in
theorem add_any {a b : Int} (ha : 0 ≤ a ∧ a ≤ 18446744073709551615) (hb : 0 ≤ b ∧ b ≤ 18446744073709551615) (w : World) : Calls Try.prog 45 #[.int .u64 a, .int .u64 b] w fun e w' => e = .returned (.tuple #[.int .u64 (addB a b).1, .bool (addB a b).2]) ∧ w' = w := by
  by_cases h : a + b ≤ 18446744073709551615
  · have e : addB a b = (a + b, true) := by simp [addB, h]
    rw [e]
    have hd : decide (18446744073709551615 - a < b) = false := decide_eq_false (by omega)
    clear e
    go_enter Try.func45, Try.ntmps45
    go_wp2_with (go_at_call 51; refine (greatest_any _).mono ?_; rintro e w' ⟨rfl, rfl⟩)
    go_ret2
    exact ⟨rfl, rfl⟩
  · have e : addB a b = (0, false) := by simp [addB, h]
    rw [e]
    have hd : decide (18446744073709551615 - a < b) = true := decide_eq_true (by omega)
    clear e
    go_enter Try.func45, Try.ntmps45
    go_wp2_with (go_at_call 51; refine (greatest_any _).mono ?_; rintro e w' ⟨rfl, rfl⟩)
    go_ret2
    exact ⟨rfl, rfl⟩
end Go.Proofs.Ytehedllcdpjebaa.U64
