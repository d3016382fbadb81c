/- Sums of numbers of one type: greatest, Add, Up. Own work. -/
import Derived.Test.YtinjhgimhboigaaDoorProg
import Derived.Test.YtinjhgimhboigaaDoorSpMath
import Derived.WalkKit
import Derived.WalkSpells
import Derived.WalkLawsBesides
import Derived.Shelf.Abstract
namespace Go.Proofs.YtinjhgimhboigaaDoor.U64
open Go.RowKit Go.Shelf Go.Proofs.YtinjhgimhboigaaDoor.Sp

theorem greatest_any (w : World) : Calls Tryd.prog 69 #[] w fun e w' => e = .returned (.int .u64 18446744073709551615) ∧ w' = w := by
  go_enter Tryd.func69, Tryd.ntmps69
  go_wp2
  go_ret
  exact ⟨by kernel_rfl, rfl⟩
def addB (a b : Int) : Int × Bool := if a + b ≤ 18446744073709551615 then (a + b, true) else (0, false)
set_option maxHeartbeats 1000000 in
theorem add_any {a b : Int} (ha : 0 ≤ a ∧ a ≤ 18446744073709551615) (hb : 0 ≤ b ∧ b ≤ 18446744073709551615) (w : World) : Calls Tryd.prog 64 #[.int .u64 a, .int .u64 b] w fun e w' => e = .returned (.tuple #[.int .u64 (addB a b).1, .bool (addB a b).2]) ∧ w' = w := by
  by_cases h : a + b ≤ 18446744073709551615
  · have e : addB a b = (a + b, true) := by simp [addB, h]
    rw [e]
    have hd : decide (18446744073709551615 - a < b) = false := decide_eq_false (by omega)
    clear e
    go_enter Tryd.func64, Tryd.ntmps64
    go_wp2_with (go_at_call 69; refine (greatest_any _).mono ?_; rintro e w' ⟨rfl, rfl⟩)
    go_ret2
    exact ⟨rfl, rfl⟩
  · have e : addB a b = (0, false) := by simp [addB, h]
    rw [e]
    have hd : decide (18446744073709551615 - a < b) = true := decide_eq_true (by omega)
    clear e
    go_enter Tryd.func64, Tryd.ntmps64
    go_wp2_with (go_at_call 69; refine (greatest_any _).mono ?_; rintro e w' ⟨rfl, rfl⟩)
    go_ret2
    exact ⟨rfl, rfl⟩
/-- The least multiple of al that is not below a. -/
def upB (a al : Int) : Int × Bool := if al = 0 then (0, false) else if a % al = 0 then (a, true) else addB a (al - a % al)
set_option maxHeartbeats 1000000 in
theorem up_any {a al : Int} (ha : 0 ≤ a ∧ a ≤ 18446744073709551615) (hb : 0 ≤ al ∧ al ≤ 18446744073709551615) (w : World) : Calls Tryd.prog 59 #[.int .u64 a, .int .u64 al] w fun e w' => e = .returned (.tuple #[.int .u64 (upB a al).1, .bool (upB a al).2]) ∧ w' = w := by
  by_cases h : al = 0
  · have e : upB a al = (0, false) := by simp [upB, h]
    rw [e]
    subst h
    clear e
    go_enter Tryd.func59, Tryd.ntmps59
    go_wp2
    go_ret2
    exact ⟨rfl, rfl⟩
  · have hr0 := Int.emod_nonneg a h
    have hr1 := Int.emod_lt_of_pos a (show 0 < al by omega)
    have hq : (al == 0) = false := by simpa using h
    have hrem : Int.tmod a al = a % al := Int.tmod_eq_emod_of_nonneg ha.1
    by_cases g : a % al = 0
    · have e : upB a al = (a, true) := by simp [upB, h, g]
      rw [e]
      clear e
      go_enter Tryd.func59, Tryd.ntmps59
      go_wp2
      go_ret2
      exact ⟨rfl, rfl⟩
    · have e : upB a al = addB a (al - a % al) := by simp [upB, h, g]
      rw [e]
      have HA : Hid (∀ W, Calls Tryd.prog 64 #[.int .u64 a, .int .u64 (al - a % al)] W fun e w' => e = .returned (.tuple #[.int .u64 (addB a (al - a % al)).1, .bool (addB a (al - a % al)).2]) ∧ w' = W) := fun W => add_any ha (by omega) W
      obtain ⟨n, b, hnb⟩ : ∃ n b, addB a (al - a % al) = (n, b) := ⟨_, _, rfl⟩
      rw [hnb] at HA ⊢
      clear e hnb
      go_enter Tryd.func59, Tryd.ntmps59
      go_wp2_with fail
      refine (HA.out _).mono ?_
      rintro e w' ⟨rfl, rfl⟩
      clear HA
      go_wp2_with fail
      go_ret2
      exact ⟨rfl, rfl⟩
end Go.Proofs.YtinjhgimhboigaaDoor.U64
