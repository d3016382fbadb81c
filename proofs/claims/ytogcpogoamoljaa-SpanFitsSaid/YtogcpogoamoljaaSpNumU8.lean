/- Sums of numbers of one type: greatest, Add, Up. Own work. -/
import Derived.Test.YtogcpogoamoljaaProg
import Derived.Test.YtogcpogoamoljaaSpMath
import Derived.WalkKit
import Derived.WalkSpells
import Derived.WalkLawsBesides
import Derived.Shelf.Abstract
namespace Go.Proofs.Ytogcpogoamoljaa.U8
open Go.RowKit Go.Shelf Go.Proofs.Ytogcpogoamoljaa.Sp

theorem greatest_any (w : World) : Calls Try.prog 44 #[] w fun e w' => e = .returned (.int .u8 255) ∧ w' = w := by
  go_enter Try.func44, Try.ntmps44
  go_wp2
  go_ret
  exact ⟨by kernel_rfl, rfl⟩
def addB (a b : Int) : Int × Bool := if a + b ≤ 255 then (a + b, true) else (0, false)
set_option maxHeartbeats 1000000 in
theorem add_any {a b : Int} (ha : 0 ≤ a ∧ a ≤ 255) (hb : 0 ≤ b ∧ b ≤ 255) (w : World) : Calls Try.prog 31 #[.int .u8 a, .int .u8 b] w fun e w' => e = .returned (.tuple #[.int .u8 (addB a b).1, .bool (addB a b).2]) ∧ w' = w := by
  by_cases h : a + b ≤ 255
  · have e : addB a b = (a + b, true) := by simp [addB, h]
    rw [e]
    have hd : decide (255 - a < b) = false := decide_eq_false (by omega)
    clear e
    go_enter Try.func31, Try.ntmps31
    go_wp2_with (go_at_call 44; refine (greatest_any _).mono ?_; rintro e w' ⟨rfl, rfl⟩)
    go_ret2
    exact ⟨rfl, rfl⟩
  · have e : addB a b = (0, false) := by simp [addB, h]
    rw [e]
    have hd : decide (255 - a < b) = true := decide_eq_true (by omega)
    clear e
    go_enter Try.func31, Try.ntmps31
    go_wp2_with (go_at_call 44; refine (greatest_any _).mono ?_; rintro e w' ⟨rfl, rfl⟩)
    go_ret2
    exact ⟨rfl, rfl⟩
/-- The least multiple of al that is not below a. -/
def upB (a al : Int) : Int × Bool := if al = 0 then (0, false) else if a % al = 0 then (a, true) else addB a (al - a % al)
set_option maxHeartbeats 1000000 in
theorem up_any {a al : Int} (ha : 0 ≤ a ∧ a ≤ 255) (hb : 0 ≤ al ∧ al ≤ 255) (w : World) : Calls Try.prog 30 #[.int .u8 a, .int .u8 al] w fun e w' => e = .returned (.tuple #[.int .u8 (upB a al).1, .bool (upB a al).2]) ∧ w' = w := by
  by_cases h : al = 0
  · have e : upB a al = (0, false) := by simp [upB, h]
    rw [e]
    subst h
    clear e
    go_enter Try.func30, Try.ntmps30
    go_wp2
    go_ret2
    exact ⟨rfl, rfl⟩
  · have hr0 := Int.emod_nonneg a h
    have hr1 := Int.emod_lt_of_pos a (show 0 < al by omega)
    have hq : (al == 0) = false := by simpa using h
    have hrem : Int.tmod a al = a % al := Int.tmod_eq_emod_of_nonneg ha.1
    by_cases g : a % al = 0
    · have e : upB a al = (a, true) := by simp [upB, h, g]
      rw [e]
      clear e
      go_enter Try.func30, Try.ntmps30
      go_wp2
      go_ret2
      exact ⟨rfl, rfl⟩
    · have e : upB a al = addB a (al - a % al) := by simp [upB, h, g]
      rw [e]
      have HA : Hid (∀ W, Calls Try.prog 31 #[.int .u8 a, .int .u8 (al - a % al)] W fun e w' => e = .returned (.tuple #[.int .u8 (addB a (al - a % al)).1, .bool (addB a (al - a % al)).2]) ∧ w' = W) := fun W => add_any ha (by omega) W
      obtain ⟨n, b, hnb⟩ : ∃ n b, addB a (al - a % al) = (n, b) := ⟨_, _, rfl⟩
      rw [hnb] at HA ⊢
      clear e hnb
      go_enter Try.func30, Try.ntmps30
      go_wp2_with fail
      refine (HA.out _).mono ?_
      rintro e w' ⟨rfl, rfl⟩
      clear HA
      go_wp2_with fail
      go_ret2
      exact ⟨rfl, rfl⟩
end Go.Proofs.Ytogcpogoamoljaa.U8
