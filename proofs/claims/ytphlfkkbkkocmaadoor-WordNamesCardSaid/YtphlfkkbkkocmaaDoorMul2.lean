/- Mul at the two closed pairs of WordNames. -/
import Derived.Test.YtphlfkkbkkocmaaDoorRSeal
import Derived.Shelf.Bits.Mul64
namespace Go.Proofs.YtphlfkkbkkocmaaDoor
open Go.RowKit
def ren264 : Go.Shelf.Ren := ⟨fun | 264 => 43 | n => n, fun | 53 => 58 | 46 => 91 | n => n, fun | n => n⟩
theorem lays264 : Go.Proofs.Lays.n264 Tryd.prog ren264 := {
  mixed := by kernel_rfl
  f264 := Tryd.func43.trans (congrArg some (by kernel_rfl))
  t46 := Tryd.underlying91
  a46 := Tryd.isAgg91
  z46 := Tryd.sizeOf91
  v46 := Tryd.zeroValue91
  t53 := Tryd.underlying58
  a53 := Tryd.isAgg58
  z53 := Tryd.sizeOf58
  v53 := Tryd.zeroValue58 }
theorem mul64_small (x y m : Nat) (hm : x * y = m) (h : m < 18446744073709551616) (hx : x < 18446744073709551616) (hy : y < 18446744073709551616) (w : World) :
    Calls Tryd.prog 43 #[.int .u64 x, .int .u64 y] w fun e w' => e = .returned (.tuple #[.int .u64 0, .int .u64 m]) ∧ w' = w := by
  have c : Calls Tryd.prog 43 #[.int .u64 x, .int .u64 y] w fun e w' => e = .returned (.tuple #[.int .u64 ((x * y / 18446744073709551616 : Nat) : Int), .int .u64 ((x * y % 18446744073709551616 : Nat) : Int)]) ∧ w' = w := Any.bits_Mul64 lays264 x y hx hy w
  rw [hm, Nat.div_eq_of_lt h, Nat.mod_eq_of_lt h] at c
  exact c
set_option maxHeartbeats 400000 in
theorem mul_15_17 (w : World) : Calls Tryd.prog 9 #[.int .u8 15, .int .u8 17] w fun e w' => e = .returned (.tuple #[.int .u8 255, .bool true]) ∧ w' = w := by
  have HM : Hid (∀ w : World, Calls Tryd.prog 43 #[.int .u64 15, .int .u64 17] w fun e w' => e = .returned (.tuple #[.int .u64 0, .int .u64 255]) ∧ w' = w) := fun w => mul64_small 15 17 255 (by decide) (by decide) (by decide) (by decide) w
  go_enter Tryd.func9, Tryd.ntmps9
  go_wp2_with fail
  refine (HM.out _).mono ?_
  rintro e w' ⟨rfl, hw⟩
  rw [hw]
  clear hw w'
  go_wp2_with (first | (go_at_call 73; refine (greatest_u8 _).mono ?_; rintro e w' ⟨rfl, hw⟩; rw [hw]; clear hw) | go_in)
  go_ret2
  exact ⟨rfl, rfl⟩
set_option maxHeartbeats 400000 in
theorem mul_300_300 (w : World) : Calls Tryd.prog 10 #[.int .u16 300, .int .u16 300] w fun e w' => e = .returned (.tuple #[.int .u16 0, .bool false]) ∧ w' = w := by
  have HM : Hid (∀ w : World, Calls Tryd.prog 43 #[.int .u64 300, .int .u64 300] w fun e w' => e = .returned (.tuple #[.int .u64 0, .int .u64 90000]) ∧ w' = w) := fun w => mul64_small 300 300 90000 (by decide) (by decide) (by decide) (by decide) w
  go_enter Tryd.func10, Tryd.ntmps10
  go_wp2_with fail
  refine (HM.out _).mono ?_
  rintro e w' ⟨rfl, hw⟩
  rw [hw]
  clear hw w'
  go_wp2_with (first | (go_at_call 74; refine (greatest_u16 _).mono ?_; rintro e w' ⟨rfl, hw⟩; rw [hw]; clear hw) | go_in)
  go_ret2
  exact ⟨rfl, rfl⟩
end Go.Proofs.YtphlfkkbkkocmaaDoor
