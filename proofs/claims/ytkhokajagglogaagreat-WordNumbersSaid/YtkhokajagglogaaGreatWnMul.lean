/- WordNumbers: bits.Mul64, by the library's contract. Own work. -/
import Derived.Test.YtkhokajagglogaaGreatWnRef
import Derived.Shelf.Bits.Mul64
namespace Go.Proofs.YtkhokajagglogaaGreat
open Go.RowKit
def ren264 : Go.Shelf.Ren := ⟨fun | 264 => 141 | n => n, fun | 53 => 22 | 46 => 123 | n => n, fun | n => n⟩
theorem lays264 : Go.Proofs.Lays.n264 Tryz.prog ren264 := {
  mixed := by kernel_rfl
  f264 := Tryz.func141.trans (congrArg some (by kernel_rfl))
  t46 := Tryz.underlying123
  a46 := Tryz.isAgg123
  z46 := Tryz.sizeOf123
  v46 := Tryz.zeroValue123
  t53 := Tryz.underlying22
  a53 := Tryz.isAgg22
  z53 := Tryz.sizeOf22
  v53 := Tryz.zeroValue22 }
theorem mul64_any {x y : Nat} (hx : x ≤ 18446744073709551615) (hy : y ≤ 18446744073709551615) (w : World) :
    Calls Tryz.prog 141 #[.int .u64 (x : Int), .int .u64 (y : Int)] w fun e w' => ∃ h l : Nat, e = .returned (.tuple #[.int .u64 (h : Int), .int .u64 (l : Int)]) ∧ (if x * y ≤ 18446744073709551615 then h = 0 ∧ l = x * y else 0 < h) ∧ l ≤ 18446744073709551615 ∧ w' = w := by
  have c : Calls Tryz.prog 141 #[.int .u64 x, .int .u64 y] w fun e w' => e = .returned (.tuple #[.int .u64 ((x * y / 18446744073709551616 : Nat) : Int), .int .u64 ((x * y % 18446744073709551616 : Nat) : Int)]) ∧ w' = w := Any.bits_Mul64 lays264 x y (by omega) (by omega) w
  refine c.mono ?_
  rintro e w' ⟨rfl, rfl⟩
  refine ⟨_, _, rfl, ?_, ?_, rfl⟩
  · split
    · exact ⟨Nat.div_eq_of_lt (by omega), Nat.mod_eq_of_lt (by omega)⟩
    · exact Nat.div_pos (by omega) (by decide)
  · have := Nat.mod_lt (x * y) (show 0 < 18446744073709551616 by decide)
    omega
end Go.Proofs.YtkhokajagglogaaGreat
