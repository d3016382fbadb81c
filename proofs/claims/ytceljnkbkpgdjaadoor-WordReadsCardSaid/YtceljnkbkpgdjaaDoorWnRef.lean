/- WordNumbers: the document's own answers. Own work. -/
import Derived.Test.YtceljnkbkpgdjaaDoorWnPl
import Derived.Lib.Hide
namespace Go.Proofs.YtceljnkbkpgdjaaDoor
open Go.RowKit
theorem wrap_nat {n : Nat} (h : n ≤ 18446744073709551615) : IntKind.u64.wrap (n : Int) = (n : Int) := by rw [IntKind.wrap_u64]; omega
theorem wrap_suc {n : Nat} (h : n + 1 ≤ 18446744073709551615) : IntKind.u64.wrap ((n : Int) + 1) = ((n + 1 : Nat) : Int) := by rw [IntKind.wrap_u64]; omega
theorem mul_gt {a b M : Nat} (ha : 0 < a) : M / a < b ↔ M < a * b := by
  rw [Nat.div_lt_iff_lt_mul ha, Nat.mul_comm]
end Go.Proofs.YtceljnkbkpgdjaaDoor
