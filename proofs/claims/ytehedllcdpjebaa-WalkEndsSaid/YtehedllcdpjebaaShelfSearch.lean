/- Contracts of the library, laid at this program: in plain words, by a program. -/
import Derived.Shelf.SlSorted.Search
import Derived.Test.YtehedllcdpjebaaProg
namespace Go.Proofs.Ytehedllcdpjebaa
open Go.Shelf
def search_ren : Go.Shelf.Ren := ⟨fun | 16 => 85 | n => n, fun | 3 => 3 | 35 => 149 | 4 => 4 | 38 => 112 | n => n, fun | n => n⟩
theorem search : Go.Proofs.SlLaysO.n16 Try.prog search_ren := {
  mixed := by kernel_rfl
  f16 := Try.func85.trans (congrArg some (by kernel_rfl))
  t3 := Try.underlying3
  a3 := Try.isAgg3
  z3 := Try.sizeOf3
  v3 := Try.zeroValue3
  t4 := Try.underlying4
  a4 := Try.isAgg4
  z4 := Try.sizeOf4
  v4 := Try.zeroValue4
  t35 := Try.underlying149
  a35 := Try.isAgg149
  z35 := Try.sizeOf149
  v35 := Try.zeroValue149
  t38 := Try.underlying112
  a38 := Try.isAgg112
  z38 := Try.sizeOf112
  v38 := Try.zeroValue112 }
end Go.Proofs.Ytehedllcdpjebaa
