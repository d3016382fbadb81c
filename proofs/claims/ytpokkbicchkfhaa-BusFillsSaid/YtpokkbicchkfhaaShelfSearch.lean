/- Contracts of the library, laid at this program: in plain words, by a program. -/
import Derived.Shelf.SlSorted.Search
import Derived.Test.YtpokkbicchkfhaaProg
namespace Go.Proofs.Ytpokkbicchkfhaa
open Go.Shelf
def search_ren : Go.Shelf.Ren := ⟨fun | 16 => 115 | n => n, fun | 3 => 3 | 35 => 121 | 4 => 4 | 38 => 71 | n => n, fun | n => n⟩
theorem search : Go.Proofs.SlLaysO.n16 Try.prog search_ren := {
  mixed := by kernel_rfl
  f16 := Try.func115.trans (congrArg some (by kernel_rfl))
  t3 := Try.underlying3
  a3 := Try.isAgg3
  z3 := Try.sizeOf3
  v3 := Try.zeroValue3
  t4 := Try.underlying4
  a4 := Try.isAgg4
  z4 := Try.sizeOf4
  v4 := Try.zeroValue4
  t35 := Try.underlying121
  a35 := Try.isAgg121
  z35 := Try.sizeOf121
  v35 := Try.zeroValue121
  t38 := Try.underlying71
  a38 := Try.isAgg71
  z38 := Try.sizeOf71
  v38 := Try.zeroValue71 }
end Go.Proofs.Ytpokkbicchkfhaa
