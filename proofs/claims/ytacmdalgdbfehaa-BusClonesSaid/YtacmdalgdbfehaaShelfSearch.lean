/- Contracts of the library, laid at this program: in plain words, by a program. -/
import Derived.Shelf.SlSorted.Search
import Derived.Test.YtacmdalgdbfehaaProg
namespace Go.Proofs.Ytacmdalgdbfehaa
open Go.Shelf
def search_ren : Go.Shelf.Ren := ⟨fun | 16 => 106 | n => n, fun | 3 => 3 | 35 => 102 | 4 => 4 | 38 => 122 | n => n, fun | n => n⟩
theorem search : Go.Proofs.SlLaysO.n16 Try.prog search_ren := {
  mixed := by kernel_rfl
  f16 := Try.func106.trans (congrArg some (by kernel_rfl))
  t3 := Try.underlying3
  a3 := Try.isAgg3
  z3 := Try.sizeOf3
  v3 := Try.zeroValue3
  t4 := Try.underlying4
  a4 := Try.isAgg4
  z4 := Try.sizeOf4
  v4 := Try.zeroValue4
  t35 := Try.underlying102
  a35 := Try.isAgg102
  z35 := Try.sizeOf102
  v35 := Try.zeroValue102
  t38 := Try.underlying122
  a38 := Try.isAgg122
  z38 := Try.sizeOf122
  v38 := Try.zeroValue122 }
end Go.Proofs.Ytacmdalgdbfehaa
