/- Contracts of the library, laid at this program: in plain words, by a program. -/
import Derived.Shelf.SlSorted.Search
import Derived.Test.YtmaahompmgmkfaaGreatProg
namespace Go.Proofs.YtmaahompmgmkfaaGreat
open Go.Shelf
def search_ren : Go.Shelf.Ren := ⟨fun | 16 => 98 | n => n, fun | 3 => 3 | 35 => 94 | 4 => 4 | 38 => 48 | n => n, fun | n => n⟩
theorem search : Go.Proofs.SlLaysO.n16 Tryz.prog search_ren := {
  mixed := by kernel_rfl
  f16 := Tryz.func98.trans (congrArg some (by kernel_rfl))
  t3 := Tryz.underlying3
  a3 := Tryz.isAgg3
  z3 := Tryz.sizeOf3
  v3 := Tryz.zeroValue3
  t4 := Tryz.underlying4
  a4 := Tryz.isAgg4
  z4 := Tryz.sizeOf4
  v4 := Tryz.zeroValue4
  t35 := Tryz.underlying94
  a35 := Tryz.isAgg94
  z35 := Tryz.sizeOf94
  v35 := Tryz.zeroValue94
  t38 := Tryz.underlying48
  a38 := Tryz.isAgg48
  z38 := Tryz.sizeOf48
  v38 := Tryz.zeroValue48 }
end Go.Proofs.YtmaahompmgmkfaaGreat
