import Derived.Shelf.SlSorted.Search
import Derived.Test.YtdkhhofgfbnmkaaGreatProg
/- Contracts of the library, laid at this program: in plain words, by a program. -/
namespace Go.Proofs.YtdkhhofgfbnmkaaGreat
open Go.Shelf
def search_ren : Go.Shelf.Ren := ⟨fun | 16 => 121 | n => n, fun | 3 => 3 | 35 => 87 | 4 => 4 | 38 => 89 | n => n, fun | n => n⟩
theorem search : Go.Proofs.SlLaysO.n16 Tryz.prog search_ren := {
  mixed := by kernel_rfl
  f16 := Tryz.func121.trans (congrArg some (by kernel_rfl))
  t3 := Tryz.underlying3
  a3 := Tryz.isAgg3
  z3 := Tryz.sizeOf3
  v3 := Tryz.zeroValue3
  t4 := Tryz.underlying4
  a4 := Tryz.isAgg4
  z4 := Tryz.sizeOf4
  v4 := Tryz.zeroValue4
  t35 := Tryz.underlying87
  a35 := Tryz.isAgg87
  z35 := Tryz.sizeOf87
  v35 := Tryz.zeroValue87
  t38 := Tryz.underlying89
  a38 := Tryz.isAgg89
  z38 := Tryz.sizeOf89
  v38 := Tryz.zeroValue89 }
end Go.Proofs.YtdkhhofgfbnmkaaGreat
