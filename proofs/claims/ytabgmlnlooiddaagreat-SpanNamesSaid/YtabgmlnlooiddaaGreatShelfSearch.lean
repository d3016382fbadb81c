/- Contracts of the library, laid at this program: in plain words, by a program. -/
import Derived.Shelf.SlSorted.Search
import Derived.Test.YtabgmlnlooiddaaGreatProg
namespace Go.Proofs.YtabgmlnlooiddaaGreat
open Go.Shelf
def search_ren : Go.Shelf.Ren := ⟨fun | 16 => 55 | n => n, fun | 3 => 3 | 35 => 84 | 4 => 4 | 38 => 87 | n => n, fun | n => n⟩
theorem search : Go.Proofs.SlLaysO.n16 Tryz.prog search_ren := {
  mixed := by kernel_rfl
  f16 := Tryz.func55.trans (congrArg some (by kernel_rfl))
  t3 := Tryz.underlying3
  a3 := Tryz.isAgg3
  z3 := Tryz.sizeOf3
  v3 := Tryz.zeroValue3
  t4 := Tryz.underlying4
  a4 := Tryz.isAgg4
  z4 := Tryz.sizeOf4
  v4 := Tryz.zeroValue4
  t35 := Tryz.underlying84
  a35 := Tryz.isAgg84
  z35 := Tryz.sizeOf84
  v35 := Tryz.zeroValue84
  t38 := Tryz.underlying87
  a38 := Tryz.isAgg87
  z38 := Tryz.sizeOf87
  v38 := Tryz.zeroValue87 }
end Go.Proofs.YtabgmlnlooiddaaGreat
