import Derived.Shelf.SlSorted.Search
import Derived.Test.YtddgoncbdlhhhaaGreatProg
/- Contracts of the library, laid at this program: in plain words, by a program. -/
namespace Go.Proofs.YtddgoncbdlhhhaaGreat
open Go.Shelf
def search_ren : Go.Shelf.Ren := ⟨fun | 16 => 130 | n => n, fun | 3 => 3 | 35 => 118 | 4 => 4 | 38 => 93 | n => n, fun | n => n⟩
theorem search : Go.Proofs.SlLaysO.n16 Tryz.prog search_ren := {
  mixed := by kernel_rfl
  f16 := Tryz.func130.trans (congrArg some (by kernel_rfl))
  t3 := Tryz.underlying3
  a3 := Tryz.isAgg3
  z3 := Tryz.sizeOf3
  v3 := Tryz.zeroValue3
  t4 := Tryz.underlying4
  a4 := Tryz.isAgg4
  z4 := Tryz.sizeOf4
  v4 := Tryz.zeroValue4
  t35 := Tryz.underlying118
  a35 := Tryz.isAgg118
  z35 := Tryz.sizeOf118
  v35 := Tryz.zeroValue118
  t38 := Tryz.underlying93
  a38 := Tryz.isAgg93
  z38 := Tryz.sizeOf93
  v38 := Tryz.zeroValue93 }
end Go.Proofs.YtddgoncbdlhhhaaGreat
