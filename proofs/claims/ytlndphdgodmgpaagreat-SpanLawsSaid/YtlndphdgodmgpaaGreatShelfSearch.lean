/- Contracts of the library, laid at this program: in plain words, by a program. -/
import Derived.Shelf.SlSorted.Search
import Derived.Test.YtlndphdgodmgpaaGreatProg
namespace Go.Proofs.YtlndphdgodmgpaaGreat
open Go.Shelf
def search_ren : Go.Shelf.Ren := ⟨fun | 16 => 146 | n => n, fun | 3 => 3 | 35 => 109 | 4 => 4 | 38 => 111 | n => n, fun | n => n⟩
theorem search : Go.Proofs.SlLaysO.n16 Tryz.prog search_ren := {
  mixed := by kernel_rfl
  f16 := Tryz.func146.trans (congrArg some (by kernel_rfl))
  t3 := Tryz.underlying3
  a3 := Tryz.isAgg3
  z3 := Tryz.sizeOf3
  v3 := Tryz.zeroValue3
  t4 := Tryz.underlying4
  a4 := Tryz.isAgg4
  z4 := Tryz.sizeOf4
  v4 := Tryz.zeroValue4
  t35 := Tryz.underlying109
  a35 := Tryz.isAgg109
  z35 := Tryz.sizeOf109
  v35 := Tryz.zeroValue109
  t38 := Tryz.underlying111
  a38 := Tryz.isAgg111
  z38 := Tryz.sizeOf111
  v38 := Tryz.zeroValue111 }
end Go.Proofs.YtlndphdgodmgpaaGreat
