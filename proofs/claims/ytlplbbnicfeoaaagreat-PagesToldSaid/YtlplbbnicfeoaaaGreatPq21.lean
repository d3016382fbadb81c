import Derived.Shelf.SlSorted.Search
import Derived.Test.YtlplbbnicfeoaaaGreatProg
/- Contracts of the library, laid at this program: in plain words, by a program. -/
namespace Go.Proofs.YtlplbbnicfeoaaaGreat
open Go.Shelf
def search_ren : Go.Shelf.Ren := ⟨fun | 16 => 115 | n => n, fun | 3 => 3 | 35 => 184 | 4 => 4 | 38 => 145 | n => n, fun | n => n⟩
theorem search : Go.Proofs.SlLaysO.n16 Tryz.prog search_ren := {
  mixed := by kernel_rfl
  f16 := Tryz.func115.trans (congrArg some (by kernel_rfl))
  t3 := Tryz.underlying3
  a3 := Tryz.isAgg3
  z3 := Tryz.sizeOf3
  v3 := Tryz.zeroValue3
  t4 := Tryz.underlying4
  a4 := Tryz.isAgg4
  z4 := Tryz.sizeOf4
  v4 := Tryz.zeroValue4
  t35 := Tryz.underlying184
  a35 := Tryz.isAgg184
  z35 := Tryz.sizeOf184
  v35 := Tryz.zeroValue184
  t38 := Tryz.underlying145
  a38 := Tryz.isAgg145
  z38 := Tryz.sizeOf145
  v38 := Tryz.zeroValue145 }
end Go.Proofs.YtlplbbnicfeoaaaGreat
