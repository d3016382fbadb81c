import Derived.Shelf.SlicesE.Clone
import Derived.Test.YtdkhhofgfbnmkaaGreatProg
/- Contracts of the library, laid at this program: in plain words, by a program. -/
namespace Go.Proofs.YtdkhhofgfbnmkaaGreat
open Go.Shelf
def cloneRange_ren : Go.Shelf.Ren := ⟨fun | 41 => 69 | n => n, fun | 22 => 22 | 23 => 65 | 4 => 4 | n => n, fun | n => n⟩
theorem cloneRange : Go.Proofs.SlLaysE0.n41 Tryz.prog cloneRange_ren := {
  mixed := by kernel_rfl
  f41 := ⟨Tryz.f69.name, by decide, Tryz.func69.trans (congrArg some (by kernel_rfl))⟩
  t4 := Tryz.underlying4
  a4 := Tryz.isAgg4
  z4 := Tryz.sizeOf4
  v4 := Tryz.zeroValue4
  t22 := Tryz.underlying22
  a22 := Tryz.isAgg22
  z22 := Tryz.sizeOf22
  v22 := Tryz.zeroValue22 }
end Go.Proofs.YtdkhhofgfbnmkaaGreat
