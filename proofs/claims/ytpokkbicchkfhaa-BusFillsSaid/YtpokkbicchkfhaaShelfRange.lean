/- Contracts of the library, laid at this program: in plain words, by a program. -/
import Derived.Shelf.SlicesE.Clone
import Derived.Test.YtpokkbicchkfhaaProg
namespace Go.Proofs.Ytpokkbicchkfhaa
open Go.Shelf
def cloneRange_ren : Go.Shelf.Ren := ⟨fun | 41 => 63 | n => n, fun | 22 => 29 | 23 => 28 | 4 => 4 | n => n, fun | n => n⟩
theorem cloneRange : Go.Proofs.SlLaysE0.n41 Try.prog cloneRange_ren := {
  mixed := by kernel_rfl
  f41 := ⟨Try.f63.name, by decide, Try.func63.trans (congrArg some (by kernel_rfl))⟩
  t4 := Try.underlying4
  a4 := Try.isAgg4
  z4 := Try.sizeOf4
  v4 := Try.zeroValue4
  t22 := Try.underlying29
  a22 := Try.isAgg29
  z22 := Try.sizeOf29
  v22 := Try.zeroValue29 }
end Go.Proofs.Ytpokkbicchkfhaa
