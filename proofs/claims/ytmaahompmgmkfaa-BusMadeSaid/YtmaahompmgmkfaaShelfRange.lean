/- Contracts of the library, laid at this program: in plain words, by a program. -/
import Derived.Shelf.SlicesE.Clone
import Derived.Test.YtmaahompmgmkfaaProg
namespace Go.Proofs.Ytmaahompmgmkfaa
open Go.Shelf
def cloneRange_ren : Go.Shelf.Ren := ⟨fun | 41 => 30 | n => n, fun | 22 => 22 | 23 => 31 | 4 => 4 | n => n, fun | n => n⟩
theorem cloneRange : Go.Proofs.SlLaysE0.n41 Try.prog cloneRange_ren := {
  mixed := by kernel_rfl
  f41 := ⟨Try.f30.name, by decide, Try.func30.trans (congrArg some (by kernel_rfl))⟩
  t4 := Try.underlying4
  a4 := Try.isAgg4
  z4 := Try.sizeOf4
  v4 := Try.zeroValue4
  t22 := Try.underlying22
  a22 := Try.isAgg22
  z22 := Try.sizeOf22
  v22 := Try.zeroValue22 }
end Go.Proofs.Ytmaahompmgmkfaa
