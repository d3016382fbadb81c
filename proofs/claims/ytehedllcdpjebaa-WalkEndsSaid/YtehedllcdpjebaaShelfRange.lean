/- Contracts of the library, laid at this program: in plain words, by a program. -/
import Derived.Shelf.SlicesE.Clone
import Derived.Test.YtehedllcdpjebaaProg
namespace Go.Proofs.Ytehedllcdpjebaa
open Go.Shelf
def cloneRange_ren : Go.Shelf.Ren := ⟨fun | 41 => 47 | n => n, fun | 22 => 49 | 23 => 48 | 4 => 4 | n => n, fun | n => n⟩
theorem cloneRange : Go.Proofs.SlLaysE0.n41 Try.prog cloneRange_ren := {
  mixed := by kernel_rfl
  f41 := ⟨Try.f47.name, by decide, Try.func47.trans (congrArg some (by kernel_rfl))⟩
  t4 := Try.underlying4
  a4 := Try.isAgg4
  z4 := Try.sizeOf4
  v4 := Try.zeroValue4
  t22 := Try.underlying49
  a22 := Try.isAgg49
  z22 := Try.sizeOf49
  v22 := Try.zeroValue49 }
end Go.Proofs.Ytehedllcdpjebaa
