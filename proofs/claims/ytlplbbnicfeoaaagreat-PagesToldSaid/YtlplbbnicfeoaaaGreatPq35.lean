import Derived.Shelf.SlicesE.Clone
import Derived.Test.YtlplbbnicfeoaaaGreatProg
/- Contracts of the library, laid at this program: in plain words, by a program. -/
namespace Go.Proofs.YtlplbbnicfeoaaaGreat
open Go.Shelf
def cloneRange_ren : Go.Shelf.Ren := ⟨fun | 41 => 71 | n => n, fun | 22 => 51 | 23 => 50 | 4 => 4 | n => n, fun | n => n⟩
theorem cloneRange : Go.Proofs.SlLaysE0.n41 Tryz.prog cloneRange_ren := {
  mixed := by kernel_rfl
  f41 := ⟨Tryz.f71.name, by decide, Tryz.func71.trans (congrArg some (by kernel_rfl))⟩
  t4 := Tryz.underlying4
  a4 := Tryz.isAgg4
  z4 := Tryz.sizeOf4
  v4 := Tryz.zeroValue4
  t22 := Tryz.underlying51
  a22 := Tryz.isAgg51
  z22 := Tryz.sizeOf51
  v22 := Tryz.zeroValue51 }
end Go.Proofs.YtlplbbnicfeoaaaGreat
