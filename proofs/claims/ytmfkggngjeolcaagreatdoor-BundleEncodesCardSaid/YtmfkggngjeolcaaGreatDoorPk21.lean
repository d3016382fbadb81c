import Derived.Test.YtmfkggngjeolcaaGreatDoorPk17
import Derived.Test.YtmfkggngjeolcaaGreatDoorPk20
import Derived.Test.YtmfkggngjeolcaaGreatDoorPk11
import Derived.BigQuiet
import Derived.Test.YtmfkggngjeolcaaGreatDoorPk19
/- Bundle: tables are taken. Own work. -/
namespace Go.Proofs.YtmfkggngjeolcaaGreatDoor
open Go.RowKit Bn Dc
set_option linter.unusedVariables false
set_option linter.unusedSimpArgs false
theorem tb_ok : EncOk 512 tbE := ⟨fun f => by simp [tbE, tabV_size], fun f u hu => by
  have h9 := tabV_one f
  rw [Array.all_eq_true_iff_forall_mem] at h9
  exact h9 u (by simpa [tbE] using hu)⟩
namespace Dc
def tabD (q : Pt) (s : D) : (Nat → Nat) × D := (if (bytesD q 4096 s).1.length = 4096 then numT (bytesD q 4096 s).1 else fun _ => 0, (bytesD q 4096 s).2)
end Dc
section
variable {B kb : Nat} {raw : Value} {im en : List Value} {q : Pt} {p g : Nat} {s : D} {w : World}
end
section
variable {B kb : Nat} {raw : Value} {im en : List Value} {q : Pt} {p g : Nat} {w0 : World} {s : D} {w w' : World}
end
end Go.Proofs.YtmfkggngjeolcaaGreatDoor
/- Bundle: sections are taken (written by parts/gen_dcsec.py). Own work. -/
namespace Go.Proofs.YtmfkggngjeolcaaGreatDoor
open Go.RowKit Bn Dc
set_option linter.unusedVariables false
set_option linter.unusedSimpArgs false
section
variable {B kb : Nat} {raw : Value} {im en : List Value} {q : Pt} {p g : Nat} {w0 : World} {s : D} {w w' : World}
/-- a section of one row is taken -/
def SecP (t : TypeId) {β : Type} (k : Nat) (enc : β → List Value) (i : Nat) (B kb : Nat) (raw : Value) (im en : List Value) (q : Pt) (p g : Nat) (w0 : World) (xs : List β) (s' : D) (w' : World) : Prop := ∃ v, OwnG t k enc w' 0 v xs ∧ Dt B kb raw (im.set i v) en q p g w0 s' w'
end
end Go.Proofs.YtmfkggngjeolcaaGreatDoor
/- Bundle: the bus, the ports, the tables are taken. Own work. -/
namespace Go.Proofs.YtmfkggngjeolcaaGreatDoor
open Go.RowKit Bn Dc
set_option linter.unusedVariables false
set_option linter.unusedSimpArgs false
namespace Dc
structure BusR where
  rams : List Rg
  devs : List Rg
def busD (q : Pt) (s : D) : BusR × D :=
  let a := takeD q 2 s
  let b := takeD q 2 a.2
  let c := listD (spanD q) a.1 (zerosD q 4 b.2)
  let d := listD (spanD q) b.1 c.2
  (⟨c.1, d.1⟩, d.2)
def portsD (q : Pt) (m : Nat) (s : D) : List Int × D :=
  let a := takeD q 2 s
  listD (portD q) a.1 (zerosD q 6 (formD q (decide (a.1 = m)) 0 a.2))
def tabsD (q : Pt) (s : D) : List (Nat → Nat) × D := listD (tabD q) ((q.Z.length - s.pos) / 4096) s
end Dc
section
variable {B kb : Nat} {raw : Value} {im en : List Value} {q : Pt} {p g : Nat} {w0 : World} {s : D} {w w' : World}
end
end Go.Proofs.YtmfkggngjeolcaaGreatDoor
