import Derived.Test.YtmfkggngjeolcaaGreatDoorPk14
import Derived.WalkKit
import Derived.WalkSpells
import Derived.WalkLawsBesides
import Derived.Deep.RegionHeld3
import Derived.Lib.Hide
/- Bundle: word's Reader, by the state (written by parts/gen_dctak.py). Own work. -/
namespace Go.Proofs.YtmfkggngjeolcaaGreatDoor
open Go.RowKit Bn Dc
set_option linter.unusedVariables false
set_option linter.unusedSimpArgs false
section
variable {B kb : Nat} {raw : Value} {im en : List Value} {q : Pt} {p g : Nat} {w0 : World} {s : D} {w w' : World}
theorem d_nil (w : World) : Sl w (.slice none 0 0) [] := ⟨none, 0, rfl, by simp, by simp [maxLen], by simp, fun _ => rfl, fun i hi => by simp at hi⟩

/-- bytes that were handed out: in a row of their own -/
def Bv (w : World) (v : Value) (bs : List Nat) : Prop := (∀ z ∈ bs, z < 256) ∧ bs.length ≤ 1099511627776 ∧ ((v = .slice none 0 0 ∧ bs = []) ∨ ∃ k, v = .slice (some ⟨k, 0, none⟩) bs.length bs.length ∧ Row w k bs)
theorem Bv.sl {v : Value} {bs : List Nat} (h : Bv w v bs) : Sl w v bs := by
  obtain ⟨h1, h2, ⟨rfl, rfl⟩ | ⟨k, rfl, hr⟩⟩ := h
  · exact d_nil w
  · have := hr.sl h1 0 bs.length bs.length (by omega) (Nat.le_refl _) (by unfold maxLen; omega)
    rwa [List.drop_zero, List.take_length] at this
theorem Bv.fd {v : Value} {bs : List Nat} (h : Bv w v bs) (hf : Fd B w w') : Bv w' v bs := by
  obtain ⟨h1, h2, h | ⟨k, rfl, hr⟩⟩ := h
  · exact ⟨h1, h2, .inl h⟩
  · exact ⟨h1, h2, .inr ⟨k, rfl, (hf.block' ⟨_, hr⟩ (by decide) (by decide)).trans hr⟩⟩
end
end Go.Proofs.YtmfkggngjeolcaaGreatDoor
/- Bundle: what the reader takes, one by one. Own work. -/
namespace Go.Proofs.YtmfkggngjeolcaaGreatDoor
open Go.RowKit Bn Dc
set_option linter.unusedVariables false
set_option linter.unusedSimpArgs false
section
variable {B kb : Nat} {raw : Value} {im en : List Value} {q : Pt} {p g : Nat} {w0 : World} {s : D} {w w' : World}
end
end Go.Proofs.YtmfkggngjeolcaaGreatDoor
/- Bundle: zeros, many, text. Own work. -/
namespace Go.Proofs.YtmfkggngjeolcaaGreatDoor
open Go.RowKit Bn Dc
set_option linter.unusedVariables false
set_option linter.unusedSimpArgs false
section
variable {B kb : Nat} {raw : Value} {im en : List Value} {q : Pt} {p g : Nat} {w0 : World} {s : D} {w w' : World}
theorem Bv.slice {v : Value} {bs : List Nat} (h : Bv w v bs) : ∃ ao, v = .slice ao bs.length bs.length := by
  obtain ⟨h1, h2, ⟨rfl, rfl⟩ | ⟨k, rfl, hr⟩⟩ := h
  · exact ⟨none, rfl⟩
  · exact ⟨_, rfl⟩
end
end Go.Proofs.YtmfkggngjeolcaaGreatDoor
