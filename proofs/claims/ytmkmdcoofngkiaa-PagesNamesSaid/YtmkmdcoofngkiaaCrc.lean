import Derived.Test.YtmkmdcoofngkiaaProg
import Derived.Test.YtmkmdcoofngkiaaPlain
import Derived.WalkKit
import Derived.WalkSpells
import Derived.WalkLawsBesides
namespace Go.Proofs.Ytmkmdcoofngkiaa
open Go.RowKit
/-- the table lies in memory -/
def Tab (w : World) : Prop := ∀ i, i < 16 → w.cell? ⟨0, i, none⟩ = some (.int .u32 (Pl.tab.getD i 0 : Nat))
theorem not32 (r : Nat) (h : r < 4294967296) : bits .xor .u32 (IntKind.u32.max) (r : Int) = ((4294967295 ^^^ r : Nat) : Int) := by
  rw [show IntKind.u32.max = ((4294967295 : Nat) : Int) from by decide]
  exact u32_xor_nat 4294967295 r (by decide) h
theorem and15 (x : Nat) (h : x < 4294967296) : bits .and .u32 (x : Int) 15 = ((x % 16 : Nat) : Int) := by
  have := u32_and_nat x 15 h (by decide)
  rw [nat_mask4] at this
  exact this
/-- one half of a byte's step, in the walk's own forms -/
theorem nib_facts (w : World) (ht : Tab w) (x : Nat) (hx : x < 4294967296) : ∃ t c y q : Nat, t < 16 ∧ y < 4294967296 ∧ bits .and .u32 (x : Int) 15 = (t : Int) ∧ w.cell? ⟨0, t, none⟩ = some (.int .u32 c) ∧ (x : Int) / 16 = (q : Int) ∧ bits .xor .u32 (q : Int) (c : Int) = (y : Int) ∧ Hid (Pl.nib x = y) :=
  ⟨x % 16, Pl.tab.getD (x % 16) 0, Pl.nib x, x / 16, Nat.mod_lt _ (by decide), Pl.nib_lt hx, and15 x hx, ht _ (Nat.mod_lt _ (by decide)), by omega, u32_xor_nat _ _ (by omega) (Pl.tab_lt _), rfl⟩
/-- 'v' is a slice of bytes that reads as zs -/
def Sl (w : World) (v : Value) (zs : List Nat) : Prop :=
  ∃ ao cap, v = .slice ao zs.length cap ∧ zs.length ≤ cap ∧ cap ≤ maxLen ∧ (∀ z ∈ zs, z < 256) ∧ (ao = none → cap = 0) ∧ ∀ i, i < zs.length → ∃ b o, ao = some ⟨b, o, none⟩ ∧ w.cell? ⟨b, o + i, none⟩ = some (.int .u8 (zs.getD i 0 : Nat))
theorem Sl.pos {w : World} {v : Value} {zs : List Nat} (h : Sl w v zs) (hp : 0 < zs.length) : ∃ b o cap, v = .slice (some ⟨b, o, none⟩) zs.length cap ∧ zs.length ≤ cap ∧ cap ≤ maxLen ∧ (∀ z ∈ zs, z < 256) ∧ ∀ i, i < zs.length → w.cell? ⟨b, o + i, none⟩ = some (.int .u8 (zs.getD i 0 : Nat)) := by
  obtain ⟨ao, cap, rfl, h1, h2, h3, h4, h5⟩ := h
  obtain ⟨b, o, rfl, _⟩ := h5 0 hp
  refine ⟨b, o, cap, rfl, h1, h2, h3, fun i hi => ?_⟩
  obtain ⟨b', o', e, hc⟩ := h5 i hi
  cases e
  exact hc
end Go.Proofs.Ytmkmdcoofngkiaa
