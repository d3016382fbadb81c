import Derived.Test.YtmfkggngjeolcaaGreatDoorPk26
import Derived.Test.YtmfkggngjeolcaaGreatDoorPk16
import Derived.Test.YtmfkggngjeolcaaGreatDoorPk29
import Derived.Test.YtmfkggngjeolcaaGreatDoorPk19
set_option linter.unusedSimpArgs false
set_option linter.unusedVariables false
namespace Go.Proofs.YtmfkggngjeolcaaGreatDoor
open Go.RowKit Bn Ek
def LdR (w : World) (s : S) (e : Ending) (w' : World) : Prop := ∃ v, e = .returned (.agg #[v, .int .i64 s.2]) ∧ Own w' w.heap.size v s.1 ∧ (∀ z ∈ s.1, z < 256) ∧ (s.2 = 0 ∨ s.2 = 132) ∧ Below w.heap.size w w'
section
variable {N : Nat} {w W1 w1 : World} {v : Value} {s : S}
end
end Go.Proofs.YtmfkggngjeolcaaGreatDoor
namespace Go.Proofs.YtmfkggngjeolcaaGreatDoor
open Go.RowKit Bn Dc
theorem TbG.rowG {w : World} {v : Value} {fs : List (Nat → Nat)} (h : TbG w v fs) : RowG 512 tbE w v fs := by
 obtain ⟨ao, cap, rfl, h1, h2, h3⟩ := h;refine ⟨ao, cap, rfl, h1, h2, fun i hi => ?_⟩;obtain ⟨b, o, rfl, hc⟩ := h3 i hi;refine ⟨b, o, rfl, World.block_lt_of_cell? w _ (hc 0 (by decide)), fun j hj => ?_⟩;rw [hc j hj];unfold tbE;rw [Array.getElem?_toList, tabV_get _ hj]
section
variable {β : Type} {enc : β → List Value} {w : World} {base : Nat}
end
end Go.Proofs.YtmfkggngjeolcaaGreatDoor
namespace Go.Proofs.YtmfkggngjeolcaaGreatDoor
open Go.RowKit Bn Ek Dc
theorem own_low {w : World} {B B' : Nat} {v : Value} {xs : List Nat} (h : Own w B v xs) (hB : B' ≤ B) : Own w B' v xs := by
 rcases h.2 with hv | ⟨g, cap, cur, e, hb1, r⟩
 ·exact ⟨h.1, .inl hv⟩
 ·exact ⟨h.1, .inr ⟨g, cap, cur, e, by omega, r⟩⟩
theorem LdR.low {w w9 : World} (hb : Below w.heap.size w w9) {s : S} {e : Ending} {w' : World} (h : LdR w9 s e w') : LdR w s e w' := by
 obtain ⟨v, h1, h2, h3, h4, h5⟩ := h;exact ⟨v, h1, own_low h2 hb.size, h3, h4, hb.trans (h5.mono hb.size)⟩
theorem Ld.here {B kb : Nat} {w0 : World} {s : S} {w : World} (h : Ld B kb w0 s w) : Ld B kb w s w := by
 obtain ⟨v, h⟩ := h;exact ⟨v, Lv.here h⟩
theorem Ld.since {B kb : Nat} {w0 w1 : World} {s : S} {w : World} (h : Ld B kb w s w1) (k : Fk B w0 w) (hw : B ≤ w0.heap.size) : Ld B kb w0 s w1 := by
 obtain ⟨v, h⟩ := h;exact ⟨v, Lv.since h k hw⟩
end Go.Proofs.YtmfkggngjeolcaaGreatDoor
