/- BusStores: the walk. Own work. -/
import Derived.Test.YtacmdalgdbfehaaBStores
namespace Go.Proofs.Ytacmdalgdbfehaa
open Go.RowKit Go.Maps Go.Proofs.Ytacmdalgdbfehaa.Sp
theorem mine_of {m B j : Nat} {V : Value × Value × Value} {T : Nat → Option Nat} (h : j = m ∨ Foot B T j) : Mine m B V T j := h.elim (fun e => .inl e) (fun e => .inr (.inl e))
theorem RowT.lt {w : World} {t : TypeId} {g : Nat} {L : List Nat} (h : RowT w t g L) : g < w.heap.size := (Array.getElem?_eq_some_iff.1 h).1
theorem RowT.keeps {Z : Nat → Prop} {w w' : World} {t : TypeId} {g : Nat} {L : List Nat} (h : RowT w t g L) (hk : Keeps Z w w') (hn : ¬ Z g) : RowT w' t g L := (hk.block g h.lt hn).trans h
theorem RowT.below {w w' : World} {t : TypeId} {g : Nat} {L : List Nat} (h : RowT w t g L) (hb : Below w.heap.size w w') : RowT w' t g L := (hb.block g h.lt).trans h
theorem bytesAt_getD (M : Nat → Nat) (a n i : Nat) (h : i < n) : (bytesAt M a n).getD i 0 = M (a + i) := by rw [List.getD_eq_getElem?_getD, bytesAt_get _ _ _ _ h]; rfl
theorem RowT.at {w : World} {t : TypeId} {g : Nat} {M : Nat → Nat} {a n : Nat} (h : RowT w t g (bytesAt M a n)) (i : Nat) (hi : i < n) : w.cell? ⟨g, i, none⟩ = some (.int .u8 ((M (a + i) : Nat) : Int)) := by
  rw [cell_of_row w g i _ _ _ h, List.getElem?_toArray, bvs_get _ _ (by rw [bytesAt_length]; exact hi), bytesAt_getD _ _ _ _ hi]
end Go.Proofs.Ytacmdalgdbfehaa
