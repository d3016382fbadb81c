/- Reader.End, areZeros, Reader.Pad, Reader.Bytes. -/
import Derived.Test.YtmkmdcoofngkiaaTake
namespace Go.Proofs.Ytmkmdcoofngkiaa
open Go.RowKit
/-- nothing but the count of draws has changed -/
def Stay (w w' : World) : Prop := w'.heap = w.heap ∧ Below w.heap.size w w'
theorem Stay.refl (w : World) : Stay w w := ⟨rfl, Below.refl _ _⟩
theorem Stay.keeps {S : Nat → Prop} {w w' : World} (h : Stay w w') : Keeps S w w' := Keeps.of_below h.2
theorem Stay.rd {w w' : World} {p g : Nat} {zs : List Nat} {pos : Nat} {why : Int} (h : Stay w w') (hr : Rd w p g zs pos why) : Rd w' p g zs pos why := hr.keeps (h.keeps (S := fun _ => False)) (fun h => h) (fun h => h)
theorem Stay.trans {a b c : World} (h : Stay a b) (k : Stay b c) : Stay a c := ⟨k.1.trans h.1, h.2.trans (k.2.mono (by rw [h.1]; exact Nat.le_refl _))⟩
theorem Sl.head {w : World} {ao : Option Addr} {m cap : Nat} {zs : List Nat} (h : Sl w (.slice ao m cap) zs) (n : Nat) (hn : n ≤ zs.length) : Sl w (.slice ao n cap) (zs.take n) := by
  obtain ⟨a, c, e, h1, h2, h3, h4, h5⟩ := h
  cases e
  refine ⟨ao, cap, by rw [List.length_take, Nat.min_eq_left hn], by rw [List.length_take]; omega, h2, fun z hz => h3 z (List.mem_of_mem_take hz), h4, fun i hi => ?_⟩
  rw [List.length_take] at hi
  obtain ⟨b, o, e, hc⟩ := h5 i (by omega)
  refine ⟨b, o, e, hc.trans ?_⟩
  rw [List.getD_eq_getElem?_getD, List.getD_eq_getElem?_getD, List.getElem?_take, if_pos (by omega)]
end Go.Proofs.Ytmkmdcoofngkiaa
