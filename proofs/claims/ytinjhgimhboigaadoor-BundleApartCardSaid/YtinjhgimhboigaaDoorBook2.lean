/- Intact (where it must be true) and Beyond, of two numbers. -/
import Derived.Test.YtinjhgimhboigaaDoorBook
namespace Go.Proofs.YtinjhgimhboigaaDoor
open Go.RowKit
theorem Sl.front {w : World} {b o cap : Nat} {zs : List Nat} (h : Sl w (.slice (some ⟨b, o, none⟩) zs.length cap) zs) (n : Nat) (hn : n ≤ zs.length) : Sl w (.slice (some ⟨b, o, none⟩) n cap) (zs.take n) := by
  obtain ⟨ao, cap', e, h1, h2, h3, h4, h5⟩ := h
  cases e
  refine ⟨some ⟨b, o, none⟩, cap, by rw [List.length_take, Nat.min_eq_left hn], by rw [List.length_take]; omega, h2, fun z hz => h3 z (List.mem_of_mem_take hz), by simp, fun i hi => ?_⟩
  rw [List.length_take] at hi
  obtain ⟨b', o', e, hc⟩ := h5 i (by omega)
  cases e
  refine ⟨b, o, rfl, hc.trans ?_⟩
  rw [List.getD_eq_getElem?_getD, List.getD_eq_getElem?_getD, List.getElem?_take, if_pos (by omega)]
end Go.Proofs.YtinjhgimhboigaaDoor
