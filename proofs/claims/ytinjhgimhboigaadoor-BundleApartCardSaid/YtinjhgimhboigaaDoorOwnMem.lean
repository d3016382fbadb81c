/- Stores into rows that are owned; what stays. -/
import Derived.Test.YtinjhgimhboigaaDoorApp
namespace Go.Proofs.YtinjhgimhboigaaDoor
open Go.RowKit
theorem Own.form {w : World} {base : Nat} {v : Value} {xs : List Nat} (h : Own w base v xs) (hp : 0 < xs.length) : ∃ g cap, v = .slice (some ⟨g, 0, none⟩) xs.length cap ∧ base ≤ g ∧ g < w.heap.size ∧ xs.length ≤ cap ∧ cap ≤ maxLen := by
  rcases h.2 with ⟨rfl, h0⟩ | ⟨g, cap, cur, rfl, hb, hg, hnc, hcm, hcs, ht⟩
  · omega
  · exact ⟨g, cap, rfl, hb, (Array.getElem?_eq_some_iff.1 hg).1, hnc, hcm⟩
theorem Own.len {w : World} {base g n cap : Nat} {xs : List Nat} (h : Own w base (.slice (some ⟨g, 0, none⟩) n cap) xs) : n = xs.length := by
  rcases h.2 with ⟨hv, _⟩ | ⟨g', cap', cur, hv, _⟩
  · cases hv
  · cases hv
    rfl
theorem Own.cell {w : World} {base g n cap : Nat} {xs : List Nat} (h : Own w base (.slice (some ⟨g, 0, none⟩) n cap) xs) (i : Nat) (hi : i < xs.length) : w.cell? ⟨g, i, none⟩ = some (.int .u8 ((xs.getD i 0 : Nat) : Int)) := by
  have := h.cells (g := g) rfl i _ (bvs_get xs i hi)
  rwa [Addr.add_lit, Nat.zero_add] at this
theorem Own.thawed {w : World} {base g cap n : Nat} {xs : List Nat} (h : Own w base (.slice (some ⟨g, 0, none⟩) n cap) xs) (i : Nat) : w.frozen? ⟨g, i, none⟩ = false := by
  rcases h.2 with ⟨hv, _⟩ | ⟨g', cap', cur, hv, _, hg, _⟩
  · cases hv
  · cases hv
    simp [World.frozen?, hg]
theorem Own.set {w : World} {base g n cap : Nat} {xs : List Nat} (h : Own w base (.slice (some ⟨g, 0, none⟩) n cap) xs) (i u : Nat) :
    Own (w.setCell ⟨g, i, none⟩ (.int .u8 ((u : Nat) : Int))) base (.slice (some ⟨g, 0, none⟩) n cap) (xs.set i u) := by
  obtain rfl := h.len
  have e : bvs (xs.set i u) = (bvs xs).set i (.int .u8 ((u : Nat) : Int)) := by simp [bvs, List.map_set]
  rcases h.2 with ⟨hv, _⟩ | ⟨g', cap', cur, hv, hb, hg, hnc, hcm, hcs, ht⟩
  · cases hv
  · cases hv
    refine ⟨by rw [bvs_length]; omega, .inr ⟨g, cap, cur.setIfInBounds i (.int .u8 ((u : Nat) : Int)), by rw [List.length_set], hb, ?_, by simpa using hnc, hcm, by simpa using hcs, ?_⟩⟩
    · simp only [World.setCell, Array.getElem?_modify]
      rw [if_pos trivial, hg]
      simp
    · rw [e, ← ht, Array.toList_setIfInBounds, List.length_set, List.take_set]
theorem Own.other {w : World} {base : Nat} {v : Value} {xs : List Nat} (h : Own w base v xs) (b i : Nat) (u : Value) (hb : v.ownBlock ≠ some b) : Own (w.setCell ⟨b, i, none⟩ u) base v xs :=
  h.kept (row := some b) ⟨rfl, rfl, rfl, by simp [World.setCell], fun k _ hk => Below.heap_setCell _ _ _ _ (by simpa using hk)⟩ (.inr hb)
theorem Row.other {w : World} {g : Nat} {L : List Nat} (h : Row w g L) (b i : Nat) (u : Value) (hb : g ≠ b) : Row (w.setCell ⟨b, i, none⟩ u) g L :=
  h.kept (Below.heap_setCell _ _ _ _ hb)
theorem Row.grown {w w' : World} {g : Nat} {L : List Nat} {row : Option Nat} (h : Row w g L) (hg : w.grownBy w' row) (hne : some g ≠ row) : Row w' g L := h.kept (hg.block g h.lt hne)
theorem below_grown {B : Nat} {w w' : World} {row : Option Nat} (hg : w.grownBy w' row) (hB : B ≤ w.heap.size) (hr : ∀ k, row = some k → B ≤ k) : Below B w w' := (Below.refl _ _).grown hg hB hr
end Go.Proofs.YtinjhgimhboigaaDoor
