/- stretch, behind, merge; Or, Meet, Less. Own work. -/
import Derived.Test.YtabgmlnlooiddaaGreatSpJoinU16
namespace Go.Proofs.YtabgmlnlooiddaaGreat.U16
open Go.RowKit Go.Shelf Go.Proofs.YtabgmlnlooiddaaGreat.Sp

theorem SV.tail {w : World} {g off cap : Nat} {x : Sp} {r : List Sp} (h : SV w (.slice (some ⟨g, off, none⟩) (x :: r).length cap) (x :: r)) : SV w (.slice (some ⟨g, off + 2, none⟩) r.length (cap - 1)) r := by
  obtain ⟨ao, cap, e, h1, h2, h3, h4, h5⟩ := h
  cases e
  obtain ⟨g', off', e', hg⟩ := h4 _ rfl
  cases e'
  refine ⟨_, _, rfl, by simp at h1; omega, by omega, fun e => (by cases e), fun a e => (by cases e; exact ⟨g, off + 2, rfl, hg⟩), fun j hj => ?_⟩
  obtain ⟨g', off', e', d0, d1⟩ := h5 (j + 1) (by simpa using hj)
  cases e'
  refine ⟨g, off + 2, rfl, ?_, ?_⟩
  · rw [show off + 2 + j * 2 = off + (j + 1) * 2 by omega]; simpa using d0
  · rw [show off + 2 + j * 2 + 1 = off + (j + 1) * 2 + 1 by omega]; simpa using d1
theorem SV.tail1 {w : World} {g off : Nat} {x : Sp} {r : List Sp} (h : SV w (.slice (some ⟨g, off, none⟩) (x :: r).length 1) (x :: r)) : SV w (.slice (some ⟨g, off, none⟩) r.length 0) r := by
  obtain ⟨ao, cap, e, h1, h2, h3, h4, h5⟩ := h
  cases e
  obtain rfl : r = [] := List.eq_nil_of_length_eq_zero (by simp only [List.length_cons] at h1; omega)
  exact ⟨_, _, rfl, Nat.le_refl _, Nat.zero_le _, fun e => (by cases e), h4, fun j hj => by simp at hj⟩
theorem Own.low {w : World} {base : Nat} {v : Value} {xs : List Sp} (h : Own w base v xs) {b : Nat} (hb : b < base) (i : Nat) (u : Value) : Own (w.setCell ⟨b, i, none⟩ u) base v xs := by
  refine ⟨h.1, ?_⟩
  rcases h.2 with hv | ⟨g, cap, cur, rfl, hbb, hgg, rest⟩
  · exact .inl hv
  · refine .inr ⟨g, cap, cur, rfl, hbb, ?_, rest⟩
    rw [Below.heap_setCell _ _ _ _ (by show g ≠ b; omega)]
    exact hgg
theorem Own.lower {w : World} {base base' : Nat} {v : Value} {xs : List Sp} (h : Own w base v xs) (hb : base' ≤ base) : Own w base' v xs := by
  refine ⟨h.1, ?_⟩
  rcases h.2 with hv | ⟨g, cap, cur, rfl, hbb, rest⟩
  · exact .inl hv
  · exact .inr ⟨g, cap, cur, rfl, Nat.le_trans hb hbb, rest⟩
/-- What a call that makes a set hands back. -/
def SetPost (w : World) (R : List Sp → Prop) (e : Ending) (w' : World) : Prop := ∃ v rs, e = .returned (.agg #[v]) ∧ Own w' w.heap.size v rs ∧ R rs ∧ Below w.heap.size w w'
/-- The cell of the result: the third new block. -/
theorem third_cell {w w2 : World} {a b : Obj} {v : Value} {t : TypeId} (h : Below (((w.alloc a).alloc b).alloc (.cells #[v] t)).heap.size (((w.alloc a).alloc b).alloc (.cells #[v] t)) w2) :
    w2.cell? ⟨w.heap.size + 1 + 1, 0, none⟩ = some v ∧ w2.frozen? ⟨w.heap.size + 1 + 1, 0, none⟩ = false := by
  have e := heap_alloc_new ((w.alloc a).alloc b) (.cells #[v] t)
  rw [show ((w.alloc a).alloc b).heap.size = w.heap.size + 1 + 1 by simp] at e
  have hb := (h.block (w.heap.size + 1 + 1) (by simp)).trans e
  exact ⟨by rw [cell_of_row _ _ 0 _ _ _ hb]; rfl, by simp [World.frozen?, hb]⟩
/-- Where the walk over two rows stands. -/
def At (W0 wr : World) (keep : Bool → Bool → Bool) (s t : List Sp) (v vs vt : Value) (first : Int) : Prop :=
  ∃ rs rt acc, Mid 65535 keep s t first rs rt acc ∧ SV W0 vs rs ∧ SV W0 vt rt ∧ Own wr W0.heap.size v acc ∧ Below W0.heap.size W0 wr

end Go.Proofs.YtabgmlnlooiddaaGreat.U16
