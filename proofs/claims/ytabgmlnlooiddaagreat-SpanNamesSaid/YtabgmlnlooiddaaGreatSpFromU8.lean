/- from: the spans that don't end below a point. Own work. -/
import Derived.Test.YtabgmlnlooiddaaGreatSpWithU8
import Derived.Test.YtabgmlnlooiddaaGreatShelfSearch
namespace Go.Proofs.YtabgmlnlooiddaaGreat.U8
open Go.RowKit Go.Shelf Go.Proofs.YtabgmlnlooiddaaGreat.Sp

theorem SV.drop {w : World} {g off cap n : Nat} {xs : List Sp} (h : SV w (.slice (some ⟨g, off, none⟩) n cap) xs) {k : Nat} (hk : k ≤ xs.length) : SV w (.slice (some ⟨g, off + k * 2, none⟩) (n - k) (cap - k)) (xs.drop k) := by
  obtain ⟨ao, cap, e, h1, h2, h3, h4, h5⟩ := h
  cases e
  obtain ⟨g', off', e', hg⟩ := h4 _ rfl
  cases e'
  refine ⟨_, _, by rw [List.length_drop], by simp; omega, by omega, fun e => (by cases e), fun a e => (by cases e; exact ⟨g, _, rfl, hg⟩), fun j hj => ?_⟩
  obtain ⟨g', off', e', d0, d1⟩ := h5 (k + j) (by simp at hj; omega)
  cases e'
  refine ⟨g, off + k * 2, rfl, ?_, ?_⟩
  · rw [show off + k * 2 + j * 2 = off + (k + j) * 2 by omega, List.getElem_drop]; exact d0
  · rw [show off + k * 2 + j * 2 + 1 = off + (k + j) * 2 + 1 by omega, List.getElem_drop]; exact d1
theorem SV.dropAll {w : World} {g off n : Nat} {xs : List Sp} {k : Nat} (h : SV w (.slice (some ⟨g, off, none⟩) n k) xs) : SV w (.slice (some ⟨g, off, none⟩) 0 0) (xs.drop k) := by
  obtain ⟨ao, cap, e, h1, h2, h3, h4, h5⟩ := h
  cases e
  rw [List.drop_eq_nil_of_le (by omega)]
  exact ⟨_, _, rfl, Nat.le_refl _, Nat.zero_le _, fun e => (by cases e), h4, fun j hj => by simp at hj⟩
end Go.Proofs.YtabgmlnlooiddaaGreat.U8
