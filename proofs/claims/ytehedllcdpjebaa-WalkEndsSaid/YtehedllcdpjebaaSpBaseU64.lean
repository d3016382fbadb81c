/- Rows of spans of one type of numbers in memory: read, owned, laid behind. Own work. -/
import Derived.Test.YtehedllcdpjebaaProg
import Derived.Test.YtehedllcdpjebaaSpMath
import Derived.WalkKit
import Derived.WalkSpells
import Derived.WalkLawsBesides
import Derived.Maps.AppendAt
import Derived.Deep.RegionHeld
import Derived.Shelf.Abstract
namespace Go.Proofs.Ytehedllcdpjebaa.U64
open Go.RowKit Go.Shelf Go.Proofs.Ytehedllcdpjebaa.Sp

def enc (x : Sp) : List Value := [.int .u64 x.1, .int .u64 x.2]
def encs (xs : List Sp) : List Value := xs.flatMap enc
theorem encs_length (xs : List Sp) : (encs xs).length = xs.length * 2 := by
  induction xs with
  | nil => rfl
  | cons x xs ih => simp only [encs, List.flatMap_cons, List.length_append, List.length_cons] at ih ⊢; rw [ih]; simp only [enc, List.length_cons, List.length_nil]; omega
theorem encs_append (xs ys : List Sp) : encs (xs ++ ys) = encs xs ++ encs ys := by simp [encs]
theorem encs_one (xs : List Sp) : ∀ u ∈ encs xs, u.oneCell' = true := by
  intro u hu
  obtain ⟨x, _, h⟩ := List.mem_flatMap.1 hu
  simp only [enc, List.mem_cons, List.not_mem_nil, or_false] at h
  rcases h with rfl | rfl <;> rfl
theorem encs_get0 (xs : List Sp) (j : Nat) (h : j < xs.length) : (encs xs)[j * 2]? = some (.int .u64 xs[j].1) := by
  induction xs generalizing j with
  | nil => simp at h
  | cons x xs ih =>
    cases j with
    | zero => rfl
    | succ j =>
      have := ih j (by simpa using h)
      rw [show encs (x :: xs) = enc x ++ encs xs from rfl, List.getElem?_append_right (by simp [enc]; omega)]
      rw [show (j + 1) * 2 - (enc x).length = j * 2 by simp [enc]; omega, this]
      rfl
theorem encs_get1 (xs : List Sp) (j : Nat) (h : j < xs.length) : (encs xs)[j * 2 + 1]? = some (.int .u64 xs[j].2) := by
  induction xs generalizing j with
  | nil => simp at h
  | cons x xs ih =>
    cases j with
    | zero => rfl
    | succ j =>
      have := ih j (by simpa using h)
      rw [show encs (x :: xs) = enc x ++ encs xs from rfl, List.getElem?_append_right (by simp [enc]; omega)]
      rw [show (j + 1) * 2 + 1 - (enc x).length = j * 2 + 1 by simp [enc]; omega, this]
      rfl

/-- A slice of spans in memory. -/
def SV (w : World) (v : Value) (xs : List Sp) : Prop :=
  ∃ ao cap, v = .slice ao xs.length cap ∧ xs.length ≤ cap ∧ cap ≤ maxLen ∧ (ao = none → xs = [] ∧ cap = 0) ∧ (∀ a, ao = some a → ∃ g off, a = ⟨g, off, none⟩ ∧ g < w.heap.size) ∧
    ∀ j (h : j < xs.length), ∃ g off, ao = some ⟨g, off, none⟩ ∧ w.cell? ⟨g, off + j * 2, none⟩ = some (.int .u64 xs[j].1) ∧ w.cell? ⟨g, off + j * 2 + 1, none⟩ = some (.int .u64 xs[j].2)
theorem SV.nil (w : World) : SV w (.slice none 0 0) [] := ⟨none, 0, rfl, Nat.le_refl _, Nat.zero_le _, fun _ => ⟨rfl, rfl⟩, fun _ h => (by cases h), fun j h => by simp at h⟩
theorem SV.below {B : Nat} {w w' : World} {v : Value} {xs : List Sp} (h : SV w v xs) (hb : Below B w w') (hB : w.heap.size ≤ B) : SV w' v xs := by
  obtain ⟨ao, cap, rfl, h1, h2, h3, h4, h5⟩ := h
  refine ⟨ao, cap, rfl, h1, h2, h3, fun a e => (h4 a e).imp fun g ⟨off, e, hl⟩ => ⟨off, e, Nat.lt_of_lt_of_le hl hb.size⟩, fun j hj => ?_⟩
  obtain ⟨g, off, e, c0, c1⟩ := h5 j hj
  obtain ⟨g', off', e', hg⟩ := h4 _ e
  cases e'
  refine ⟨g, off, e, ?_, ?_⟩
  · rw [hb.cell (p := ⟨g, off + j * 2, none⟩) (Nat.lt_of_lt_of_le hg hB)]; exact c0
  · rw [hb.cell (p := ⟨g, off + j * 2 + 1, none⟩) (Nat.lt_of_lt_of_le hg hB)]; exact c1
theorem SV.alloc {w : World} {v : Value} {xs : List Sp} (h : SV w v xs) (o : Obj) : SV (w.alloc o) v xs := h.below ((Below.refl _ _).alloc (Nat.le_refl _) _) (Nat.le_refl _)

/-- A row of spans that is owned from base on. -/
def Own (w : World) (base : Nat) (v : Value) (xs : List Sp) : Prop := w.ownsRow base 102 2 v xs.length (encs xs)
theorem Own.sv {w : World} {base : Nat} {v : Value} {xs : List Sp} (h : Own w base v xs) : SV w v xs := by
  rcases h.2 with ⟨rfl, h0⟩ | ⟨g, cap, cur, rfl, hb, hg, hnc, hcm, hcs, ht⟩
  · obtain rfl := List.eq_nil_of_length_eq_zero h0
    exact SV.nil w
  · refine ⟨_, cap, rfl, hnc, hcm, fun e => (by cases e), fun a e => (by cases e; exact ⟨g, 0, rfl, (Array.getElem?_eq_some_iff.1 hg).1⟩), fun j hj => ⟨g, 0, rfl, ?_, ?_⟩⟩
    · rw [Nat.zero_add, cell_of_row w g (j * 2) _ _ _ hg, ← Array.getElem?_toList, ← encs_get0 xs j hj, ← ht, List.getElem?_take_of_lt (by omega)]
    · rw [Nat.zero_add, cell_of_row w g (j * 2 + 1) _ _ _ hg, ← Array.getElem?_toList, ← encs_get1 xs j hj, ← ht, List.getElem?_take_of_lt (by omega)]
theorem Own.nil (w : World) (base : Nat) : Own w base (.slice none 0 0) [] := ⟨rfl, .inl ⟨rfl, rfl⟩⟩
theorem Own.below {B base : Nat} {w w' : World} {v : Value} {xs : List Sp} (h : Own w base v xs) (hb : Below B w w') (hB : w.heap.size ≤ B) : Own w' base v xs := by
  refine ⟨h.1, ?_⟩
  rcases h.2 with hv | ⟨g, cap, cur, rfl, hbb, hgg, rest⟩
  · exact .inl hv
  · refine .inr ⟨g, cap, cur, rfl, hbb, ?_, rest⟩
    rw [hb.block g (Nat.lt_of_lt_of_le (Array.getElem?_eq_some_iff.1 hgg).1 hB)]
    exact hgg
theorem below_drewN' {B : Nat} {a w : World} (h : Below B a w) (n : Nat) : Below B a (w.drewN n) := ⟨h.os, h.tape, h.output, h.size, h.block⟩
theorem set_other {w : World} {b b' i j : Nat} {v : Value} (h : b' ≠ b) : (w.setCell ⟨b, i, none⟩ v).cell? ⟨b', j, none⟩ = w.cell? ⟨b', j, none⟩ :=
  World.cell?_of_block (w := w) (a := ⟨b', j, none⟩) (Below.heap_setCell _ _ _ _ h)
theorem cell_alloc' {w : World} {p : Addr} {v : Value} (o : Obj) (h : w.cell? p = some v) : (w.alloc o).cell? p = some v := by
  rw [((Below.refl w.heap.size w).alloc (Nat.le_refl _) o).cell (p := p) (World.block_lt_of_cell? w _ h)]; exact h
theorem new2 {W : World} {n : Nat} (hn : W.heap.size = n) (a b : Value) (t : TypeId) : (W.alloc (.cells #[a, b] t)).cell? ⟨n, 0, none⟩ = some a ∧ (W.alloc (.cells #[a, b] t)).cell? ⟨n, 1, none⟩ = some b := by
  have e : (W.alloc (.cells #[a, b] t)).heap[n]? = some (.cells #[a, b] t) := by
    rw [← hn]; exact heap_alloc_new W _
  constructor
  · rw [cell_of_row _ _ 0 _ _ _ e]; rfl
  · rw [cell_of_row _ _ 1 _ _ _ e]; rfl
theorem Own.alloc {w : World} {base : Nat} {v : Value} {xs : List Sp} (h : Own w base v xs) (o : Obj) : Own (w.alloc o) base v xs := h.below ((Below.refl _ _).alloc (Nat.le_refl _) _) (Nat.le_refl _)
theorem Own.drewN {w : World} {base : Nat} {v : Value} {xs : List Sp} (h : Own w base v xs) (n : Nat) : Own (w.drewN n) base v xs := h
theorem wrap_in {n : Int} (h0 : 0 ≤ n) (h1 : n ≤ 18446744073709551615) : IntKind.u64.wrap n = n := by
  show n % (18446744073709551615 + 1) = n
  exact Int.emod_eq_of_lt h0 (by omega)
theorem info_span : (Try.prog.info? 102).map (fun i => (i.zero, i.size, i.bytes)) = some (some (.agg #[.int .u64 0, .int .u64 0]), 2, 2 * 8) := by kernel_rfl
end Go.Proofs.Ytehedllcdpjebaa.U64
