/- Points: an array of 256 truths, by value and in a block of its own; mark. Own work. -/
import Derived.Test.YtogcpogoamoljaaProg
import Derived.WalkKit
import Derived.WalkSpells
import Derived.WalkLawsBesides
import Derived.Deep.WholeRow
import Derived.Deep.MidRow
import Derived.Laws.ResultCell
import Derived.Deep.RegionHeld3
import Derived.Shelf.Abstract
namespace Go.Proofs.Ytogcpogoamoljaa
open Go.RowKit Go.Shelf

/-- the points as the array's cells -/
def ptsV (f : Nat → Bool) : Array Value := ((List.range 256).map fun i => Value.bool (f i)).toArray
theorem ptsV_size (f : Nat → Bool) : (ptsV f).size = 256 := by simp [ptsV]
theorem ptsV_get (f : Nat → Bool) {i : Nat} (h : i < 256) : (ptsV f)[i]? = some (.bool (f i)) := by
  simp [ptsV, h]
theorem ptsV_ext {f g : Nat → Bool} (h : ∀ i, i < 256 → f i = g i) : ptsV f = ptsV g := by
  unfold ptsV
  congr 1
  apply List.map_congr_left
  intro i hi
  rw [h i (List.mem_range.1 hi)]
theorem ptsV_one (f : Nat → Bool) : (ptsV f).all (·.oneCell') = true := by
  rw [Array.all_eq_true_iff_forall_mem]
  intro v hv
  simp only [ptsV, List.mem_toArray, List.mem_map] at hv
  obtain ⟨i, _, rfl⟩ := hv
  rfl
def setF (f : Nat → Bool) (p : Nat) (v : Bool) : Nat → Bool := fun q => if q = p then v else f q
theorem ptsV_set (f : Nat → Bool) {p : Nat} (h : p < 256) (v : Bool) : (ptsV f).setIfInBounds p (.bool v) = ptsV (setF f p v) := by
  apply Array.ext_getElem?
  intro i
  rw [Array.getElem?_setIfInBounds, ptsV_size]
  by_cases e : p = i
  · subst e
    simp [h, ptsV_get, setF]
  · rw [if_neg e]
    by_cases hi : i < 256
    · rw [ptsV_get _ hi, ptsV_get _ hi]
      simp [setF, show i ≠ p from fun a => e a.symm]
    · rw [Array.getElem?_eq_none (by rw [ptsV_size]; omega), Array.getElem?_eq_none (by rw [ptsV_size]; omega)]

/-- a block of points -/
def PtsAt (w : World) (b : Nat) (f : Nat → Bool) : Prop := w.heap[b]? = some (.cells (ptsV f) 33 (0, 0))
theorem PtsAt.lt {w : World} {b : Nat} {f : Nat → Bool} (h : PtsAt w b f) : b < w.heap.size := (Array.getElem?_eq_some_iff.1 h).1
theorem PtsAt.cell {w : World} {b : Nat} {f : Nat → Bool} (h : PtsAt w b f) {p : Nat} (hp : p < 256) : w.cell? ⟨b, p, none⟩ = some (.bool (f p)) := by
  rw [cell_of_row _ _ p _ _ _ h, ptsV_get f hp]
theorem PtsAt.free {w : World} {b : Nat} {f : Nat → Bool} (h : PtsAt w b f) (p : Nat) : w.frozen? ⟨b, p, none⟩ = false := by
  unfold PtsAt at h
  simp [World.frozen?, h]
theorem PtsAt.alloc {w : World} {b : Nat} {f : Nat → Bool} (h : PtsAt w b f) (o : Obj) : PtsAt (w.alloc o) b f := (Below.heap_alloc w o b h.lt).trans h
theorem PtsAt.new (w : World) (f : Nat → Bool) : PtsAt (w.alloc (.cells (ptsV f) 33)) w.heap.size f := heap_alloc_new w _
theorem PtsAt.below {w w' : World} {b : Nat} {f : Nat → Bool} {B : Nat} (h : PtsAt w b f) (hb : Below B w w') (hB : b < B) : PtsAt w' b f := (hb.block b hB).trans h
theorem PtsAt.other {w : World} {b c i : Nat} {f : Nat → Bool} {u : Value} (h : PtsAt w b f) (hc : b ≠ c) : PtsAt (w.setCell ⟨c, i, none⟩ u) b f := (Below.heap_setCell _ _ _ _ hc).trans h
theorem PtsAt.set {w : World} {b : Nat} {f : Nat → Bool} (h : PtsAt w b f) {p : Nat} (hp : p < 256) (v : Bool) : PtsAt (w.setCell ⟨b, p, none⟩ (.bool v)) b (setF f p v) := by
  unfold PtsAt at h ⊢
  rw [← ptsV_set f hp v]
  simp [World.setCell, Array.getElem?_modify, h]
theorem pts_zero : (∀ w, (zeroValue 33).run Try.prog w = .ok (.agg (ptsV fun _ => false)) w) ∧ (Try.prog.info? 33).map (·.size) = some 256 :=
  zero_of_info (by kernel_rfl)
theorem PtsAt.load {w : World} {b : Nat} {f : Nat → Bool} (h : PtsAt w b f) : (Instr.loadAt 33 (.pointer (some ⟨b, 0, none⟩))).run Try.prog w = .ok (.agg (ptsV f)) w := by
  have hu : Try.prog.underlying 33 = some (.array 256 4) := by kernel_rfl
  have := run_loadAt_mid (P := Try.prog) w b 0 33 (ptsV f).toList (.array 256 4) (fun j v hv => by
    have hj : j < 256 := by have := (List.getElem?_eq_some_iff.1 hv).1; rw [Array.length_toList, ptsV_size] at this; exact this
    rw [Nat.zero_add, h.cell hj]
    rw [Array.getElem?_toList, ptsV_get f hj] at hv
    exact hv) hu rfl (by rw [Array.length_toList, ptsV_size]; exact pts_zero.2)
  simpa using this
end Go.Proofs.Ytogcpogoamoljaa
