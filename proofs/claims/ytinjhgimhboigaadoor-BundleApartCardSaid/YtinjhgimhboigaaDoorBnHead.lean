/- Bundle: headed. Own work. -/
import Derived.Test.YtinjhgimhboigaaDoorBnSz
import Derived.Test.YtinjhgimhboigaaDoorBnEnt
namespace Go.Proofs.YtinjhgimhboigaaDoor
open Go.RowKit Bn
set_option linter.unusedVariables false
set_option linter.unusedSimpArgs false
theorem push_modify (a : Array Obj) (x : Obj) (f : Obj → Obj) : (a.push x).modify a.size f = a.push (f x) := by
  apply Array.ext
  · simp
  · intro i h1 h2
    simp only [Array.getElem_modify, Array.getElem_push]
    by_cases h : a.size = i
    · subst h
      simp
    · have hi : i < a.size := by simp at h1; omega
      simp [h, hi]
/-- []byte of a constant -/
theorem convert_lit (w : World) (L : List Nat) (cs : Array Value) (hcs : cs.size = L.length) : (convert 37 37 (.slice (some ⟨w.heap.size, 0, none⟩) L.length L.length)).run Tryd.prog (w.alloc (.cells cs 5)) = .ok (.slice (some ⟨w.heap.size, 0, none⟩) L.length L.length) (w.alloc (.cells cs 5 (L.length, L.length + 1))) := by
  have hh : (w.alloc (.cells cs 5)).heap[w.heap.size]? = some (.cells cs 5) := heap_alloc_new w _
  have hs : (w.alloc (.cells cs 5)).shape? w.heap.size = some (5, L.length) := by
    unfold World.shape?
    rw [hh]
    simp [hcs]
  have hf : (w.alloc (.cells cs 5)).freeze ⟨w.heap.size, L.length, none⟩ 1 = w.alloc (.cells cs 5 (L.length, L.length + 1)) := by
    unfold World.freeze
    rw [if_neg (by decide)]
    show ({ w.alloc (.cells cs 5) with heap := (w.heap.push (.cells cs 5)).modify w.heap.size _ } : World) = _
    rw [push_modify]
    rfl
  simp [convert, run_underlying Tryd.underlying37, run_underlying Tryd.underlying5, markStringish, hs]
  exact hf
theorem sl_lit (w : World) (L : List Nat) (fr : Nat × Nat) (hL : ∀ z ∈ L, z < 256) (hl : L.length ≤ 1000) : Sl (w.alloc (.cells (bvs L).toArray 5 fr)) (.slice (some ⟨w.heap.size, 0, none⟩) L.length L.length) L := by
  have hr : (w.alloc (.cells (bvs L).toArray 5 fr)).heap[w.heap.size]? = some (.cells (bvs L).toArray 5 fr) := heap_alloc_new w _
  refine ⟨some ⟨w.heap.size, 0, none⟩, L.length, rfl, Nat.le_refl _, by unfold maxLen; omega, hL, by simp, fun i hi => ⟨_, _, rfl, ?_⟩⟩
  rw [Nat.zero_add, cell_of_row _ _ i _ _ _ hr]
  simpa using bvs_get L i hi
def magB : List Nat := [66, 85, 76, 75, 72, 69, 65, 68]
/-- the bytes of a section -/
def secZ (I : Im) (zs : List Nat) (k : Nat) : List Nat := (zs.drop (fstN I k)).take (lenN I k)
/-- the header, with so many entries -/
def hdP (I : Im) (zs : List Nat) : Nat → List Nat
  | 0 => magB ++ Pl.le 2 1 ++ Pl.le 2 8 ++ Pl.le 4 (zs.length / 4096) ++ Pl.le 8 I.base
  | i + 1 => hdP I zs i ++ entB (i + 1) (fstN I (i + 1)) (lenN I (i + 1)) (Pl.crc (secZ I zs (i + 1)))
def hdF (I : Im) (zs : List Nat) : List Nat := hdP I zs 8 ++ Pl.le 4 (Pl.crc (hdP I zs 8)) ++ Pl.le 4 0
/-- all bytes -/
def encF (I : Im) : List Nat := hdF I (stN I 9).1 ++ (stN I 9).1.drop 160
theorem hdP_len (I : Im) (zs : List Nat) : ∀ i, (hdP I zs i).length = 24 + 16 * i
  | 0 => by simp [hdP, magB, Pl.le_length]
  | i + 1 => by rw [hdP, List.length_append, entB_len, hdP_len I zs i]; omega
theorem hdF_len (I : Im) (zs : List Nat) : (hdF I zs).length = 160 := by simp [hdF, hdP_len, Pl.le_length]
theorem stN_mono (I : Im) : ∀ j k, j ≤ k → (stN I j).1.length ≤ (stN I k).1.length := by
  intro j k h
  induction k with
  | zero => simp at h; subst h; exact Nat.le_refl _
  | succ k ih =>
    by_cases e : j = k + 1
    · subst e; exact Nat.le_refl _
    · refine Nat.le_trans (ih (by omega)) ?_
      have h1 := sec_ge I k (zerosS (begN k (stN I k).1.length - (stN I k).1.length) (stN I k))
      rw [zeros_len] at h1
      rw [stN]
      omega
theorem fst_len (I : Im) (k : Nat) (h : k < 9) : fstN I k + lenN I k = (stN I (k + 1)).1.length ∧ (stN I (k + 1)).1.length ≤ (stN I 9).1.length := by
  refine ⟨?_, stN_mono I _ _ (by omega)⟩
  have := fst_le I k h
  unfold lenN
  omega
theorem st9_ge (I : Im) : 160 ≤ (stN I 9).1.length := by
  have h := stN_mono I 1 9 (by omega)
  have h1 : 160 ≤ (stN I 1).1.length := by
    show 160 ≤ (roomS I _).1.length
    rw [roomS, zeros_len]
    omega
  omega
/-- the cells of an entry -/
theorem five_get (F : Nat → List Value) (hF : ∀ k, (F k).length = 5) : ∀ (n k j : Nat), k < n → j < 5 → ((List.range n).flatMap F)[5 * k + j]? = (F k)[j]?
  | 0, k, j, hk, _ => by omega
  | n + 1, k, j, hk, hj => by
    have hl : ∀ m, ((List.range m).flatMap F).length = 5 * m := fun m => by
      induction m with
      | zero => rfl
      | succ m ih => rw [List.range_succ, List.flatMap_append, List.length_append, ih, List.flatMap_singleton, hF]; omega
    rw [List.range_succ, List.flatMap_append, List.flatMap_singleton]
    by_cases e : k < n
    · rw [List.getElem?_append_left (by rw [hl]; omega)]
      exact five_get F hF n k j e hj
    · obtain rfl : k = n := by omega
      rw [List.getElem?_append_right (by rw [hl]; omega), hl]
      congr 1
      omega
theorem en_get (I : Im) {k j : Nat} (hk : k < 9) (hj : j < 5) : (enN I 9)[5 * k + j]? = (entC k (fstN I k) (lenN I k))[j]? := by
  unfold enN
  rw [five_get _ (fun k => by split <;> rfl) 9 k j hk hj, if_pos hk]
end Go.Proofs.YtinjhgimhboigaaDoor
