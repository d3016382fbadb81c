import Derived.Test.YtgjamnhepbblhaaProg
import Derived.WalkKit
import Derived.WalkSpells
import Derived.WalkLawsBesides
import Derived.Laws.BitsAllLaws
import Derived.Deep.QuietTactic
import Derived.BigQuiet
import Derived.Laws.CopyOwn
import Derived.Maps.AppendAt
/- Bytes in memory, numbers as bytes: what bus needs of word's texts (made by gen_bword.py of the same templates). Own work. -/
namespace Go.Proofs.Ytgjamnhepbblhaa
open Go.RowKit
namespace Pl
theorem mem_getD {zs : List Nat} {k : Nat} (hz : ∀ z ∈ zs, z < 256) : zs.getD k 0 < 256 := by
  by_cases h : k < zs.length
  · rw [List.getD_eq_getElem?_getD, List.getElem?_eq_getElem h]; exact hz _ (List.getElem_mem h)
  · rw [List.getD_eq_getElem?_getD, List.getElem?_eq_none (by omega)]; decide
end Pl
namespace Pl
/-- a number's bytes, the lowest first -/
def le : Nat → Nat → List Nat
  | 0, _ => []
  | k + 1, n => n % 256 :: le k (n / 256)
end Pl
namespace Pl
theorem le_length (k n : Nat) : (le k n).length = k := by
  induction k generalizing n with
  | zero => rfl
  | succ k ih => simp [le, ih]
end Pl
namespace Pl
theorem le_small (k n : Nat) : ∀ z ∈ le k n, z < 256 := by
  induction k generalizing n with
  | zero => intro z hz; cases hz
  | succ k ih =>
    intro z hz
    rcases List.mem_cons.1 hz with rfl | h
    · omega
    · exact ih _ z h
end Pl
namespace Pl
/-- the number without its k lowest bytes -/
def shr : Nat → Nat → Nat
  | 0, n => n
  | k + 1, n => shr k n / 256
end Pl
namespace Pl
theorem le_snoc (k n : Nat) : le (k + 1) n = le k n ++ [shr k n % 256] := by
  induction k generalizing n with
  | zero => rfl
  | succ k ih =>
    have e : ∀ k n, shr k (n / 256) = shr (k + 1) n := by
      intro k n
      induction k with
      | zero => rfl
      | succ k ih2 => show shr k (n / 256) / 256 = _; rw [ih2]; rfl
    rw [show le (k + 1 + 1) n = n % 256 :: le (k + 1) (n / 256) from rfl, ih, e]
    rfl
end Pl
namespace Pl
theorem shr_le (k n : Nat) : shr k n ≤ n := by
  induction k with
  | zero => exact Nat.le_refl _
  | succ k ih => show shr k n / 256 ≤ n; omega
end Pl
namespace Pl
/-- the number that m bytes from the k-th on are -/
def acc (zs : List Nat) : Nat → Nat → Nat
  | _, 0 => 0
  | k, m + 1 => zs.getD k 0 + 256 * acc zs (k + 1) m
end Pl
namespace Pl
def num (m : Nat) (zs : List Nat) : Nat := acc zs 0 m
end Pl
namespace Pl
theorem acc_lt {zs : List Nat} (h : ∀ z ∈ zs, z < 256) (k m : Nat) : acc zs k m < 256 ^ m := by
  induction m generalizing k with
  | zero => simp [acc]
  | succ m ih =>
    have h1 := mem_getD (k := k) h
    have h2 := ih (k + 1)
    show zs.getD k 0 + 256 * acc zs (k + 1) m < 256 ^ (m + 1)
    rw [Nat.pow_succ]
    omega
end Pl
namespace Pl
theorem acc_cons (x : Nat) (zs : List Nat) (k m : Nat) : acc (x :: zs) (k + 1) m = acc zs k m := by
  induction m generalizing k with
  | zero => rfl
  | succ m ih => show (x :: zs).getD (k + 1) 0 + _ = zs.getD k 0 + _; rw [ih]; rfl
end Pl
namespace Pl
/-- what le lays num reads -/
theorem num_le (m n : Nat) (r : List Nat) (h : n < 256 ^ m) : num m (le m n ++ r) = n := by
  induction m generalizing n with
  | zero => simp [num, acc]; simp at h; omega
  | succ m ih =>
    have hd : n / 256 < 256 ^ m := by rw [Nat.pow_succ] at h; exact Nat.div_lt_of_lt_mul (by omega)
    have e := ih (n / 256) hd
    show acc (n % 256 :: (le m (n / 256) ++ r)) 0 (m + 1) = n
    show n % 256 + 256 * acc (n % 256 :: (le m (n / 256) ++ r)) (0 + 1) m = n
    rw [acc_cons]
    rw [show acc (le m (n / 256) ++ r) 0 m = n / 256 from e]
    omega
end Pl
/-- 'v' is a slice of bytes that reads as zs -/
def Sl (w : World) (v : Value) (zs : List Nat) : Prop :=
  ∃ ao cap, v = .slice ao zs.length cap ∧ zs.length ≤ cap ∧ cap ≤ maxLen ∧ (∀ z ∈ zs, z < 256) ∧ (ao = none → cap = 0) ∧ ∀ i, i < zs.length → ∃ b o, ao = some ⟨b, o, none⟩ ∧ w.cell? ⟨b, o + i, none⟩ = some (.int .u8 (zs.getD i 0 : Nat))
theorem Sl.pos {w : World} {v : Value} {zs : List Nat} (h : Sl w v zs) (hp : 0 < zs.length) : ∃ b o cap, v = .slice (some ⟨b, o, none⟩) zs.length cap ∧ zs.length ≤ cap ∧ cap ≤ maxLen ∧ (∀ z ∈ zs, z < 256) ∧ ∀ i, i < zs.length → w.cell? ⟨b, o + i, none⟩ = some (.int .u8 (zs.getD i 0 : Nat)) := by
  obtain ⟨ao, cap, rfl, h1, h2, h3, h4, h5⟩ := h
  obtain ⟨b, o, rfl, _⟩ := h5 0 hp
  refine ⟨b, o, cap, rfl, h1, h2, h3, fun i hi => ?_⟩
  obtain ⟨b', o', e, hc⟩ := h5 i hi
  cases e
  exact hc
theorem info_byte : (Try.prog.info? 5).map (fun i => (i.zero, i.size, i.bytes)) = some (some (.int .u8 0), 1, 1) := by kernel_rfl
theorem info_int : (Try.prog.info? 3).map (fun i => (i.zero, i.size, i.bytes)) = some (some (.int .i64 0), 1, 8) := by kernel_rfl

/-- a row of bytes in a block of its own -/
def bvs (L : List Nat) : List Value := L.map fun z => Value.int .u8 ((z : Nat) : Int)
def Row (w : World) (g : Nat) (L : List Nat) : Prop := w.heap[g]? = some (.cells (bvs L).toArray 5 (0, 0))
theorem bvs_length (L : List Nat) : (bvs L).length = L.length := by simp [bvs]
theorem bvs_get (L : List Nat) (i : Nat) (h : i < L.length) : (bvs L)[i]? = some (.int .u8 ((L.getD i 0 : Nat) : Int)) := by
  simp [bvs, List.getElem?_eq_getElem h]
theorem bvs_one (L : List Nat) : ∀ u ∈ bvs L, u.oneCell' = true := by
  intro u hu
  obtain ⟨_, _, rfl⟩ := List.mem_map.1 hu
  rfl
theorem Row.lt {w : World} {g : Nat} {L : List Nat} (h : Row w g L) : g < w.heap.size := (Array.getElem?_eq_some_iff.1 h).1
theorem Row.cell {w : World} {g : Nat} {L : List Nat} (h : Row w g L) (i : Nat) (hi : i < L.length) : w.cell? ⟨g, i, none⟩ = some (.int .u8 ((L.getD i 0 : Nat) : Int)) := by
  rw [cell_of_row w g i _ _ _ h]
  simpa using bvs_get L i hi
theorem Row.thawed {w : World} {g : Nat} {L : List Nat} (h : Row w g L) (i : Nat) : w.frozen? ⟨g, i, none⟩ = false := by
  simp [World.frozen?, show w.heap[g]? = _ from h]
theorem Row.kept {w w' : World} {g : Nat} {L : List Nat} (h : Row w g L) (e : w'.heap[g]? = w.heap[g]?) : Row w' g L := by
  rw [Row, e]; exact h
theorem Row.below {w w' : World} {g : Nat} {L : List Nat} (h : Row w g L) (hb : Below w.heap.size w w') : Row w' g L := h.kept (hb.block g h.lt)
theorem Row.sl {w : World} {g : Nat} {L : List Nat} (h : Row w g L) (hz : ∀ z ∈ L, z < 256) (o n cap : Nat) (hn : o + n ≤ L.length) (hc : n ≤ cap) (hm : cap ≤ maxLen) :
    Sl w (.slice (some ⟨g, o, none⟩) n cap) ((L.drop o).take n) := by
  have hl : ((L.drop o).take n).length = n := by simp; omega
  refine ⟨some ⟨g, o, none⟩, cap, by rw [hl], by omega, hm, fun z hz' => hz z (List.mem_of_mem_drop (List.mem_of_mem_take hz')), by simp, fun i hi => ⟨g, o, rfl, ?_⟩⟩
  rw [h.cell (o + i) (by omega)]
  congr 3
  simp only [List.getD_eq_getElem?_getD, List.getElem?_take, List.getElem?_drop]
  rw [if_pos (by omega)]
theorem Sl.below {w w' : World} {v : Value} {zs : List Nat} (h : Sl w v zs) (hb : Below w.heap.size w w') : Sl w' v zs := by
  obtain ⟨ao, cap, rfl, h1, h2, h3, h4, h5⟩ := h
  refine ⟨ao, cap, rfl, h1, h2, h3, h4, fun i hi => ?_⟩
  obtain ⟨b, o, e, hc⟩ := h5 i hi
  exact ⟨b, o, e, (hb.cell (p := ⟨b, o + i, none⟩) (World.block_lt_of_cell? w _ hc)).trans hc⟩
theorem Sl.small {w : World} {v : Value} {zs : List Nat} (h : Sl w v zs) : ∀ z ∈ zs, z < 256 := by
  obtain ⟨_, _, _, _, _, h3, _⟩ := h
  exact h3
theorem splice_front (n : Nat) (p : List Nat) : splice (bvs (List.replicate n 0)) 0 (bvs p) = bvs (p ++ List.replicate (n - p.length) 0) := by
  simp [splice, bvs]
theorem Row.set {w : World} {g : Nat} {L : List Nat} (h : Row w g L) (i : Nat) (u : Nat) : Row (w.setCell ⟨g, i, none⟩ (.int .u8 ((u : Nat) : Int))) g (L.set i u) := by
  have e : bvs (L.set i u) = (bvs L).set i (.int .u8 ((u : Nat) : Int)) := by simp [bvs, List.map_set]
  rw [Row, e]
  simp only [World.setCell, Array.getElem?_modify]
  rw [if_pos trivial, show w.heap[g]? = _ from h]
  simp
theorem row_made {w : World} {base g n : Nat} (h : w.ownsRow base 5 1 (.slice (some ⟨g, 0, none⟩) n n) n (madeCells #[Value.int .u8 0] n).toList) : Row w g (List.replicate n 0) := by
  rcases h.2 with ⟨hc, _⟩ | ⟨g', cap, cur, hv, _, hg, _, _, hs, ht⟩
  · cases hc
  · cases hv
    rw [Row, hg]
    have e : cur.toList = bvs (List.replicate n 0) := by
      rw [List.take_of_length_le (by simp [hs])] at ht
      rw [ht, toList_madeCells_one]
      simp [bvs]
    rw [← e]
theorem Sl.front {w : World} {b o cap : Nat} {zs : List Nat} (h : Sl w (.slice (some ⟨b, o, none⟩) zs.length cap) zs) (n : Nat) (hn : n ≤ zs.length) : Sl w (.slice (some ⟨b, o, none⟩) n cap) (zs.take n) := by
  obtain ⟨ao, cap', e, h1, h2, h3, h4, h5⟩ := h
  cases e
  refine ⟨some ⟨b, o, none⟩, cap, by rw [List.length_take, Nat.min_eq_left hn], by rw [List.length_take]; omega, h2, fun z hz => h3 z (List.mem_of_mem_take hz), by simp, fun i hi => ?_⟩
  rw [List.length_take] at hi
  obtain ⟨b', o', e, hc⟩ := h5 i (by omega)
  cases e
  refine ⟨b, o, rfl, hc.trans ?_⟩
  rw [List.getD_eq_getElem?_getD, List.getD_eq_getElem?_getD, List.getElem?_take, if_pos (by omega)]
theorem bvs_append (xs ys : List Nat) : bvs (xs ++ ys) = bvs xs ++ bvs ys := by simp [bvs]
/-- a row of bytes that is owned from base on: its value, its bytes -/
def Own (w : World) (base : Nat) (v : Value) (xs : List Nat) : Prop := w.ownsRow base 5 1 v xs.length (bvs xs)
theorem own_nil (w : World) (base : Nat) : Own w base (.slice none 0 0) [] := World.ownsRow_nil w base 5 1
/-- what is owned reads as it is -/
theorem Own.sl {w : World} {base : Nat} {v : Value} {xs : List Nat} (h : Own w base v xs) (hz : ∀ z ∈ xs, z < 256) : Sl w v xs := by
  rcases h.2 with ⟨rfl, h0⟩ | ⟨g, cap, cur, rfl, hb, hg, hnc, hcm, hcs, ht⟩
  · obtain rfl : xs = [] := List.eq_nil_of_length_eq_zero h0
    exact ⟨none, 0, rfl, by simp, by simp [maxLen], by simp, fun _ => rfl, fun i hi => by simp at hi⟩
  · refine ⟨some ⟨g, 0, none⟩, cap, rfl, hnc, hcm, hz, by simp, fun i hi => ⟨g, 0, rfl, ?_⟩⟩
    have := h.cells (g := g) rfl i _ (bvs_get xs i hi)
    rwa [Addr.add_lit] at this
theorem Own.kept {w w' : World} {base : Nat} {v : Value} {xs : List Nat} {row : Option Nat} (h : Own w base v xs) (hg : w.grownBy w' row) (hne : v.ownBlock = none ∨ v.ownBlock ≠ row) : Own w' base v xs := World.ownsRow.kept h hg hne
/-- its block, where it has one, is base or above and lies in the heap -/
theorem Own.lt {w : World} {base : Nat} {v : Value} {xs : List Nat} (h : Own w base v xs) : ∀ k, v.ownBlock = some k → base ≤ k ∧ k < w.heap.size := World.ownsRow.lt h
theorem Own.below {w w' : World} {base : Nat} {v : Value} {xs : List Nat} (h : Own w base v xs) (hb : Below w.heap.size w w') : Own w' base v xs :=
  h.kept (row := none) ⟨hb.os, hb.tape, hb.output, hb.size, fun k hk _ => hb.block k hk⟩ (by cases hv : v.ownBlock <;> simp)
theorem Own.form {w : World} {base : Nat} {v : Value} {xs : List Nat} (h : Own w base v xs) (hp : 0 < xs.length) : ∃ g cap, v = .slice (some ⟨g, 0, none⟩) xs.length cap ∧ base ≤ g ∧ g < w.heap.size ∧ xs.length ≤ cap ∧ cap ≤ maxLen := by
  rcases h.2 with ⟨rfl, h0⟩ | ⟨g, cap, cur, rfl, hb, hg, hnc, hcm, hcs, ht⟩
  · omega
  · exact ⟨g, cap, rfl, hb, (Array.getElem?_eq_some_iff.1 hg).1, hnc, hcm⟩
theorem Own.len {w : World} {base g n cap : Nat} {xs : List Nat} (h : Own w base (.slice (some ⟨g, 0, none⟩) n cap) xs) : n = xs.length := by
  rcases h.2 with ⟨hv, _⟩ | ⟨g', cap', cur, hv, _⟩
  · cases hv
  · cases hv
    rfl
theorem Own.cell {w : World} {base g n cap : Nat} {xs : List Nat} (h : Own w base (.slice (some ⟨g, 0, none⟩) n cap) xs) (i : Nat) (hi : i < xs.length) : w.cell? ⟨g, i, none⟩ = some (.int .u8 ((xs.getD i 0 : Nat) : Int)) := by
  have := h.cells (g := g) rfl i _ (bvs_get xs i hi)
  rwa [Addr.add_lit, Nat.zero_add] at this
theorem Own.thawed {w : World} {base g cap n : Nat} {xs : List Nat} (h : Own w base (.slice (some ⟨g, 0, none⟩) n cap) xs) (i : Nat) : w.frozen? ⟨g, i, none⟩ = false := by
  rcases h.2 with ⟨hv, _⟩ | ⟨g', cap', cur, hv, _, hg, _⟩
  · cases hv
  · cases hv
    simp [World.frozen?, hg]
theorem Own.set {w : World} {base g n cap : Nat} {xs : List Nat} (h : Own w base (.slice (some ⟨g, 0, none⟩) n cap) xs) (i u : Nat) :
    Own (w.setCell ⟨g, i, none⟩ (.int .u8 ((u : Nat) : Int))) base (.slice (some ⟨g, 0, none⟩) n cap) (xs.set i u) := by
  obtain rfl := h.len
  have e : bvs (xs.set i u) = (bvs xs).set i (.int .u8 ((u : Nat) : Int)) := by simp [bvs, List.map_set]
  rcases h.2 with ⟨hv, _⟩ | ⟨g', cap', cur, hv, hb, hg, hnc, hcm, hcs, ht⟩
  · cases hv
  · cases hv
    refine ⟨by rw [bvs_length]; omega, .inr ⟨g, cap, cur.setIfInBounds i (.int .u8 ((u : Nat) : Int)), by rw [List.length_set], hb, ?_, by simpa using hnc, hcm, by simpa using hcs, ?_⟩⟩
    · simp only [World.setCell, Array.getElem?_modify]
      rw [if_pos trivial, hg]
      simp
    · rw [e, ← ht, Array.toList_setIfInBounds, List.length_set, List.take_set]
theorem Own.other {w : World} {base : Nat} {v : Value} {xs : List Nat} (h : Own w base v xs) (b i : Nat) (u : Value) (hb : v.ownBlock ≠ some b) : Own (w.setCell ⟨b, i, none⟩ u) base v xs :=
  h.kept (row := some b) ⟨rfl, rfl, rfl, by simp [World.setCell], fun k _ hk => Below.heap_setCell _ _ _ _ (by simpa using hk)⟩ (.inr hb)
theorem Row.other {w : World} {g : Nat} {L : List Nat} (h : Row w g L) (b i : Nat) (u : Value) (hb : g ≠ b) : Row (w.setCell ⟨b, i, none⟩ u) g L :=
  h.kept (Below.heap_setCell _ _ _ _ hb)
theorem Row.grown {w w' : World} {g : Nat} {L : List Nat} {row : Option Nat} (h : Row w g L) (hg : w.grownBy w' row) (hne : some g ≠ row) : Row w' g L := h.kept (hg.block g h.lt hne)
theorem below_grown {B : Nat} {w w' : World} {row : Option Nat} (hg : w.grownBy w' row) (hB : B ≤ w.heap.size) (hr : ∀ k, row = some k → B ≤ k) : Below B w w' := (Below.refl _ _).grown hg hB hr
structure Keeps (S : Nat → Prop) (w w' : World) : Prop where
  os : w'.os = w.os
  tape : w'.tape = w.tape
  output : w'.output = w.output
  size : w.heap.size ≤ w'.heap.size
  block : ∀ k, k < w.heap.size → ¬ S k → w'.heap[k]? = w.heap[k]?
theorem Keeps.refl (S : Nat → Prop) (w : World) : Keeps S w w := ⟨rfl, rfl, rfl, Nat.le_refl _, fun _ _ _ => rfl⟩
theorem Keeps.trans {S S' : Nat → Prop} {a b c : World} (h : Keeps S a b) (k : Keeps S' b c) (hS : ∀ i, i < a.heap.size → S' i → S i) : Keeps S a c :=
  ⟨k.os.trans h.os, k.tape.trans h.tape, k.output.trans h.output, Nat.le_trans h.size k.size, fun i hi hn => (k.block i (Nat.lt_of_lt_of_le hi h.size) (fun hs => hn (hS i hi hs))).trans (h.block i hi hn)⟩
theorem Keeps.mono {S S' : Nat → Prop} {a b : World} (h : Keeps S a b) (hS : ∀ i, i < a.heap.size → S i → S' i) : Keeps S' a b :=
  ⟨h.os, h.tape, h.output, h.size, fun i hi hn => h.block i hi (fun hs => hn (hS i hi hs))⟩
theorem Keeps.of_below {S : Nat → Prop} {w w' : World} (h : Below w.heap.size w w') : Keeps S w w' := ⟨h.os, h.tape, h.output, h.size, fun i hi _ => h.block i hi⟩
theorem Keeps.of_grown {w w' : World} {row : Option Nat} (h : w.grownBy w' row) : Keeps (fun k => row = some k) w w' := ⟨h.os, h.tape, h.output, h.size, fun i hi hn => h.block i hi (fun e => hn e.symm)⟩
theorem Keeps.below {S : Nat → Prop} {B : Nat} {w w' : World} (h : Keeps S w w') (hB : B ≤ w.heap.size) (hS : ∀ i, i < w.heap.size → S i → B ≤ i) : Below B w w' :=
  ⟨h.os, h.tape, h.output, h.size, fun i hi => h.block i (by omega) (fun hs => by have := hS i (by omega) hs; omega)⟩
theorem Keeps.setCell (w : World) (b i : Nat) (v : Value) : Keeps (fun k => k = b) w (w.setCell ⟨b, i, none⟩ v) :=
  ⟨rfl, rfl, rfl, by simp [World.setCell], fun k _ hk => Below.heap_setCell _ _ _ _ hk⟩
theorem Keeps.alloc {S : Nat → Prop} (w : World) (o : Obj) : Keeps S w (w.alloc o) := ⟨rfl, rfl, rfl, by simp, fun k hk _ => Below.heap_alloc w o k hk⟩
theorem Row.keeps {S : Nat → Prop} {w w' : World} {g : Nat} {L : List Nat} (h : Row w g L) (hk : Keeps S w w') (hn : ¬ S g) : Row w' g L := h.kept (hk.block g h.lt hn)
theorem Own.keeps {S : Nat → Prop} {w w' : World} {base : Nat} {v : Value} {xs : List Nat} (h : Own w base v xs) (hk : Keeps S w w') (hn : ∀ k, v.ownBlock = some k → ¬ S k) : Own w' base v xs := by
  refine ⟨h.1, ?_⟩
  rcases h.2 with hv | ⟨g, cap, cur, rfl, hb, hgg, rest⟩
  · exact .inl hv
  · refine .inr ⟨g, cap, cur, rfl, hb, ?_, rest⟩
    rw [hk.block g (Array.getElem?_eq_some_iff.1 hgg).1 (hn g rfl)]
    exact hgg
theorem Sl.keeps {S : Nat → Prop} {w w' : World} {v : Value} {zs : List Nat} (h : Sl w v zs) (hk : Keeps S w w') (hn : ∀ k, v.ownBlock = some k → ¬ S k) : Sl w' v zs := by
  obtain ⟨ao, cap, rfl, h1, h2, h3, h4, h5⟩ := h
  refine ⟨ao, cap, rfl, h1, h2, h3, h4, fun i hi => ?_⟩
  obtain ⟨b, o, e, hc⟩ := h5 i hi
  refine ⟨b, o, e, ?_⟩
  rw [World.cell?_of_block (w := w) (a := ⟨b, o + i, none⟩) (hk.block b (World.block_lt_of_cell? w _ hc) (hn b (by rw [e]; rfl)))]
  exact hc

/-- where the new row of a Writer lies: where the old one lay, or in a new block -/
def At (w : World) (v v' : Value) : Prop := v'.ownBlock = v.ownBlock ∨ ∃ k, v'.ownBlock = some k ∧ w.heap.size ≤ k
theorem mod256 (r : Nat) : ((r % 256 : Nat) : Int) = (r : Int) % 256 := by omega
theorem div256 (r : Nat) : ((r / 256 : Nat) : Int) = (r : Int) / 256 := by omega
theorem row_one (w : World) (r : Nat) : Row (w.alloc (.cells #[.int .u8 ((r : Int) % 256)] 5)) w.heap.size [r % 256] := by
  rw [Row, show (w.alloc (.cells #[.int .u8 ((r : Int) % 256)] 5)).heap[w.heap.size]? = _ from heap_alloc_new w _]
  rw [← mod256]
  rfl
theorem sl_one (w : World) (r : Nat) : Sl (w.alloc (.cells #[.int .u8 ((r : Int) % 256)] 5)) (.slice (some ⟨w.heap.size, 0, none⟩) 1 1) [r % 256] :=
  (row_one w r).sl (by simp; omega) 0 1 1 (by simp) (by omega) (by simp [maxLen])
theorem At.refl (w : World) (v : Value) : At w v v := .inl rfl
theorem At.step {w w1 : World} {v v1 v2 : Value} (h : At w v v1) (hs : w.heap.size ≤ w1.heap.size) (h2 : v2.ownBlock = v1.ownBlock ∨ v2.ownBlock = some w1.heap.size) : At w v v2 := by
  rcases h2 with h2 | h2
  · rcases h with h | ⟨k, hk, hle⟩
    · exact .inl (h2.trans h)
    · exact .inr ⟨k, h2.trans hk, hle⟩
  · exact .inr ⟨_, h2, hs⟩
/-- what is written through At v lies in v's row or is new -/
theorem At.foot {w : World} {v v1 : Value} (h : At w v v1) : ∀ k, k < w.heap.size → v1.ownBlock = some k → v.ownBlock = some k := by
  intro k hk e
  rcases h with h | ⟨j, hj, hle⟩
  · rw [← h, e]
  · rw [hj] at e
    cases e
    omega

set_option maxHeartbeats 400000 in
theorem greatest_u64 (w : World) : Calls Try.prog 51 #[] w fun e w' => e = .returned (.int .u64 18446744073709551615) ∧ w' = w := by
  go_enter Try.func51, Try.ntmps51
  go_wp2
  go_ret
  exact ⟨congrArg (fun z => Ending.returned (.int .u64 z)) (by decide), rfl⟩
theorem Keeps.drew {S : Nat → Prop} {w w' : World} (h : Keeps S w w') : Keeps S w w'.drew := ⟨h.os, h.tape, h.output, h.size, h.block⟩
theorem or_byte (s z : Nat) (hs : s < 72057594037927936) (hz : z < 256) : bits .or .u64 ((s : Int) * 256) (z : Int) = ((z + 256 * s : Nat) : Int) := by
  have h := u64_or_nat (s * 256) z (by omega) (by omega)
  rw [nat_join 8 (s * 256) z (by simp) hz] at h
  rw [Int.natCast_mul] at h
  rw [show z + 256 * s = s * 256 + z from by omega]
  exact h

end Go.Proofs.Ytgjamnhepbblhaa
/- Bytes and what is kept: at seats without word.Writer. Own work. -/
