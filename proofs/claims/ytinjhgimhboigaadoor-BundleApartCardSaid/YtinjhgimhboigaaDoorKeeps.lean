/- What a call leaves alone: every old block but those of a set. Writers and Readers in memory. -/
import Derived.Test.YtinjhgimhboigaaDoorOwnMem
namespace Go.Proofs.YtinjhgimhboigaaDoor
open Go.RowKit
structure Keeps (S : Nat → Prop) (w w' : World) : Prop where
  os : w'.os = w.os
  tape : w'.tape = w.tape
  output : w'.output = w.output
  size : w.heap.size ≤ w'.heap.size
  block : ∀ k, k < w.heap.size → ¬ S k → w'.heap[k]? = w.heap[k]?
theorem Keeps.refl (S : Nat → Prop) (w : World) : Keeps S w w := ⟨rfl, rfl, rfl, Nat.le_refl _, fun _ _ _ => rfl⟩
theorem Keeps.trans {S S' : Nat → Prop} {a b c : World} (h : Keeps S a b) (k : Keeps S' b c) (hS : ∀ i, i < a.heap.size → S' i → S i) : Keeps S a c :=
  ⟨k.os.trans h.os, k.tape.trans h.tape, k.output.trans h.output, Nat.le_trans h.size k.size, fun i hi hn => (k.block i (Nat.lt_of_lt_of_le hi h.size) (fun hs => hn (hS i hi hs))).trans (h.block i hi hn)⟩
theorem Keeps.mono {S S' : Nat → Prop} {a b : World} (h : Keeps S a b) (hS : ∀ i, i < a.heap.size → S i → S' i) : Keeps S' a b :=
  ⟨h.os, h.tape, h.output, h.size, fun i hi hn => h.block i hi (fun hs => hn (hS i hi hs))⟩
theorem Keeps.of_below {S : Nat → Prop} {w w' : World} (h : Below w.heap.size w w') : Keeps S w w' := ⟨h.os, h.tape, h.output, h.size, fun i hi _ => h.block i hi⟩
theorem Keeps.of_grown {w w' : World} {row : Option Nat} (h : w.grownBy w' row) : Keeps (fun k => row = some k) w w' := ⟨h.os, h.tape, h.output, h.size, fun i hi hn => h.block i hi (fun e => hn e.symm)⟩
theorem Keeps.below {S : Nat → Prop} {B : Nat} {w w' : World} (h : Keeps S w w') (hB : B ≤ w.heap.size) (hS : ∀ i, i < w.heap.size → S i → B ≤ i) : Below B w w' :=
  ⟨h.os, h.tape, h.output, h.size, fun i hi => h.block i (by omega) (fun hs => by have := hS i (by omega) hs; omega)⟩
theorem Keeps.setCell (w : World) (b i : Nat) (v : Value) : Keeps (fun k => k = b) w (w.setCell ⟨b, i, none⟩ v) :=
  ⟨rfl, rfl, rfl, by simp [World.setCell], fun k _ hk => Below.heap_setCell _ _ _ _ hk⟩
theorem Keeps.alloc {S : Nat → Prop} (w : World) (o : Obj) : Keeps S w (w.alloc o) := ⟨rfl, rfl, rfl, by simp, fun k hk _ => Below.heap_alloc w o k hk⟩
theorem Row.keeps {S : Nat → Prop} {w w' : World} {g : Nat} {L : List Nat} (h : Row w g L) (hk : Keeps S w w') (hn : ¬ S g) : Row w' g L := h.kept (hk.block g h.lt hn)
theorem Own.keeps {S : Nat → Prop} {w w' : World} {base : Nat} {v : Value} {xs : List Nat} (h : Own w base v xs) (hk : Keeps S w w') (hn : ∀ k, v.ownBlock = some k → ¬ S k) : Own w' base v xs := by
  refine ⟨h.1, ?_⟩
  rcases h.2 with hv | ⟨g, cap, cur, rfl, hb, hgg, rest⟩
  · exact .inl hv
  · refine .inr ⟨g, cap, cur, rfl, hb, ?_, rest⟩
    rw [hk.block g (Array.getElem?_eq_some_iff.1 hgg).1 (hn g rfl)]
    exact hgg
theorem Tab.keeps {S : Nat → Prop} {w w' : World} (h : Tab w) (hk : Keeps S w w') (hn : ¬ S 0) : Tab w' := fun i hi => by
  have hc := h i hi
  rw [World.cell?_of_block (w := w) (a := ⟨0, i, none⟩) (hk.block 0 (World.block_lt_of_cell? w _ hc) hn)]
  exact hc
theorem Sl.keeps {S : Nat → Prop} {w w' : World} {v : Value} {zs : List Nat} (h : Sl w v zs) (hk : Keeps S w w') (hn : ∀ k, v.ownBlock = some k → ¬ S k) : Sl w' v zs := by
  obtain ⟨ao, cap, rfl, h1, h2, h3, h4, h5⟩ := h
  refine ⟨ao, cap, rfl, h1, h2, h3, h4, fun i hi => ?_⟩
  obtain ⟨b, o, e, hc⟩ := h5 i hi
  refine ⟨b, o, e, ?_⟩
  rw [World.cell?_of_block (w := w) (a := ⟨b, o + i, none⟩) (hk.block b (World.block_lt_of_cell? w _ hc) (hn b (by rw [e]; rfl)))]
  exact hc

/-- a Writer in block p: its bytes zs, in a row of its own; its refusal -/
def Wr (w : World) (p : Nat) (v : Value) (zs : List Nat) (why : Int) (base : Nat) : Prop :=
  w.heap[p]? = some (.cells #[v, .int .i64 why] 76 (0, 0)) ∧ Own w base v zs ∧ v.ownBlock ≠ some p ∧ ∀ z ∈ zs, z < 256
theorem Wr.lt {w : World} {p : Nat} {v : Value} {zs : List Nat} {why : Int} {base : Nat} (h : Wr w p v zs why base) : p < w.heap.size := (Array.getElem?_eq_some_iff.1 h.1).1
theorem Wr.cell0 {w : World} {p : Nat} {v : Value} {zs : List Nat} {why : Int} {base : Nat} (h : Wr w p v zs why base) : w.cell? ⟨p, 0, none⟩ = some v := by
  rw [cell_of_row w p 0 _ _ _ h.1]; rfl
theorem Wr.cell1 {w : World} {p : Nat} {v : Value} {zs : List Nat} {why : Int} {base : Nat} (h : Wr w p v zs why base) : w.cell? ⟨p, 1, none⟩ = some (.int .i64 why) := by
  rw [cell_of_row w p 1 _ _ _ h.1]; rfl
theorem Wr.thawed {w : World} {p : Nat} {v : Value} {zs : List Nat} {why : Int} {base : Nat} (h : Wr w p v zs why base) (i : Nat) : w.frozen? ⟨p, i, none⟩ = false := by
  simp [World.frozen?, h.1]
theorem Wr.keeps {S : Nat → Prop} {w w' : World} {p : Nat} {v : Value} {zs : List Nat} {why : Int} {base : Nat} (h : Wr w p v zs why base) (hk : Keeps S w w') (hp : ¬ S p) (hn : ∀ k, v.ownBlock = some k → ¬ S k) : Wr w' p v zs why base :=
  ⟨(hk.block p h.lt hp).trans h.1, h.2.1.keeps hk hn, h.2.2⟩
/-- the refusal is stored -/
theorem Wr.refuse {w : World} {p : Nat} {v : Value} {zs : List Nat} {why : Int} {base : Nat} (h : Wr w p v zs why base) (e : Int) : Wr (w.setCell ⟨p, 1, none⟩ (.int .i64 e)) p v zs e base := by
  refine ⟨?_, h.2.1.keeps (Keeps.setCell w p 1 _) (fun k hk e => h.2.2.1 (by rw [hk, e])), h.2.2⟩
  simp only [World.setCell, Array.getElem?_modify]
  rw [if_pos trivial, h.1]
  simp
/-- the bytes are stored -/
theorem Wr.store {w : World} {p : Nat} {v v' : Value} {zs' : List Nat} {why : Int} {base : Nat} (hh : w.heap[p]? = some (.cells #[v, .int .i64 why] 76 (0, 0))) (ho : Own w base v' zs') (hp : v'.ownBlock ≠ some p) (hz : ∀ z ∈ zs', z < 256) : Wr (w.setCell ⟨p, 0, none⟩ v') p v' zs' why base := by
  refine ⟨?_, ho.keeps (Keeps.setCell w p 0 _) (fun k hk e => hp (by rw [hk, e])), hp, hz⟩
  simp only [World.setCell, Array.getElem?_modify]
  rw [if_pos trivial, hh]
  simp
/-- where the new row of a Writer lies: where the old one lay, or in a new block -/
def At (w : World) (v v' : Value) : Prop := v'.ownBlock = v.ownBlock ∨ ∃ k, v'.ownBlock = some k ∧ w.heap.size ≤ k
/-- the blocks of a Writer -/
def Foot (p : Nat) (v : Value) (k : Nat) : Prop := k = p ∨ v.ownBlock = some k
end Go.Proofs.YtinjhgimhboigaaDoor
