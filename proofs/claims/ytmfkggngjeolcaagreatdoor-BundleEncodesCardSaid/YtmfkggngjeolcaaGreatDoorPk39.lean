import Derived.Test.YtmfkggngjeolcaaGreatDoorPk02
import Derived.Maps.AppendAt
import Derived.ArgAppend
import Derived.Test.YtmfkggngjeolcaaGreatDoorPk08
import Derived.Deep.RegionLaw
import Derived.Lib.Hide
import Derived.Deep.DeepCutAuto
import Derived.Deep.CutBlock
/- Rows of one-cell values at an offset: append, the tail. Own work. -/
namespace Go.Proofs.YtmfkggngjeolcaaGreatDoor
open Go.RowKit
theorem Keeps.drew {S : Nat → Prop} {w w' : World} (h : Keeps S w w') : Keeps S w w'.drew := ⟨h.os, h.tape, h.output, h.size, h.block⟩
/-- a row of values of one cell, in a block of its own from an offset on -/
def RowV (w : World) (base : Nat) (e : TypeId) (v : Value) (vs : List Value) : Prop :=
  (v = .slice none 0 0 ∧ vs = []) ∨ ∃ g off cap cur, v = .slice (some ⟨g, off, none⟩) vs.length cap ∧ base ≤ g ∧ w.heap[g]? = some (.cells cur e (0, 0)) ∧ vs.length ≤ cap ∧ cap ≤ maxLen ∧ cur.size = off + cap ∧ (cur.toList.drop off).take vs.length = vs
theorem RowV.nil (w : World) (base : Nat) (e : TypeId) : RowV w base e (.slice none 0 0) [] := .inl ⟨rfl, rfl⟩
theorem RowV.form {w : World} {base : Nat} {e : TypeId} {v : Value} {vs : List Value} (h : RowV w base e v vs) : ∃ a c, v = .slice a vs.length c := by
  rcases h with ⟨rfl, rfl⟩ | ⟨g, off, cap, cur, rfl, _⟩
  · exact ⟨none, 0, rfl⟩
  · exact ⟨_, _, rfl⟩
theorem RowV.lt {w : World} {base : Nat} {e : TypeId} {v : Value} {vs : List Value} (h : RowV w base e v vs) : ∀ k, v.ownBlock = some k → base ≤ k ∧ k < w.heap.size := by
  rcases h with ⟨rfl, rfl⟩ | ⟨g, off, cap, cur, rfl, hb, hg, _⟩
  · intro k hk; cases hk
  · intro k hk
    cases hk
    exact ⟨hb, (Array.getElem?_eq_some_iff.1 hg).1⟩
theorem RowV.keeps {S : Nat → Prop} {w w' : World} {base : Nat} {e : TypeId} {v : Value} {vs : List Value} (h : RowV w base e v vs) (hk : Keeps S w w') (hn : ∀ k, v.ownBlock = some k → ¬ S k) : RowV w' base e v vs := by
  rcases h with h | ⟨g, off, cap, cur, rfl, hb, hg, r⟩
  · exact .inl h
  · exact .inr ⟨g, off, cap, cur, rfl, hb, by rw [hk.block g (Array.getElem?_eq_some_iff.1 hg).1 (hn g rfl)]; exact hg, r⟩
theorem RowV.tag {w : World} {base : Nat} {e : TypeId} {v : Value} {vs : List Value} (h : RowV w base e v vs) : ∀ k, v.ownBlock = some k → ∃ cur, w.heap[k]? = some (.cells cur e (0, 0)) := by
  rcases h with ⟨rfl, rfl⟩ | ⟨g, off, cap, cur, rfl, hb, hg, _⟩
  · intro k hk; cases hk
  · intro k hk
    cases hk
    exact ⟨cur, hg⟩
theorem RowV.cell {w : World} {base : Nat} {e : TypeId} {vs : List Value} {g off n cap : Nat} (h : RowV w base e (.slice (some ⟨g, off, none⟩) n cap) vs) (j : Nat) (hj : j < vs.length) : w.cell? ⟨g, off + j, none⟩ = some vs[j] := by
  rcases h with ⟨h, _⟩ | ⟨g', off', cap', cur, h, hb, hg, hl, hm, hs, ht⟩
  · simp at h
  · simp only [Value.slice.injEq, Option.some.injEq, Addr.mk.injEq, and_true] at h
    obtain ⟨⟨rfl, rfl⟩, rfl, rfl⟩ := h
    rw [cell_of_row _ _ _ _ _ _ hg, ← Array.getElem?_toList]
    have : ((cur.toList.drop off).take vs.length)[j]? = vs[j]? := by rw [ht]
    rw [List.getElem?_take_of_lt hj, List.getElem?_drop] at this
    rw [this, List.getElem?_eq_getElem hj]
theorem RowV.some_of {w : World} {base : Nat} {e : TypeId} {v : Value} {vs : List Value} (h : RowV w base e v vs) (hp : 0 < vs.length) : ∃ g off cap, v = .slice (some ⟨g, off, none⟩) vs.length cap ∧ vs.length ≤ cap := by
  rcases h with ⟨_, rfl⟩ | ⟨g, off, cap, cur, rfl, hb, hg, hl, _⟩
  · simp at hp
  · exact ⟨g, off, cap, rfl, hl⟩
/-- the row without its first -/
theorem RowV.tail {w : World} {base : Nat} {e : TypeId} {x : Value} {vs : List Value} {g off n cap : Nat} (h : RowV w base e (.slice (some ⟨g, off, none⟩) n cap) (x :: vs)) : RowV w base e (.slice (some ⟨g, off + 1, none⟩) vs.length (cap - 1)) vs := by
  rcases h with ⟨h, _⟩ | ⟨g', off', cap', cur, h, hb, hg, hl, hm, hs, ht⟩
  · simp at h
  · simp only [Value.slice.injEq, Option.some.injEq, Addr.mk.injEq, and_true] at h
    obtain ⟨⟨rfl, rfl⟩, rfl, rfl⟩ := h
    simp only [List.length_cons] at hl ht
    refine .inr ⟨g, off + 1, cap - 1, cur, rfl, hb, hg, by omega, by omega, by omega, ?_⟩
    have := congrArg (List.drop 1) ht
    rw [List.drop_take, List.drop_drop] at this
    simpa using this
theorem drop_set_take (l : List Value) (off n : Nat) (x : Value) (h : off + n < l.length) : ((l.set (off + n) x).drop off).take (n + 1) = (l.drop off).take n ++ [x] := by
  rw [List.drop_set, if_neg (by omega), show off + n - off = n by omega, List.take_add_one, List.getElem?_set_self (by simp; omega), List.take_set_of_le (Nat.le_refl _)]
  rfl
/-- append of one value -/
theorem run_appV {w : World} {base : Nat} {t e : TypeId} {v : Value} {vs : List Value} {x : Value} {g cap : Nat} (ty : TypeId) (hu : Tryz.prog.underlying t = some (.slice e)) (hin : (Tryz.prog.info? e).map (fun i => (i.zero, i.size, i.bytes)) = some (some (.slice none 0 0), 1, 24)) (hown : RowV w base e v vs) (hx : w.cell? ⟨g, 0, none⟩ = some x) (h1 : x.oneCell' = true) (hb : vs.length ≤ 1048576) (hbase : base ≤ w.heap.size) :
    ∃ v' w', (Builtin.append_ #[t, t] ty #[v, .slice (some ⟨g, 0, none⟩) 1 cap]).run Tryz.prog w = .ok v' w' ∧ RowV w' base e v' (vs ++ [x]) ∧ w.grownBy w' v.ownBlock ∧ (v'.ownBlock = v.ownBlock ∨ ∃ k, v'.ownBlock = some k ∧ w.heap.size ≤ k) := by
  obtain ⟨i, hi, hz0, hz1, hz2⟩ := info_parts hin
  have hnews : ∀ j u, [x][j]? = some u → w.cell? ((⟨g, 0, none⟩ : Addr).add j) = some u := fun j u hj => by
    rw [Addr.add_lit, Nat.zero_add]
    match j, hj with
    | 0, hj => rw [hx]; exact hj
  have hone : ∀ u ∈ [x], u.oneCell' = true := fun u hu => by obtain rfl := List.mem_singleton.1 hu; exact h1
  have fin : ∀ v' w', w'.ownsRow w.heap.size e 1 v' (vs.length + 1) (vs ++ [x]) → w.grownBy w' none → RowV w' base e v' (vs ++ [x]) ∧ w.grownBy w' v.ownBlock ∧ (v'.ownBlock = v.ownBlock ∨ ∃ k, v'.ownBlock = some k ∧ w.heap.size ≤ k) := fun v' w' ho hg => by
    rcases ho.2 with ⟨_, h0⟩ | ⟨g', cap', cur, rfl, hb', hg', hl, hm, hs, ht⟩
    · omega
    · refine ⟨.inr ⟨g', 0, cap', cur, by simp, Nat.le_trans hbase hb', hg', by simpa using hl, hm, by omega, by simpa using ht⟩, ⟨hg.os, hg.tape, hg.output, hg.size, fun k hk _ => hg.block k hk (fun e => by cases e)⟩, .inr ⟨g', rfl, hb'⟩⟩
  rcases hown with ⟨rfl, rfl⟩ | ⟨b, off, c, cur, rfl, hbb, hg, hl, hm, hs, ht⟩
  · obtain ⟨v', w', r1, r2, r3, _, r5⟩ := run_append_own_at (P := Tryz.prog) w w.heap.size t ty e i (.slice none 0 0) 1 24 hu hi hz0 hz1 hz2 rfl (by omega) (.slice none 0 0) 0 [] ⟨rfl, .inl ⟨rfl, rfl⟩⟩ ⟨g, 0, none⟩ 1 cap [x] rfl hnews hone (by unfold maxLen; omega) (by omega) (Nat.le_refl _)
    exact ⟨v', w', r1, fin v' w' r2 r3⟩
  · by_cases hr : vs.length + 1 ≤ c
    · have hcell : w.cell? ⟨b, off + vs.length * i.size + 0, none⟩ = cur[off + vs.length]? := by rw [hz1, Nat.mul_one, Nat.add_zero]; exact cell_of_row _ _ _ _ _ _ hg
      have hru := run_append_room_cells (P := Tryz.prog) w t ty e i hu hi b off vs.length c ⟨g, 0, none⟩ 1 cap [x] (by rw [hz1]; rfl) hnews hone hr (fun j hj => by
        obtain rfl : j = 0 := by simpa using hj
        rw [hcell, Array.getElem?_eq_getElem (by omega)]
        rfl) (fun j _ => by simp [World.frozen?, hg])
      refine ⟨_, _, hru, ?_, ?_, .inl rfl⟩
      · rw [hz1, Nat.mul_one]
        refine .inr ⟨b, off, c, cur.setIfInBounds (off + vs.length) x, by simp, hbb, ?_, by simpa using hr, hm, by simpa using hs, ?_⟩
        · simp [World.setCells, World.setCell, Array.getElem?_modify, hg]
        · rw [Array.toList_setIfInBounds, List.length_append, List.length_singleton, drop_set_take _ _ _ _ (by simp; omega), ht]
      · rw [hz1, Nat.mul_one]
        exact ⟨rfl, rfl, rfl, by simp [World.setCells, World.setCell], fun k hk hne => Below.heap_setCell _ _ _ _ (fun e => hne (by subst e; rfl))⟩
    · obtain ⟨v', w', r1, r2, r3⟩ := run_append_arg_grows (P := Tryz.prog) w t ty e i (.slice none 0 0) 1 24 hu hi hz0 hz1 hz2 rfl (by omega) ⟨b, off, none⟩ vs.length c vs (by simp) (fun j u hj => by
        rw [Addr.add_lit, cell_of_row _ _ _ _ _ _ hg, ← Array.getElem?_toList]
        have hj' := (List.getElem?_eq_some_iff.1 hj).1
        have : ((cur.toList.drop off).take vs.length)[j]? = vs[j]? := by rw [ht]
        rw [List.getElem?_take_of_lt hj', List.getElem?_drop] at this
        rw [this, hj]) ⟨g, 0, none⟩ 1 cap [x] rfl hnews (by omega) (by unfold maxLen; omega) (by omega)
      exact ⟨v', w', r1, fin v' w' r2 r3⟩
end Go.Proofs.YtmfkggngjeolcaaGreatDoor
/- Books of bytes: Keep. Own work. -/
namespace Go.Proofs.YtmfkggngjeolcaaGreatDoor
open Go.RowKit
structure Ent where
  lv : Value
  wv : Value
  xs : List Nat
def Ent.bl (x : Ent) : List Nat := x.lv.ownBlock.toList ++ x.wv.ownBlock.toList
def blks (E : List Ent) : List Nat := E.flatMap Ent.bl
structure Ent.ok (w : World) (base : Nat) (x : Ent) : Prop where
  l : Own w base x.lv x.xs
  w : Own w base x.wv x.xs
  sm : ∀ z ∈ x.xs, z < 256
/-- a book: its block, its two rows, what they hold -/
structure Bk (w : World) (base kb : Nat) (lv wv : Value) (held : Int) (E : List Ent) : Prop where
  blk : w.heap[kb]? = some (.cells #[lv, wv, .int .i64 held, .bool false] 37 (0, 0))
  lrow : RowV w base 43 lv (E.map Ent.lv)
  wrow : RowV w base 43 wv (E.map Ent.wv)
  ne : ∀ k, lv.ownBlock = some k → wv.ownBlock ≠ some k
  ents : ∀ x ∈ E, x.ok w base
  nodup : (blks E).Nodup
theorem info_bs : (Tryz.prog.info? 43).map (fun i => (i.zero, i.size, i.bytes)) = some (some (.slice none 0 0), 1, 24) := by kernel_rfl
theorem info_b1 : (Tryz.prog.info? 5).map (fun i => (i.zero, i.size, i.bytes)) = some (some (.int .u8 0), 1, 1) := by kernel_rfl
theorem Bk.cells {w : World} {base kb : Nat} {lv wv : Value} {held : Int} {E : List Ent} (h : Bk w base kb lv wv held E) : w.cell? ⟨kb, 0, none⟩ = some lv ∧ w.cell? ⟨kb, 1, none⟩ = some wv ∧ w.cell? ⟨kb, 2, none⟩ = some (.int .i64 held) ∧ w.cell? ⟨kb, 3, none⟩ = some (.bool false) := by
  refine ⟨?_, ?_, ?_, ?_⟩ <;> rw [cell_of_row _ _ _ _ _ _ h.blk] <;> rfl
theorem Bk.thawed {w : World} {base kb : Nat} {lv wv : Value} {held : Int} {E : List Ent} (h : Bk w base kb lv wv held E) (i : Nat) : w.frozen? ⟨kb, i, none⟩ = false := by simp [World.frozen?, h.blk]
theorem Bk.lt {w : World} {base kb : Nat} {lv wv : Value} {held : Int} {E : List Ent} (h : Bk w base kb lv wv held E) : kb < w.heap.size := (Array.getElem?_eq_some_iff.1 h.blk).1
/-- a copy of bytes -/
theorem run_copyB {w : World} {base : Nat} {l : Value} {xs : List Nat} (ty : TypeId) (hl : Own w base l xs) (hlen : xs.length ≤ 140737488351232) :
    ∃ v' w', (Builtin.append_ #[43, 43] ty #[.slice none 0 0, l]).run Tryz.prog w = .ok v' w' ∧ Own w' w.heap.size v' xs ∧ w.grownBy w' none := by
  obtain ⟨i, hi, hz0, hz1, hz2⟩ := info_parts info_b1
  rcases hl.2 with ⟨rfl, h0⟩ | ⟨g, cap, cur, rfl, hb, hg, hl1, hm, hs, ht⟩
  · obtain rfl : xs = [] := List.eq_nil_of_length_eq_zero h0
    refine ⟨.slice none 0 0, w, ?_, ⟨rfl, .inl ⟨rfl, rfl⟩⟩, ⟨rfl, rfl, rfl, Nat.le_refl _, fun _ _ _ => rfl⟩⟩
    simp [Builtin.append_, run_underlying Tryz.underlying43, sizeOf, typeInfo, hi, Builtin.lenOf, Builtin.firstCells]
  · obtain ⟨v', w', r1, r2, r3, _⟩ := run_append_own_at (P := Tryz.prog) w w.heap.size 43 ty 5 i (.int .u8 0) 1 1 Tryz.underlying43 hi hz0 hz1 hz2 rfl (by omega) (.slice none 0 0) 0 [] ⟨rfl, .inl ⟨rfl, rfl⟩⟩ ⟨g, 0, none⟩ xs.length cap (bvs xs) (by simp [bvs]) (fun j u hj => by
      have hj' : j < xs.length := by have := (List.getElem?_eq_some_iff.1 hj).1; simpa [bvs] using this
      rw [Addr.add_lit, Nat.zero_add, cell_of_row _ _ _ _ _ _ hg, ← Array.getElem?_toList, ← hj, ← ht, Nat.mul_one, List.getElem?_take_of_lt hj']) (fun u hu => by
      simp only [bvs, List.mem_map] at hu
      obtain ⟨z, _, rfl⟩ := hu
      rfl) (by omega) (by omega) (Nat.le_refl _)
    refine ⟨v', w', r1, ?_, r3⟩
    unfold Own
    simpa using r2
/-- what a book may write -/
def KeS (base kb : Nat) (w : World) (k : Nat) : Prop := k = kb ∨ (base ≤ k ∧ ∃ cur, w.heap[k]? = some (.cells cur 43 (0, 0)))
def Ke (base kb : Nat) (w w' : World) : Prop := Keeps (KeS base kb w) w w'
theorem Ke.refl (base kb : Nat) (w : World) : Ke base kb w w := Keeps.refl _ _
theorem Ke.trans {base kb : Nat} {a b c : World} (h : Ke base kb a b) (k : Ke base kb b c) : Ke base kb a c := by
  refine ⟨k.os.trans h.os, k.tape.trans h.tape, k.output.trans h.output, Nat.le_trans h.size k.size, fun i hi hn => ?_⟩
  have e := h.block i hi hn
  refine (k.block i (Nat.lt_of_lt_of_le hi h.size) (fun hs => hn ?_)).trans e
  rcases hs with hs | ⟨h1, cur, h2⟩
  · exact .inl hs
  · exact .inr ⟨h1, cur, e.symm.trans h2⟩
theorem Ke.of {base kb : Nat} {w w' : World} {S : Nat → Prop} (h : Keeps S w w') (hs : ∀ k, k < w.heap.size → S k → KeS base kb w k) : Ke base kb w w' := h.mono hs
theorem Ke.alloc (base kb : Nat) (w : World) (o : Obj) : Ke base kb w (w.alloc o) := Keeps.alloc w o
theorem Ke.set (base kb : Nat) (w : World) (i : Nat) (v : Value) : Ke base kb w (w.setCell ⟨kb, i, none⟩ v) := (Keeps.setCell w kb i v).mono (fun _ _ e => .inl e)
theorem Ke.drew {base kb : Nat} {a b : World} (h : Ke base kb a b) : Ke base kb a b.drew := Keeps.drew h
theorem Ke.grown {base kb : Nat} {w w' : World} {v : Value} {vs : List Value} (hg : w.grownBy w' v.ownBlock) (hr : RowV w base 43 v vs) : Ke base kb w w' :=
  (Keeps.of_grown hg).mono (fun k _ e => .inr ⟨(hr.lt k e).1, hr.tag k e⟩)
/-- the book's block and rows -/
structure Bw (w : World) (base kb : Nat) (lv wv : Value) (held : Int) (Ls Ws : List Value) : Prop where
  blk : w.heap[kb]? = some (.cells #[lv, wv, .int .i64 held, .bool false] 37 (0, 0))
  lrow : RowV w base 43 lv Ls
  wrow : RowV w base 43 wv Ws
  ne : ∀ k, lv.ownBlock = some k → wv.ownBlock ≠ some k
theorem Bw.cells {w : World} {base kb : Nat} {lv wv : Value} {held : Int} {Ls Ws : List Value} (h : Bw w base kb lv wv held Ls Ws) : w.cell? ⟨kb, 0, none⟩ = some lv ∧ w.cell? ⟨kb, 1, none⟩ = some wv ∧ w.cell? ⟨kb, 2, none⟩ = some (.int .i64 held) ∧ w.cell? ⟨kb, 3, none⟩ = some (.bool false) := by
  refine ⟨?_, ?_, ?_, ?_⟩ <;> rw [cell_of_row _ _ _ _ _ _ h.blk] <;> rfl
theorem Bw.thawed {w : World} {base kb : Nat} {lv wv : Value} {held : Int} {Ls Ws : List Value} (h : Bw w base kb lv wv held Ls Ws) (i : Nat) : w.frozen? ⟨kb, i, none⟩ = false := by simp [World.frozen?, h.blk]
theorem Bw.lt {w : World} {base kb : Nat} {lv wv : Value} {held : Int} {Ls Ws : List Value} (h : Bw w base kb lv wv held Ls Ws) : kb < w.heap.size := (Array.getElem?_eq_some_iff.1 h.blk).1
theorem Bw.kb_ne {w : World} {base kb : Nat} {lv wv : Value} {held : Int} {Ls Ws : List Value} (h : Bw w base kb lv wv held Ls Ws) : lv.ownBlock ≠ some kb ∧ wv.ownBlock ≠ some kb := by
  refine ⟨fun e => ?_, fun e => ?_⟩
  · obtain ⟨c, hc⟩ := h.lrow.tag _ e
    rw [h.blk] at hc
    simp at hc
  · obtain ⟨c, hc⟩ := h.wrow.tag _ e
    rw [h.blk] at hc
    simp at hc
theorem Bw.keeps0 {w w' : World} {base kb : Nat} {lv wv : Value} {held : Int} {Ls Ws : List Value} (h : Bw w base kb lv wv held Ls Ws) (k : Keeps (fun _ => False) w w') : Bw w' base kb lv wv held Ls Ws :=
  ⟨(k.block kb h.lt id).trans h.blk, h.lrow.keeps k (fun _ _ => id), h.wrow.keeps k (fun _ _ => id), h.ne⟩
/-- a cell of the book's is written -/
theorem Bw.put {w : World} {base kb : Nat} {lv wv lv' wv' : Value} {held held' : Int} {Ls Ws Ls' Ws' : List Value} {i : Nat} {v : Value} (h : Bw w base kb lv wv held Ls Ws) (e : #[lv', wv', .int .i64 held', .bool false] = #[lv, wv, .int .i64 held, .bool false].setIfInBounds i v) (h1 : RowV w base 43 lv' Ls') (h2 : RowV w base 43 wv' Ws') (hn : ∀ k, lv'.ownBlock = some k → wv'.ownBlock ≠ some k) (hk : lv'.ownBlock ≠ some kb ∧ wv'.ownBlock ≠ some kb) : Bw (w.setCell ⟨kb, i, none⟩ v) base kb lv' wv' held' Ls' Ws' := by
  refine ⟨?_, h1.keeps (Keeps.setCell w kb i v) (fun k hk' e => hk.1 (by subst e; exact hk')), h2.keeps (Keeps.setCell w kb i v) (fun k hk' e => hk.2 (by subst e; exact hk')), hn⟩
  rw [e]
  simp [World.setCell, Array.getElem?_modify, h.blk]
theorem Own.tagB {w : World} {base : Nat} {v : Value} {xs : List Nat} (h : Own w base v xs) : ∀ k, v.ownBlock = some k → ∃ cur, w.heap[k]? = some (.cells cur 5 (0, 0)) := by
  rcases h.2 with ⟨rfl, _⟩ | ⟨g, cap, cur, rfl, hb, hg, _⟩
  · intro k hk; cases hk
  · intro k hk
    cases hk
    exact ⟨cur, hg⟩
theorem Own.ke {w w' : World} {base base' kb : Nat} {v : Value} {xs : List Nat} {cs : Array Value} (h : Own w base' v xs) (hb : w.heap[kb]? = some (.cells cs 37 (0, 0))) (k : Ke base kb w w') : Own w' base' v xs :=
  h.keeps k (fun i hi hs => by
    obtain ⟨c, hc⟩ := h.tagB i hi
    rcases hs with rfl | ⟨_, d, hd⟩
    · rw [hb] at hc; simp at hc
    · rw [hd] at hc; simp at hc)
theorem step_appV {w : World} {base : Nat} {ops : Array Oper} {o : Oper} {a : Act} {K : Act → World → Prop} {Q : Exit → Act → World → Prop} {E : Prop} (hw : Region.wanted o (yielded ops a.tmps) = true) (s x : Operand)
    (ho : o.op = .call { callee := .builtin .append, args := #[s, x], argTypes := #[35, 35] }) {v : Value} {vs : List Value} {y : Value} {g cap : Nat} (hown : RowV w base 43 v vs) (hs : a.eval s = v) (hx : a.eval x = .slice (some ⟨g, 0, none⟩) 1 cap) (hc : w.cell? ⟨g, 0, none⟩ = some y) (h1 : y.oneCell' = true) (hb : vs.length ≤ 1048576) (hbase : base ≤ w.heap.size)
    (h : ∀ va vc w', RowV w' base 43 (.slice va (vs.length + 1) vc) (vs ++ [y]) → w.grownBy w' v.ownBlock → ((Value.slice va (vs.length + 1) vc).ownBlock = v.ownBlock ∨ ∃ k, (Value.slice va (vs.length + 1) vc).ownBlock = some k ∧ w.heap.size ≤ k) → K (a.put o.dst (.slice va (vs.length + 1) vc)) w') : if Region.wanted o (yielded ops a.tmps) = true then Oper.wp Tryz.prog o a w K Q else E := by
  rw [if_pos hw]
  obtain ⟨v', w', hr, h2, h3, h4⟩ := run_appV o.type Tryz.underlying35 info_bs hown hc h1 hb hbase (cap := cap)
  obtain ⟨va, vc, rfl⟩ := h2.form
  rw [List.length_append, List.length_singleton] at hr h2 h4
  unfold Oper.wp execOp
  simp only [ho, resolve, invoke, builtin, Sem.run_bind, Sem.run_pure, Result.andThen_ok, List.map_toArray, List.map_cons, List.map_nil, hs, hx, hr]
  exact h va vc w' h2 h3 h4
theorem wpList_appV {w : World} {base : Nat} {ops : Array Oper} {rest : List Oper} {o : Oper} {a : Act} {Q : Exit → Act → World → Prop} (hgd : o.guard = none) (s x : Operand)
    (ho : o.op = .call { callee := .builtin .append, args := #[s, x], argTypes := #[35, 35] }) {v : Value} {vs : List Value} {y : Value} {g cap : Nat} (hown : RowV w base 43 v vs) (hs : a.eval s = v) (hx : a.eval x = .slice (some ⟨g, 0, none⟩) 1 cap) (hc : w.cell? ⟨g, 0, none⟩ = some y) (h1 : y.oneCell' = true) (hb : vs.length ≤ 1048576) (hbase : base ≤ w.heap.size)
    (h : ∀ va vc w', RowV w' base 43 (.slice va (vs.length + 1) vc) (vs ++ [y]) → w.grownBy w' v.ownBlock → ((Value.slice va (vs.length + 1) vc).ownBlock = v.ownBlock ∨ ∃ k, (Value.slice va (vs.length + 1) vc).ownBlock = some k ∧ w.heap.size ≤ k) → wpList Tryz.prog ops Q rest (a.put o.dst (.slice va (vs.length + 1) vc)) w') : wpList Tryz.prog ops Q (o :: rest) a w :=
  wpList_plain hgd fun K hK => by
    have := step_appV (ops := ops) (w := w) (o := o) (a := a) (K := K) (Q := Q) (E := False) (cap := cap) (by simp [Region.wanted, hgd]) s x ho hown hs hx hc h1 hb hbase (fun va vc w' h2 h3 h4 => hK _ _ (h va vc w' h2 h3 h4))
    rwa [if_pos (by simp [Region.wanted, hgd])] at this
theorem step_copyB {w : World} {base : Nat} {ops : Array Oper} {o : Oper} {a : Act} {K : Act → World → Prop} {Q : Exit → Act → World → Prop} {E : Prop} (hw : Region.wanted o (yielded ops a.tmps) = true) (x : Operand)
    (ho : o.op = .call { callee := .builtin .append, args := #[.const (.slice none 0 0), x], argTypes := #[43, 43] }) {l : Value} {xs : List Nat} (hl : Own w base l xs) (hlen : xs.length ≤ 140737488351232) (hx : a.eval x = l)
    (h : ∀ va vn vc w', Own w' w.heap.size (.slice va vn vc) xs → w.grownBy w' none → K (a.put o.dst (.slice va vn vc)) w') : if Region.wanted o (yielded ops a.tmps) = true then Oper.wp Tryz.prog o a w K Q else E := by
  rw [if_pos hw]
  obtain ⟨v', w', hr, h2, h3⟩ := run_copyB o.type hl hlen
  obtain ⟨va, vn, vc, rfl⟩ : ∃ va vn vc, v' = .slice va vn vc := by
    rcases h2.2 with ⟨rfl, _⟩ | ⟨g, cap, cur, rfl, _⟩
    · exact ⟨_, _, _, rfl⟩
    · exact ⟨_, _, _, rfl⟩
  have hc0 : a.eval (.const (.slice none 0 0)) = .slice none 0 0 := rfl
  unfold Oper.wp execOp
  simp only [ho, resolve, invoke, builtin, Sem.run_bind, Sem.run_pure, Result.andThen_ok, List.map_toArray, List.map_cons, List.map_nil, hc0, hx, hr]
  exact h va vn vc w' h2 h3
end Go.Proofs.YtmfkggngjeolcaaGreatDoor
/- Book[byte].Keep. Own work. -/
namespace Go.Proofs.YtmfkggngjeolcaaGreatDoor
open Go.RowKit
theorem keeps_drew0 (w : World) : Keeps (fun _ => False) w w.drew := (Keeps.refl _ _).drew
theorem Bw.appL {w W0 w1 : World} {base kb : Nat} {lv wv V1 : Value} {held : Int} {Ls Ws Ls' : List Value} (h : Bw w base kb lv wv held Ls Ws) (k0 : Keeps (fun _ => False) w W0) (hg : W0.grownBy w1 lv.ownBlock) (hr : RowV w1 base 43 V1 Ls') (loc : V1.ownBlock = lv.ownBlock ∨ ∃ k, V1.ownBlock = some k ∧ W0.heap.size ≤ k) :
    Bw (w1.setCell ⟨kb, 0, none⟩ V1) base kb V1 wv held Ls' Ws ∧ Ke base kb w (w1.setCell ⟨kb, 0, none⟩ V1) ∧ w1.cell? ⟨kb, 0, none⟩ = some lv ∧ w1.frozen? ⟨kb, 0, none⟩ = false := by
  have hk : Keeps (fun k => lv.ownBlock = some k) w w1 := (k0.mono (fun _ _ e => e.elim)).trans (Keeps.of_grown hg) (fun _ _ e => e)
  have hb1 : w1.heap[kb]? = some (.cells #[lv, wv, .int .i64 held, .bool false] 37 (0, 0)) := (hk.block kb h.lt h.kb_ne.1).trans h.blk
  have hv1 : V1.ownBlock ≠ some kb := by
    rcases loc with e | ⟨k, e, hk⟩
    · rw [e]; exact h.kb_ne.1
    · rw [e]; intro e2; cases e2; have := h.lt; have := k0.size; omega
  have hks : Keeps (fun k => k = kb) w1 (w1.setCell ⟨kb, 0, none⟩ V1) := Keeps.setCell w1 kb 0 V1
  refine ⟨⟨?_, hr.keeps hks (fun k hk' e => hv1 (by subst e; exact hk')), h.wrow.keeps (S := fun k => k = kb ∨ lv.ownBlock = some k) ((hk.mono (fun _ _ => .inr)).trans hks (fun _ _ => .inl)) (fun k hk' e => ?_), fun k hk' => ?_⟩, ?_, ?_, ?_⟩
  · simp [World.setCell, Array.getElem?_modify, hb1]
  · rcases e with e | e
    · subst e; exact h.kb_ne.2 hk'
    · exact h.ne k e hk'
  · rcases loc with e | ⟨j, e, hj⟩
    · exact h.ne k (e ▸ hk')
    · rw [e] at hk'
      cases hk'
      intro e2
      have := (h.wrow.lt _ e2).2
      have := k0.size
      omega
  · exact Ke.trans (hk.mono (fun k _ e => .inr ⟨(h.lrow.lt k e).1, h.lrow.tag k e⟩)) (Ke.set base kb w1 0 V1)
  · rw [cell_of_row _ _ _ _ _ _ hb1]; rfl
  · simp [World.frozen?, hb1]
theorem Bw.appW {w W0 w1 : World} {base kb : Nat} {lv wv V1 : Value} {held : Int} {Ls Ws Ws' : List Value} (h : Bw w base kb lv wv held Ls Ws) (k0 : Keeps (fun _ => False) w W0) (hg : W0.grownBy w1 wv.ownBlock) (hr : RowV w1 base 43 V1 Ws') (loc : V1.ownBlock = wv.ownBlock ∨ ∃ k, V1.ownBlock = some k ∧ W0.heap.size ≤ k) :
    Bw (w1.setCell ⟨kb, 1, none⟩ V1) base kb lv V1 held Ls Ws' ∧ Ke base kb w (w1.setCell ⟨kb, 1, none⟩ V1) ∧ w1.cell? ⟨kb, 1, none⟩ = some wv ∧ w1.frozen? ⟨kb, 1, none⟩ = false := by
  have hk : Keeps (fun k => wv.ownBlock = some k) w w1 := (k0.mono (fun _ _ e => e.elim)).trans (Keeps.of_grown hg) (fun _ _ e => e)
  have hb1 : w1.heap[kb]? = some (.cells #[lv, wv, .int .i64 held, .bool false] 37 (0, 0)) := (hk.block kb h.lt h.kb_ne.2).trans h.blk
  have hv1 : V1.ownBlock ≠ some kb := by
    rcases loc with e | ⟨k, e, hk⟩
    · rw [e]; exact h.kb_ne.2
    · rw [e]; intro e2; cases e2; have := h.lt; have := k0.size; omega
  have hks : Keeps (fun k => k = kb) w1 (w1.setCell ⟨kb, 1, none⟩ V1) := Keeps.setCell w1 kb 1 V1
  refine ⟨⟨?_, h.lrow.keeps (S := fun k => k = kb ∨ wv.ownBlock = some k) ((hk.mono (fun _ _ => .inr)).trans hks (fun _ _ => .inl)) (fun k hk' e => ?_), hr.keeps hks (fun k hk' e => hv1 (by subst e; exact hk')), fun k hk' => ?_⟩, ?_, ?_, ?_⟩
  · simp [World.setCell, Array.getElem?_modify, hb1]
  · rcases e with e | e
    · subst e; exact h.kb_ne.1 hk'
    · exact h.ne k hk' e
  · rcases loc with e | ⟨j, e, hj⟩
    · rw [e]; exact h.ne k hk'
    · rw [e]
      intro e2
      cases e2
      have := (h.lrow.lt _ hk').2
      have := k0.size
      omega
  · exact Ke.trans (hk.mono (fun k _ e => .inr ⟨(h.wrow.lt k e).1, h.wrow.tag k e⟩)) (Ke.set base kb w1 1 V1)
  · rw [cell_of_row _ _ _ _ _ _ hb1]; rfl
  · simp [World.frozen?, hb1]
theorem Own.weak {w : World} {b1 b2 : Nat} {v : Value} {xs : List Nat} (h : Own w b1 v xs) (hb : b2 ≤ b1) : Own w b2 v xs := by
  refine ⟨h.1, ?_⟩
  rcases h.2 with h | ⟨g, cap, cur, e, hb', r⟩
  · exact .inl h
  · exact .inr ⟨g, cap, cur, e, Nat.le_trans hb hb', r⟩
theorem keep_mid {W1 w2 w3 W3 : World} {X : Obj} {base kb : Nat} {lv wv v : Value} {held : Int} {Ls Ws : List Value} {xs : List Nat} (h : Bw W1 base kb lv wv held Ls Ws) (hb : base ≤ W1.heap.size) (ho : Own w2 W1.drew.heap.size v xs) (hg : (w2.alloc X).grownBy w3 wv.ownBlock) (hs : Keeps (fun k => k = kb) w3 W3) : Own W3 base v xs := by
  have k : Keeps (fun k => k = kb ∨ wv.ownBlock = some k) w2 W3 := (((Keeps.alloc w2 X).trans (Keeps.of_grown hg) (S := fun k => k = kb ∨ wv.ownBlock = some k) (fun _ _ e => .inr e))).trans hs (fun _ _ e => .inl e)
  refine (ho.weak hb).keeps k (fun i hi e => ?_)
  have h1 : W1.heap.size ≤ i := (ho.lt i hi).1
  rcases e with e | e
  · have := h.lt; omega
  · have := (h.wrow.lt i e).2; omega
def lenM : Option Value → Nat
  | some (.slice _ n _) => n
  | _ => 0
/-- where the loop of Keep stands -/
structure Kl (w : World) (base kb : Nat) (E0 E : List Ent) (w' : World) : Prop where
  bw : ∃ lv wv held, Bw w' base kb lv wv held (E.map Ent.lv) (E.map Ent.wv)
  ents : ∀ x ∈ E, x.ok w' base
  suf : E <:+ E0
  ke : Ke base kb w w'
set_option maxRecDepth 100000 in
set_option maxHeartbeats 4000000 in
theorem keepB_any {w : World} {base kb : Nat} {lv wv : Value} {held : Int} {E : List Ent} {la : Option Addr} {ln lc : Nat} {xs : List Nat} (h : Bw w base kb lv wv held (E.map Ent.lv) (E.map Ent.wv)) (he : ∀ x ∈ E, x.ok w base) (hl : Own w base (.slice la ln lc) xs) (hxs : xs.length ≤ 140737488351232) (hsm : ∀ z ∈ xs, z < 256) (hlen : E.length ≤ 4000) (hbase : base ≤ w.heap.size) :
    Calls Tryz.prog 21 #[.pointer (some ⟨kb, 0, none⟩), .slice la ln lc] w fun e w' => e = .returned (.tuple #[]) ∧ ∃ cv, (∀ k, cv.ownBlock = some k → w.heap.size ≤ k) ∧ ∃ E', Kl w base kb (E ++ [⟨.slice la ln lc, cv, xs⟩]) E' w' ∧ E'.length ≤ 4000 := by
  obtain ⟨va, vc, rfl⟩ := h.lrow.form
  obtain ⟨ua, uc, rfl⟩ := h.wrow.form
  simp only [List.length_map] at h
  have HB := Lib.hid h
  have HE : Hid (∀ x ∈ E, x.ok w base) := he
  have HL := Lib.hid hl
  obtain ⟨c0, c1, c2, c3⟩ := h.cells
  have HR : Hid (∀ X, RowV (w.alloc X) base 43 (.slice va E.length vc) (E.map Ent.lv)) := fun X => h.lrow.keeps (S := fun _ => False) (Keeps.alloc w X) (fun _ _ => id)
  have HC : Hid (∀ t, (w.alloc (.cells #[.slice la ln lc] t)).cell? ⟨w.heap.size, 0, none⟩ = some (.slice la ln lc)) := fun t => by rw [cell_of_row _ _ 0 _ _ _ (heap_alloc_new w _)]; rfl
  have HLn : Hid ((E.map Ent.lv).length ≤ 1048576) := show _ ≤ _ by rw [List.length_map]; omega
  have hkl := h.lt
  have HA : Hid (∀ X V1 w1, (w.alloc X).grownBy w1 (Value.slice va E.length vc).ownBlock → RowV w1 base 43 V1 (E.map Ent.lv ++ [.slice la ln lc]) → (V1.ownBlock = (Value.slice va E.length vc).ownBlock ∨ ∃ k, V1.ownBlock = some k ∧ (w.alloc X).heap.size ≤ k) → Bw (w1.setCell ⟨kb, 0, none⟩ V1) base kb V1 (.slice ua E.length uc) held (E.map Ent.lv ++ [.slice la ln lc]) (E.map Ent.wv) ∧ Ke base kb w (w1.setCell ⟨kb, 0, none⟩ V1) ∧ w1.cell? ⟨kb, 0, none⟩ = some (.slice va E.length vc) ∧ w1.frozen? ⟨kb, 0, none⟩ = false) := fun X V1 w1 h1 h2 h3 => h.appL (Keeps.alloc w X) h1 h2 h3
  clear h he hl
  go_enter Tryz.func21, Tryz.ntmps21
  go_upto_region 1 with (refine wpList_appV (base := base) (vs := E.map Ent.lv) (y := .slice la ln lc) (g := w.heap.size) (cap := 1) (by rfl) (.tmp 8) (.tmp 10) (by rfl) (by exact HR.out _) (by rfl) (by rfl) (by exact HC.out _) (by rfl) (by exact HLn.out) (by simp; omega) ?_; intro va1 vc1 w1 hr1 hg1 hl1; have HA1 := Lib.hid (HA.out _ _ _ hg1 hr1 hl1); have e0 := HA1.out.2.2.1; have z0 := HA1.out.2.2.2; clear hr1 hg1 hl1)
  have HB1 := Lib.hid HA1.out.1
  have HK1 := Lib.hid HA1.out.2.1
  simp only [List.length_map] at HB1 HK1
  obtain ⟨V1, hV1⟩ : ∃ V1, Value.slice va1 (E.length + 1) vc1 = V1 := ⟨_, rfl⟩
  rw [hV1] at HB1 HK1 ⊢
  obtain ⟨W1, hW1⟩ : ∃ W1, w1.setCell ⟨kb, 0, none⟩ V1 = W1 := ⟨_, rfl⟩
  rw [hW1] at HB1 HK1 ⊢
  clear HA1 e0 z0 hW1 hV1 c0 c1 c2 c3 HR HC HA
  have HL1 : Hid (Own W1 base (.slice la ln lc) xs) := HL.out.ke HB.out.blk HK1.out
  have HBs : Hid (base ≤ W1.heap.size) := Nat.le_trans hbase HK1.out.size
  have c1 := HB1.out.cells.2.1
  have hkl1 := HB1.out.lt
  have HK0 : Hid (∀ w2 X, W1.drew.grownBy w2 none → Keeps (fun _ => False) W1 (w2.alloc X) ∧ Keeps (fun _ => False) W1 w2) := fun w2 X hg => by
    have k1 : Keeps (fun _ => False) W1 w2 := (keeps_drew0 W1).trans ((Keeps.of_grown hg).mono (fun _ _ e => by cases e)) (fun _ _ e => e)
    exact ⟨k1.trans (Keeps.alloc w2 X) (fun _ _ e => e), k1⟩
  have HC2 : Hid (∀ (w2 : World) (v : Value) t, (w2.alloc (.cells #[v] t)).cell? ⟨w2.heap.size, 0, none⟩ = some v) := fun w2 v t => by rw [cell_of_row _ _ 0 _ _ _ (heap_alloc_new w2 _)]; rfl
  have HLn2 : Hid ((E.map Ent.wv).length ≤ 1048576) := show _ ≤ _ by rw [List.length_map]; omega
  go_cut [] (fun wx => Hid (∃ ca cn cc V3, Bw wx base kb V1 V3 held (E.map Ent.lv ++ [.slice la ln lc]) (E.map Ent.wv ++ [.slice ca cn cc]) ∧ Own wx base (.slice ca cn cc) xs ∧ (∀ k, (Value.slice ca cn cc).ownBlock = some k → w.heap.size ≤ k) ∧ Ke base kb W1 wx))
  case first =>
    go_region_law (first | (refine step_copyB (base := base) (l := .slice la ln lc) (xs := xs) (by kernel_rfl) (.tmp 19) (by rfl) (by exact HL1.out) hxs (by rfl) ?_; intro ca cn cc w2 ho2 hg2; have c1b := (HB1.out.keeps0 (HK0.out w2 (.cells #[] 0) hg2).2).cells.2.1; have hkl2 := (HB1.out.keeps0 (HK0.out w2 (.cells #[] 0) hg2).2).lt; have HBs2 : Hid (base ≤ w2.heap.size) := Nat.le_trans HBs.out (HK0.out w2 (.cells #[] 0) hg2).2.size) | (refine step_appV (base := base) (vs := E.map Ent.wv) (y := .slice ca cn cc) (cap := 1) (by kernel_rfl) (.tmp 18) (.tmp 21) (by rfl) (by exact (HB1.out.keeps0 (HK0.out w2 _ hg2).1).wrow) (by rfl) (by rfl) (by exact HC2.out _ _ _) (by rfl) (by exact HLn2.out) (by have := HBs2.out; simp; omega) ?_; intro va3 vc3 w3 hr3 hg3 hl3; have HA3 := Lib.hid (HB1.out.appW (HK0.out w2 _ hg2).1 hg3 hr3 hl3); have e1 := HA3.out.2.2.1; have z1 := HA3.out.2.2.2))
    all_goals
      simp only [List.length_map] at HA3 hg3
      go_wp2_with fail
      go_meet
      exact ⟨ca, cn, cc, _, HA3.out.1, keep_mid HB1.out HBs.out ho2 hg3 (Keeps.setCell _ _ _ _), fun k hk => Nat.le_trans HK1.out.size (ho2.lt k hk).1, HA3.out.2.1⟩
  case rest =>
    obtain ⟨ca, cn, cc, V3, hb3, ho3, hf3, hk3⟩ := hcut.out
    have HB3 := Lib.hid hb3
    have HO3 := Lib.hid ho3
    have HF3 : Hid (∀ k, (Value.slice ca cn cc).ownBlock = some k → w.heap.size ≤ k) := hf3
    have HK3 : Hid (Ke base kb w wc) := HK1.out.trans hk3
    have c2 := hb3.cells.2.2.1
    have z2 := hb3.thawed 2
    clear hcut hb3 ho3 hf3 hk3 HB1 HK1 HK0 HC2 c1
    go_wp2_with fail
    have HB4 : Hid (Bw (wc.setCell ⟨kb, 2, none⟩ (.int .i64 (wrap64 (wrap64 (held + (lc : Int)) + 1)))) base kb V1 V3 (wrap64 (wrap64 (held + (lc : Int)) + 1)) (E.map Ent.lv ++ [.slice la ln lc]) (E.map Ent.wv ++ [.slice ca cn cc])) := HB3.out.put rfl HB3.out.lrow HB3.out.wrow HB3.out.ne HB3.out.kb_ne
    have HK4 : Hid (Ke base kb w (wc.setCell ⟨kb, 2, none⟩ (.int .i64 (wrap64 (wrap64 (held + (lc : Int)) + 1))))) := HK3.out.trans (Ke.set base kb wc 2 _)
    have HO4 : Hid (Own (wc.setCell ⟨kb, 2, none⟩ (.int .i64 (wrap64 (wrap64 (held + (lc : Int)) + 1)))) base (.slice ca cn cc) xs) := HO3.out.ke HB3.out.blk (Ke.set base kb wc 2 _)
    generalize wc.setCell ⟨kb, 2, none⟩ (.int .i64 (wrap64 (wrap64 (held + (lc : Int)) + 1))) = W4 at HB4 HK4 HO4 ⊢
    generalize wrap64 (wrap64 (held + (lc : Int)) + 1) = hd4 at HB4 ⊢
    obtain ⟨E0, hE0⟩ : ∃ E0, E ++ [⟨.slice la ln lc, .slice ca cn cc, xs⟩] = E0 := ⟨_, rfl⟩
    have HS : Hid (Kl w base kb E0 E0 W4) := by
      rw [← hE0]
      refine ⟨⟨V1, V3, hd4, by simpa using HB4.out⟩, fun x hx => ?_, List.suffix_refl _, HK4.out⟩
      rcases List.mem_append.1 hx with hx | hx
      · have := HE.out x hx
        exact ⟨this.l.ke HB.out.blk HK4.out, this.w.ke HB.out.blk HK4.out, this.sm⟩
      · obtain rfl := List.mem_singleton.1 hx
        exact ⟨HL.out.ke HB.out.blk HK4.out, HO4.out, hsm⟩
    have HFin : Hid (∀ E' w', Kl w base kb E0 E' w' → E'.length ≤ 4000 → ∃ cv, (∀ k, cv.ownBlock = some k → w.heap.size ≤ k) ∧ ∃ E', Kl w base kb (E ++ [⟨.slice la ln lc, cv, xs⟩]) E' w' ∧ E'.length ≤ 4000) := fun E' w' hk hl => ⟨.slice ca cn cc, HF3.out, E', by rw [hE0]; exact hk, hl⟩
    clear HB3 HK3 HO3 HF3 HB4 HK4 HO4 HL1 HL HE c2 z2 hE0
    go_loopw [] (fun wr => Hid (∃ E', Kl w base kb E0 E' wr)) (fun wr => lenM (wr.cell? ⟨kb, 0, none⟩))
    case atStart => exact ⟨E0, HS.out⟩
    case round =>
      obtain ⟨E', hkl⟩ := hrel.out
      obtain ⟨lv', wv', hd', hb'⟩ := hkl.bw
      obtain ⟨a1, b1, rfl⟩ := hb'.lrow.form
      obtain ⟨a2, b2, rfl⟩ := hb'.wrow.form
      simp only [List.length_map] at hb'
      obtain ⟨n, hn⟩ : ∃ n, E'.length = n := ⟨_, rfl⟩
      rw [hn] at hb'
      have HKl := Lib.hid hkl
      have HB' := Lib.hid hb'
      obtain ⟨x0, x1, x2, x3⟩ := hb'.cells
      clear hrel hkl hb' HS HLn HLn2 HBs
      obtain ⟨bb, hbb⟩ : ∃ bb : Bool, bb = (decide (1 < n) && (decide (1000000 < hd') || decide (4000 < n))) := ⟨_, rfl⟩
      go_upto_region 3 with fail
      go_cut [56] (fun y wx => y = .bool bb ∧ wx = wr)
      case first =>
        by_cases h1 : 1 < n
        · have d1 : decide ((1 : Int) < (n : Int)) = true := decide_eq_true (by omega)
          by_cases h2 : 1000000 < hd'
          · have d2 : decide ((1000000 : Int) < hd') = true := decide_eq_true h2
            go_wp2_with fail
            go_meet
            exact ⟨by rw [hbb]; simp [h1, h2], rfl⟩
          · have d2 : decide ((1000000 : Int) < hd') = false := decide_eq_false h2
            by_cases h3 : 4000 < n
            · have d3 : decide ((4000 : Int) < (n : Int)) = true := decide_eq_true (by omega)
              go_wp2_with fail
              go_meet
              exact ⟨by rw [hbb]; simp [h1, h3], rfl⟩
            · have d3 : decide ((4000 : Int) < (n : Int)) = false := decide_eq_false (by omega)
              go_wp2_with fail
              go_meet
              exact ⟨by rw [hbb]; simp [h1, h2, h3], rfl⟩
        · have d1 : decide ((1 : Int) < (n : Int)) = false := decide_eq_false (by omega)
          go_wp2_with fail
          go_meet
          exact ⟨by rw [hbb]; simp [h1], rfl⟩
      case rest =>
        obtain ⟨rfl, hw⟩ := hcut
        have hw := hw.symm
        subst hw
        cases hq : bb with
        | false =>
          have HLe : Hid (E'.length ≤ 4000) := show _ ≤ _ by
            rw [hq] at hbb
            simp only [Bool.false_eq, Bool.and_eq_false_iff, Bool.or_eq_false_iff, decide_eq_false_iff_not] at hbb
            omega
          go_wp2_with fail
          go_end0
          exact ⟨rfl, HFin.out _ _ HKl.out HLe.out⟩
        | true =>
          have hn1 : 1 < n := by
            rw [hq] at hbb
            simp only [Bool.true_eq, Bool.and_eq_true, decide_eq_true_eq] at hbb
            exact hbb.1
          clear hbb
          obtain ⟨e, E2, rfl⟩ : ∃ e E2, E' = e :: E2 := by
            cases E' with
            | nil => simp at hn; omega
            | cons e E2 => exact ⟨e, E2, rfl⟩
          obtain ⟨elv, ewv, exs⟩ := e
          obtain ⟨g1, o1, c1', e1, hc1⟩ := HB'.out.lrow.some_of (by simp)
          obtain ⟨g2, o2, c2', e2, hc2⟩ := HB'.out.wrow.some_of (by simp)
          simp only [List.map_cons, List.length_cons, List.length_map, Value.slice.injEq] at e1 e2 hc1 hc2
          obtain ⟨rfl, hn2, rfl⟩ := e1
          obtain ⟨rfl, -, rfl⟩ := e2
          have y1 := HB'.out.lrow.cell 0 (by simp)
          have y2 := HB'.out.wrow.cell 0 (by simp)
          simp only [Nat.add_zero, List.map_cons, List.getElem_cons_zero] at y1 y2
          have HOk := Lib.hid (HKl.out.ents _ (List.mem_cons_self))
          obtain ⟨pa, pn, pc, hpv⟩ : ∃ pa pn pc, elv = .slice pa pn pc := by
            rcases HOk.out.l.2 with ⟨e, _⟩ | ⟨g, cap, cur, e, _⟩
            · exact ⟨_, _, _, e⟩
            · exact ⟨_, _, _, e⟩
          subst hpv
          obtain ⟨qa, qn, qc, hqv⟩ : ∃ qa qn qc, ewv = .slice qa qn qc := by
            rcases HOk.out.w.2 with ⟨e, _⟩ | ⟨g, cap, cur, e, _⟩
            · exact ⟨_, _, _, e⟩
            · exact ⟨_, _, _, e⟩
          subst hqv
          have HSm : Hid (Calls Tryz.prog 19 #[.slice pa pn pc, .slice qa qn qc] wr.drew fun e w' => e = .returned (.bool true) ∧ (w'.cell? ⟨kb, 0, none⟩ = some (.slice (some ⟨g1, o1, none⟩) n b1) ∧ w'.cell? ⟨kb, 1, none⟩ = some (.slice (some ⟨g2, o2, none⟩) n b2) ∧ w'.cell? ⟨kb, 3, none⟩ = some (.bool false) ∧ w'.cell? ⟨g1, o1, none⟩ = some (.slice pa pn pc) ∧ w'.cell? ⟨g2, o2, none⟩ = some (.slice qa qn qc)) ∧ w'.frozen? ⟨kb, 3, none⟩ = false ∧ Hid (Keeps (fun _ => False) wr w') ∧ Hid ((w'.setCell ⟨kb, 3, none⟩ (.bool false)).cell? ⟨kb, 0, none⟩ = some (.slice (some ⟨g1, o1, none⟩) n b1) ∧ (w'.setCell ⟨kb, 3, none⟩ (.bool false)).cell? ⟨kb, 1, none⟩ = some (.slice (some ⟨g2, o2, none⟩) n b2) ∧ (w'.setCell ⟨kb, 3, none⟩ (.bool false)).cell? ⟨kb, 3, none⟩ = some (.bool false) ∧ (w'.setCell ⟨kb, 3, none⟩ (.bool false)).cell? ⟨g1, o1, none⟩ = some (.slice pa pn pc) ∧ (w'.setCell ⟨kb, 3, none⟩ (.bool false)).cell? ⟨g2, o2, none⟩ = some (.slice qa qn qc)) ∧ Hid (Bw (w'.setCell ⟨kb, 3, none⟩ (.bool false)) base kb (.slice (some ⟨g1, o1, none⟩) n b1) (.slice (some ⟨g2, o2, none⟩) n b2) hd' (.slice pa pn pc :: E2.map Ent.lv) (.slice qa qn qc :: E2.map Ent.wv))) := by
            refine (same_any (w := wr.drew) (HOk.out.l.sl HOk.out.sm) (HOk.out.w.sl HOk.out.sm)).mono ?_
            rintro e w' ⟨rfl, hb⟩
            have k : Keeps (fun _ => False) wr w' := (keeps_drew0 wr).trans (Keeps.of_below hb) (fun _ _ e => e)
            have b := HB'.out.keeps0 k
            have c : ∀ g i v, wr.cell? ⟨g, i, none⟩ = some v → w'.cell? ⟨g, i, none⟩ = some v := fun g i v hc => (World.cell?_of_block (a := ⟨g, i, none⟩) (k.block g (World.block_lt_of_cell? wr _ hc) id)).trans hc
            have b2 : Bw (w'.setCell ⟨kb, 3, none⟩ (.bool false)) base kb (.slice (some ⟨g1, o1, none⟩) n b1) (.slice (some ⟨g2, o2, none⟩) n b2) hd' (.slice pa pn pc :: E2.map Ent.lv) (.slice qa qn qc :: E2.map Ent.wv) := b.put rfl b.lrow b.wrow b.ne b.kb_ne
            have y1' := b2.lrow.cell 0 (by simp)
            have y2' := b2.wrow.cell 0 (by simp)
            exact ⟨rfl, ⟨b.cells.1, b.cells.2.1, b.cells.2.2.2, c _ _ _ y1, c _ _ _ y2⟩, b.thawed 3, k, ⟨b2.cells.1, b2.cells.2.1, b2.cells.2.2.2, y1', y2'⟩, b2⟩
          have hn0 : (0 : Int) < (n : Int) := by omega
          go_upto_region 4 with fail
          go_cut [] (fun wx => Hid (Bw wx base kb (.slice (some ⟨g1, o1, none⟩) n b1) (.slice (some ⟨g2, o2, none⟩) n b2) hd' (.slice pa pn pc :: E2.map Ent.lv) (.slice qa qn qc :: E2.map Ent.wv) ∧ Ke base kb wr wx))
          case first =>
            go_region_held3 (fun w' => w'.cell? ⟨kb, 0, none⟩ = some (.slice (some ⟨g1, o1, none⟩) n b1) ∧ w'.cell? ⟨kb, 1, none⟩ = some (.slice (some ⟨g2, o2, none⟩) n b2) ∧ w'.cell? ⟨kb, 3, none⟩ = some (.bool false) ∧ w'.cell? ⟨g1, o1, none⟩ = some (.slice pa pn pc) ∧ w'.cell? ⟨g2, o2, none⟩ = some (.slice qa qn qc)) (first | (exact HZ5.out) | go_keep) (first | (go_at_call 19; refine HSm.out.mono ?_; rintro e w5 ⟨rfl, ⟨k0, k1, k3, k4, k5⟩, zf, HK5, HZ5, HB5⟩))
            all_goals
              go_wp2_with fail
              go_meet
              exact ⟨HB5.out, Ke.trans (HK5.out.mono (fun _ _ e => e.elim)) (Ke.set base kb w5 3 _)⟩
          case rest =>
            have HB6 := Lib.hid hcut.out.1
            have HK6 := Lib.hid hcut.out.2
            clear hcut x0 x1 x2 x3 y1 y2 HSm
            obtain ⟨x0, x1, x2, x3⟩ := HB6.out.cells
            have z2 := HB6.out.thawed 2
            have y1 := HB6.out.lrow.cell 0 (by simp)
            simp only [Nat.add_zero, List.getElem_cons_zero] at y1
            go_upto_region 5 with fail
            go_cut [] (fun wx => Hid (∃ hd7, Bw wx base kb (.slice (some ⟨g1, o1, none⟩) n b1) (.slice (some ⟨g2, o2, none⟩) n b2) hd7 (.slice pa pn pc :: E2.map Ent.lv) (.slice qa qn qc :: E2.map Ent.wv) ∧ Ke base kb wr wx))
            case first =>
              go_region
              all_goals
                go_wp2_with fail
                go_meet
                exact ⟨_, (HB6.out.put (i := 2) rfl HB6.out.lrow HB6.out.wrow HB6.out.ne HB6.out.kb_ne).keeps0 (keeps_drew0 _), (HK6.out.trans (Ke.set base kb _ 2 _)).drew⟩
            case rest =>
              obtain ⟨hd7, hb7, hk7⟩ := hcut.out
              have HB7 := Lib.hid hb7
              have HK7 := Lib.hid hk7
              clear hcut x0 x1 x2 x3 y1 z2 hb7 hk7 HB6 HK6
              obtain ⟨x0, x1, x2, x3⟩ := HB7.out.cells
              have z0 := HB7.out.thawed 0
              have z1 := HB7.out.thawed 1
              have hnb1 : n ≤ b1 := by omega
              have hnb2 : n ≤ b2 := by omega
              have hi1 : (1 : Int) ≤ (n : Int) := by omega
              have hi2 : (n : Int) ≤ (b1 : Int) := by omega
              have hi3 : (n : Int) ≤ (b2 : Int) := by omega
              go_wp2_with fail
              have hlen2 : (E2.map Ent.lv).length = E2.length := List.length_map _
              have hlen3 : (E2.map Ent.wv).length = E2.length := List.length_map _
              have t1 := HB7.out.lrow.tail
              have t2 := HB7.out.wrow.tail
              rw [hlen2] at t1
              rw [hlen3] at t2
              have b8 : Bw (wc.setCell ⟨kb, 0, none⟩ (.slice (some ⟨g1, o1 + 1, none⟩) E2.length (b1 - 1))) base kb (.slice (some ⟨g1, o1 + 1, none⟩) E2.length (b1 - 1)) (.slice (some ⟨g2, o2, none⟩) n b2) hd7 (E2.map Ent.lv) (.slice qa qn qc :: E2.map Ent.wv) := HB7.out.put rfl t1 HB7.out.wrow (fun k hk => HB7.out.ne k hk) HB7.out.kb_ne
              have t3 := b8.wrow.tail
              rw [hlen3] at t3
              have b9 : Bw ((wc.setCell ⟨kb, 0, none⟩ (.slice (some ⟨g1, o1 + 1, none⟩) E2.length (b1 - 1))).setCell ⟨kb, 1, none⟩ (.slice (some ⟨g2, o2 + 1, none⟩) E2.length (b2 - 1))) base kb (.slice (some ⟨g1, o1 + 1, none⟩) E2.length (b1 - 1)) (.slice (some ⟨g2, o2 + 1, none⟩) E2.length (b2 - 1)) hd7 (E2.map Ent.lv) (E2.map Ent.wv) := b8.put rfl b8.lrow t3 (fun k hk => b8.ne k hk) b8.kb_ne
              have k9 : Ke base kb wr ((wc.setCell ⟨kb, 0, none⟩ (.slice (some ⟨g1, o1 + 1, none⟩) E2.length (b1 - 1))).setCell ⟨kb, 1, none⟩ (.slice (some ⟨g2, o2 + 1, none⟩) E2.length (b2 - 1))) := (HK7.out.trans (Ke.set base kb wc 0 _)).trans (Ke.set base kb _ 1 _)
              refine ⟨⟨E2, ⟨_, _, _, b9⟩, fun x hx => ?_, (List.suffix_cons _ _).trans HKl.out.suf, HKl.out.ke.trans k9⟩, ?_⟩
              · have := HKl.out.ents x (List.mem_cons_of_mem _ hx)
                exact ⟨this.l.ke HB'.out.blk k9, this.w.ke HB'.out.blk k9, this.sm⟩
              · rw [b9.cells.1, HB'.out.cells.1]
                show E2.length < n
                omega
end Go.Proofs.YtmfkggngjeolcaaGreatDoor
