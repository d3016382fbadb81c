import Derived.Test.YtkhlkbgolonkkaaSWord
import Derived.Maps.AppendAt
import Derived.ArgAppend
import Derived.Test.YtkhlkbgolonkkaaSpTake
import Derived.Test.YtkhlkbgolonkkaaLnRuX
import Derived.Test.YtkhlkbgolonkkaaLnSl
import Derived.Deep.RegionLaw
import Derived.Lib.Hide
import Derived.Deep.DeepCutAuto
import Derived.Deep.CutBlock
import Derived.Deep.MidRow
import Derived.Shelf.Abstract
/- Rows of one-cell values at an offset: append, the tail. Own work. -/
namespace Go.Proofs.Ytkhlkbgolonkkaa
open Go.RowKit
/-- a row of values of one cell, in a block of its own from an offset on -/
def RowV (w : World) (base : Nat) (e : TypeId) (v : Value) (vs : List Value) : Prop :=
  (v = .slice none 0 0 ∧ vs = []) ∨ ∃ g off cap cur, v = .slice (some ⟨g, off, none⟩) vs.length cap ∧ base ≤ g ∧ w.heap[g]? = some (.cells cur e (0, 0)) ∧ vs.length ≤ cap ∧ cap ≤ maxLen ∧ cur.size = off + cap ∧ (cur.toList.drop off).take vs.length = vs
theorem RowV.nil (w : World) (base : Nat) (e : TypeId) : RowV w base e (.slice none 0 0) [] := .inl ⟨rfl, rfl⟩
theorem RowV.form {w : World} {base : Nat} {e : TypeId} {v : Value} {vs : List Value} (h : RowV w base e v vs) : ∃ a c, v = .slice a vs.length c := by
  rcases h with ⟨rfl, rfl⟩ | ⟨g, off, cap, cur, rfl, _⟩
  · exact ⟨none, 0, rfl⟩
  · exact ⟨_, _, rfl⟩
theorem RowV.lt {w : World} {base : Nat} {e : TypeId} {v : Value} {vs : List Value} (h : RowV w base e v vs) : ∀ k, v.ownBlock = some k → base ≤ k ∧ k < w.heap.size := by
  rcases h with ⟨rfl, rfl⟩ | ⟨g, off, cap, cur, rfl, hb, hg, _⟩
  · intro k hk; cases hk
  · intro k hk
    cases hk
    exact ⟨hb, (Array.getElem?_eq_some_iff.1 hg).1⟩
theorem RowV.keeps {S : Nat → Prop} {w w' : World} {base : Nat} {e : TypeId} {v : Value} {vs : List Value} (h : RowV w base e v vs) (hk : Keeps S w w') (hn : ∀ k, v.ownBlock = some k → ¬ S k) : RowV w' base e v vs := by
  rcases h with h | ⟨g, off, cap, cur, rfl, hb, hg, r⟩
  · exact .inl h
  · exact .inr ⟨g, off, cap, cur, rfl, hb, by rw [hk.block g (Array.getElem?_eq_some_iff.1 hg).1 (hn g rfl)]; exact hg, r⟩
theorem RowV.tag {w : World} {base : Nat} {e : TypeId} {v : Value} {vs : List Value} (h : RowV w base e v vs) : ∀ k, v.ownBlock = some k → ∃ cur, w.heap[k]? = some (.cells cur e (0, 0)) := by
  rcases h with ⟨rfl, rfl⟩ | ⟨g, off, cap, cur, rfl, hb, hg, _⟩
  · intro k hk; cases hk
  · intro k hk
    cases hk
    exact ⟨cur, hg⟩
theorem RowV.cell {w : World} {base : Nat} {e : TypeId} {vs : List Value} {g off n cap : Nat} (h : RowV w base e (.slice (some ⟨g, off, none⟩) n cap) vs) (j : Nat) (hj : j < vs.length) : w.cell? ⟨g, off + j, none⟩ = some vs[j] := by
  rcases h with ⟨h, _⟩ | ⟨g', off', cap', cur, h, hb, hg, hl, hm, hs, ht⟩
  · simp at h
  · simp only [Value.slice.injEq, Option.some.injEq, Addr.mk.injEq, and_true] at h
    obtain ⟨⟨rfl, rfl⟩, rfl, rfl⟩ := h
    rw [cell_of_row _ _ _ _ _ _ hg, ← Array.getElem?_toList]
    have : ((cur.toList.drop off).take vs.length)[j]? = vs[j]? := by rw [ht]
    rw [List.getElem?_take_of_lt hj, List.getElem?_drop] at this
    rw [this, List.getElem?_eq_getElem hj]
theorem RowV.some_of {w : World} {base : Nat} {e : TypeId} {v : Value} {vs : List Value} (h : RowV w base e v vs) (hp : 0 < vs.length) : ∃ g off cap, v = .slice (some ⟨g, off, none⟩) vs.length cap ∧ vs.length ≤ cap := by
  rcases h with ⟨_, rfl⟩ | ⟨g, off, cap, cur, rfl, hb, hg, hl, _⟩
  · simp at hp
  · exact ⟨g, off, cap, rfl, hl⟩
/-- the row without its first -/
theorem RowV.tail {w : World} {base : Nat} {e : TypeId} {x : Value} {vs : List Value} {g off n cap : Nat} (h : RowV w base e (.slice (some ⟨g, off, none⟩) n cap) (x :: vs)) : RowV w base e (.slice (some ⟨g, off + 1, none⟩) vs.length (cap - 1)) vs := by
  rcases h with ⟨h, _⟩ | ⟨g', off', cap', cur, h, hb, hg, hl, hm, hs, ht⟩
  · simp at h
  · simp only [Value.slice.injEq, Option.some.injEq, Addr.mk.injEq, and_true] at h
    obtain ⟨⟨rfl, rfl⟩, rfl, rfl⟩ := h
    simp only [List.length_cons] at hl ht
    refine .inr ⟨g, off + 1, cap - 1, cur, rfl, hb, hg, by omega, by omega, by omega, ?_⟩
    have := congrArg (List.drop 1) ht
    rw [List.drop_take, List.drop_drop] at this
    simpa using this
theorem drop_set_take (l : List Value) (off n : Nat) (x : Value) (h : off + n < l.length) : ((l.set (off + n) x).drop off).take (n + 1) = (l.drop off).take n ++ [x] := by
  rw [List.drop_set, if_neg (by omega), show off + n - off = n by omega, List.take_add_one, List.getElem?_set_self (by simp; omega), List.take_set_of_le (Nat.le_refl _)]
  rfl
/-- append of one value -/
theorem run_appV {w : World} {base : Nat} {t e : TypeId} {v : Value} {vs : List Value} {x : Value} {g cap : Nat} (ty : TypeId) (hu : Try.prog.underlying t = some (.slice e)) (hin : (Try.prog.info? e).map (fun i => (i.zero, i.size, i.bytes)) = some (some (.slice none 0 0), 1, 24)) (hown : RowV w base e v vs) (hx : w.cell? ⟨g, 0, none⟩ = some x) (h1 : x.oneCell' = true) (hb : vs.length ≤ 1048576) (hbase : base ≤ w.heap.size) :
    ∃ v' w', (Builtin.append_ #[t, t] ty #[v, .slice (some ⟨g, 0, none⟩) 1 cap]).run Try.prog w = .ok v' w' ∧ RowV w' base e v' (vs ++ [x]) ∧ w.grownBy w' v.ownBlock ∧ (v'.ownBlock = v.ownBlock ∨ ∃ k, v'.ownBlock = some k ∧ w.heap.size ≤ k) := by
  obtain ⟨i, hi, hz0, hz1, hz2⟩ := info_parts hin
  have hnews : ∀ j u, [x][j]? = some u → w.cell? ((⟨g, 0, none⟩ : Addr).add j) = some u := fun j u hj => by
    rw [Addr.add_lit, Nat.zero_add]
    match j, hj with
    | 0, hj => rw [hx]; exact hj
  have hone : ∀ u ∈ [x], u.oneCell' = true := fun u hu => by obtain rfl := List.mem_singleton.1 hu; exact h1
  have fin : ∀ v' w', w'.ownsRow w.heap.size e 1 v' (vs.length + 1) (vs ++ [x]) → w.grownBy w' none → RowV w' base e v' (vs ++ [x]) ∧ w.grownBy w' v.ownBlock ∧ (v'.ownBlock = v.ownBlock ∨ ∃ k, v'.ownBlock = some k ∧ w.heap.size ≤ k) := fun v' w' ho hg => by
    rcases ho.2 with ⟨_, h0⟩ | ⟨g', cap', cur, rfl, hb', hg', hl, hm, hs, ht⟩
    · omega
    · refine ⟨.inr ⟨g', 0, cap', cur, by simp, Nat.le_trans hbase hb', hg', by simpa using hl, hm, by omega, by simpa using ht⟩, ⟨hg.os, hg.tape, hg.output, hg.size, fun k hk _ => hg.block k hk (fun e => by cases e)⟩, .inr ⟨g', rfl, hb'⟩⟩
  rcases hown with ⟨rfl, rfl⟩ | ⟨b, off, c, cur, rfl, hbb, hg, hl, hm, hs, ht⟩
  · obtain ⟨v', w', r1, r2, r3, _, r5⟩ := run_append_own_at (P := Try.prog) w w.heap.size t ty e i (.slice none 0 0) 1 24 hu hi hz0 hz1 hz2 rfl (by omega) (.slice none 0 0) 0 [] ⟨rfl, .inl ⟨rfl, rfl⟩⟩ ⟨g, 0, none⟩ 1 cap [x] rfl hnews hone (by unfold maxLen; omega) (by omega) (Nat.le_refl _)
    exact ⟨v', w', r1, fin v' w' r2 r3⟩
  · by_cases hr : vs.length + 1 ≤ c
    · have hcell : w.cell? ⟨b, off + vs.length * i.size + 0, none⟩ = cur[off + vs.length]? := by rw [hz1, Nat.mul_one, Nat.add_zero]; exact cell_of_row _ _ _ _ _ _ hg
      have hru := run_append_room_cells (P := Try.prog) w t ty e i hu hi b off vs.length c ⟨g, 0, none⟩ 1 cap [x] (by rw [hz1]; rfl) hnews hone hr (fun j hj => by
        obtain rfl : j = 0 := by simpa using hj
        rw [hcell, Array.getElem?_eq_getElem (by omega)]
        rfl) (fun j _ => by simp [World.frozen?, hg])
      refine ⟨_, _, hru, ?_, ?_, .inl rfl⟩
      · rw [hz1, Nat.mul_one]
        refine .inr ⟨b, off, c, cur.setIfInBounds (off + vs.length) x, by simp, hbb, ?_, by simpa using hr, hm, by simpa using hs, ?_⟩
        · simp [World.setCells, World.setCell, Array.getElem?_modify, hg]
        · rw [Array.toList_setIfInBounds, List.length_append, List.length_singleton, drop_set_take _ _ _ _ (by simp; omega), ht]
      · rw [hz1, Nat.mul_one]
        exact ⟨rfl, rfl, rfl, by simp [World.setCells, World.setCell], fun k hk hne => Below.heap_setCell _ _ _ _ (fun e => hne (by subst e; rfl))⟩
    · obtain ⟨v', w', r1, r2, r3⟩ := run_append_arg_grows (P := Try.prog) w t ty e i (.slice none 0 0) 1 24 hu hi hz0 hz1 hz2 rfl (by omega) ⟨b, off, none⟩ vs.length c vs (by simp) (fun j u hj => by
        rw [Addr.add_lit, cell_of_row _ _ _ _ _ _ hg, ← Array.getElem?_toList]
        have hj' := (List.getElem?_eq_some_iff.1 hj).1
        have : ((cur.toList.drop off).take vs.length)[j]? = vs[j]? := by rw [ht]
        rw [List.getElem?_take_of_lt hj', List.getElem?_drop] at this
        rw [this, hj]) ⟨g, 0, none⟩ 1 cap [x] rfl hnews (by omega) (by unfold maxLen; omega) (by omega)
      exact ⟨v', w', r1, fin v' w' r2 r3⟩
end Go.Proofs.Ytkhlkbgolonkkaa
/- Books of slots: Keep (written by parts/gen_bkt.py off BkB). Own work. -/
namespace Go.Proofs.Ytkhlkbgolonkkaa
open Go.RowKit
/-- a list of slots that a book may hold -/
def SmQ (xs : List S3) : Prop := xs.length ≤ 1048576 ∧ ∀ y ∈ xs, I64 y
theorem keeps_drew0 (w : World) : Keeps (fun _ => False) w w.drew := (Keeps.refl _ _).drew
def lenM : Option Value → Nat
  | some (.slice _ n _) => n
  | _ => 0
theorem sameQ_any {u v : Value} {xs : List S3} {w : World} {b1 b2 : Nat} (hu : OwnS w b1 u xs) (hv : OwnS w b2 v xs) (hl : SmQ xs) :
    Calls Try.prog 12 #[u, v] w fun e w' => e = .returned (.bool true) ∧ Below w.heap.size w w' := same3_any (hu.rs hl.2) (hv.rs hl.2)
structure EntQ where
  lv : Value
  wv : Value
  xs : List S3
def EntQ.bl (x : EntQ) : List Nat := x.lv.ownBlock.toList ++ x.wv.ownBlock.toList
def blksQ (E : List EntQ) : List Nat := E.flatMap EntQ.bl
structure EntQ.ok (w : World) (base : Nat) (x : EntQ) : Prop where
  l : OwnS w base x.lv x.xs
  w : OwnS w base x.wv x.xs
  sm : SmQ x.xs
/-- a book: its block, its two rows, what they hold -/
structure BkQ (w : World) (base kb : Nat) (lv wv : Value) (held : Int) (E : List EntQ) : Prop where
  blk : w.heap[kb]? = some (.cells #[lv, wv, .int .i64 held, .bool false] 41 (0, 0))
  lrow : RowV w base 31 lv (E.map EntQ.lv)
  wrow : RowV w base 31 wv (E.map EntQ.wv)
  ne : ∀ k, lv.ownBlock = some k → wv.ownBlock ≠ some k
  ents : ∀ x ∈ E, x.ok w base
  nodup : (blksQ E).Nodup
theorem info_bsQ : (Try.prog.info? 31).map (fun i => (i.zero, i.size, i.bytes)) = some (some (.slice none 0 0), 1, 24) := by kernel_rfl
theorem BkQ.cells {w : World} {base kb : Nat} {lv wv : Value} {held : Int} {E : List EntQ} (h : BkQ w base kb lv wv held E) : w.cell? ⟨kb, 0, none⟩ = some lv ∧ w.cell? ⟨kb, 1, none⟩ = some wv ∧ w.cell? ⟨kb, 2, none⟩ = some (.int .i64 held) ∧ w.cell? ⟨kb, 3, none⟩ = some (.bool false) := by
  refine ⟨?_, ?_, ?_, ?_⟩ <;> rw [cell_of_row _ _ _ _ _ _ h.blk] <;> rfl
theorem BkQ.thawed {w : World} {base kb : Nat} {lv wv : Value} {held : Int} {E : List EntQ} (h : BkQ w base kb lv wv held E) (i : Nat) : w.frozen? ⟨kb, i, none⟩ = false := by simp [World.frozen?, h.blk]
theorem BkQ.lt {w : World} {base kb : Nat} {lv wv : Value} {held : Int} {E : List EntQ} (h : BkQ w base kb lv wv held E) : kb < w.heap.size := (Array.getElem?_eq_some_iff.1 h.blk).1
/-- a copy of slots -/
theorem run_copyQ {w : World} {base : Nat} {l : Value} {xs : List S3} (ty : TypeId) (hl : OwnS w base l xs) (hlen : SmQ xs) :
    ∃ v' w', (Builtin.append_ #[31, 31] ty #[.slice none 0 0, l]).run Try.prog w = .ok v' w' ∧ OwnS w' w.heap.size v' xs ∧ w.grownBy w' none := by
  obtain ⟨i, hi, hz0, hz1, hz2⟩ := info_parts info_slot
  have hlen := hlen.1
  rcases hl.2 with ⟨rfl, h0⟩ | ⟨g, cap, cur, rfl, hb, hg, hl1, hm, hs, ht⟩
  · obtain rfl : xs = [] := List.eq_nil_of_length_eq_zero h0
    refine ⟨.slice none 0 0, w, ?_, ⟨rfl, .inl ⟨rfl, rfl⟩⟩, ⟨rfl, rfl, rfl, Nat.le_refl _, fun _ _ _ => rfl⟩⟩
    simp [Builtin.append_, run_underlying Try.underlying31, sizeOf, typeInfo, hi, Builtin.lenOf, Builtin.firstCells]
  · obtain ⟨v', w', r1, r2, r3, _⟩ := run_append_own_at (P := Try.prog) w w.heap.size 31 ty 37 i _ 3 _ Try.underlying31 hi hz0 hz1 hz2 rfl (by omega) (.slice none 0 0) 0 [] ⟨rfl, .inl ⟨rfl, rfl⟩⟩ ⟨g, 0, none⟩ xs.length cap (enc3s xs) (by rw [enc3s_length]) (fun j u hj => by
      have hj' : j < xs.length * 3 := by have := (List.getElem?_eq_some_iff.1 hj).1; rw [enc3s_length] at this; exact this
      rw [Addr.add_lit, Nat.zero_add, cell_of_row _ _ _ _ _ _ hg, ← Array.getElem?_toList, ← hj, ← ht, List.getElem?_take_of_lt hj']) (fun u hu => by
      obtain ⟨t, _, hu⟩ := List.mem_flatMap.1 hu
      exact enc3_one t u hu) (by unfold maxLen; omega) (by omega) (Nat.le_refl _)
    refine ⟨v', w', r1, ?_, r3⟩
    unfold OwnS
    simpa using r2
/-- what a book may write -/
def KeSQ (base kb : Nat) (w : World) (k : Nat) : Prop := k = kb ∨ (base ≤ k ∧ ∃ cur, w.heap[k]? = some (.cells cur 31 (0, 0)))
def KeQ (base kb : Nat) (w w' : World) : Prop := Keeps (KeSQ base kb w) w w'
theorem KeQ.refl (base kb : Nat) (w : World) : KeQ base kb w w := Keeps.refl _ _
theorem KeQ.trans {base kb : Nat} {a b c : World} (h : KeQ base kb a b) (k : KeQ base kb b c) : KeQ base kb a c := by
  refine ⟨k.os.trans h.os, k.tape.trans h.tape, k.output.trans h.output, Nat.le_trans h.size k.size, fun i hi hn => ?_⟩
  have e := h.block i hi hn
  refine (k.block i (Nat.lt_of_lt_of_le hi h.size) (fun hs => hn ?_)).trans e
  rcases hs with hs | ⟨h1, cur, h2⟩
  · exact .inl hs
  · exact .inr ⟨h1, cur, e.symm.trans h2⟩
theorem KeQ.of {base kb : Nat} {w w' : World} {S : Nat → Prop} (h : Keeps S w w') (hs : ∀ k, k < w.heap.size → S k → KeSQ base kb w k) : KeQ base kb w w' := h.mono hs
theorem KeQ.alloc (base kb : Nat) (w : World) (o : Obj) : KeQ base kb w (w.alloc o) := Keeps.alloc w o
theorem KeQ.set (base kb : Nat) (w : World) (i : Nat) (v : Value) : KeQ base kb w (w.setCell ⟨kb, i, none⟩ v) := (Keeps.setCell w kb i v).mono (fun _ _ e => .inl e)
theorem KeQ.drew {base kb : Nat} {a b : World} (h : KeQ base kb a b) : KeQ base kb a b.drew := Keeps.drew h
theorem KeQ.grown {base kb : Nat} {w w' : World} {v : Value} {vs : List Value} (hg : w.grownBy w' v.ownBlock) (hr : RowV w base 31 v vs) : KeQ base kb w w' :=
  (Keeps.of_grown hg).mono (fun k _ e => .inr ⟨(hr.lt k e).1, hr.tag k e⟩)
theorem KeQ.grown0 {base kb : Nat} {w w' : World} (hg : w.grownBy w' none) : KeQ base kb w w' := (Keeps.of_grown hg).mono (fun _ _ e => by cases e)
/-- the book's block and rows -/
structure BwQ (w : World) (base kb : Nat) (lv wv : Value) (held : Int) (Ls Ws : List Value) : Prop where
  blk : w.heap[kb]? = some (.cells #[lv, wv, .int .i64 held, .bool false] 41 (0, 0))
  lrow : RowV w base 31 lv Ls
  wrow : RowV w base 31 wv Ws
  ne : ∀ k, lv.ownBlock = some k → wv.ownBlock ≠ some k
theorem BwQ.cells {w : World} {base kb : Nat} {lv wv : Value} {held : Int} {Ls Ws : List Value} (h : BwQ w base kb lv wv held Ls Ws) : w.cell? ⟨kb, 0, none⟩ = some lv ∧ w.cell? ⟨kb, 1, none⟩ = some wv ∧ w.cell? ⟨kb, 2, none⟩ = some (.int .i64 held) ∧ w.cell? ⟨kb, 3, none⟩ = some (.bool false) := by
  refine ⟨?_, ?_, ?_, ?_⟩ <;> rw [cell_of_row _ _ _ _ _ _ h.blk] <;> rfl
theorem BwQ.thawed {w : World} {base kb : Nat} {lv wv : Value} {held : Int} {Ls Ws : List Value} (h : BwQ w base kb lv wv held Ls Ws) (i : Nat) : w.frozen? ⟨kb, i, none⟩ = false := by simp [World.frozen?, h.blk]
theorem BwQ.lt {w : World} {base kb : Nat} {lv wv : Value} {held : Int} {Ls Ws : List Value} (h : BwQ w base kb lv wv held Ls Ws) : kb < w.heap.size := (Array.getElem?_eq_some_iff.1 h.blk).1
theorem BwQ.kb_ne {w : World} {base kb : Nat} {lv wv : Value} {held : Int} {Ls Ws : List Value} (h : BwQ w base kb lv wv held Ls Ws) : lv.ownBlock ≠ some kb ∧ wv.ownBlock ≠ some kb := by
  refine ⟨fun e => ?_, fun e => ?_⟩
  · obtain ⟨c, hc⟩ := h.lrow.tag _ e
    rw [h.blk] at hc
    simp at hc
  · obtain ⟨c, hc⟩ := h.wrow.tag _ e
    rw [h.blk] at hc
    simp at hc
theorem BwQ.keeps0 {w w' : World} {base kb : Nat} {lv wv : Value} {held : Int} {Ls Ws : List Value} (h : BwQ w base kb lv wv held Ls Ws) (k : Keeps (fun _ => False) w w') : BwQ w' base kb lv wv held Ls Ws :=
  ⟨(k.block kb h.lt id).trans h.blk, h.lrow.keeps k (fun _ _ => id), h.wrow.keeps k (fun _ _ => id), h.ne⟩
/-- a cell of the book's is written -/
theorem BwQ.put {w : World} {base kb : Nat} {lv wv lv' wv' : Value} {held held' : Int} {Ls Ws Ls' Ws' : List Value} {i : Nat} {v : Value} (h : BwQ w base kb lv wv held Ls Ws) (e : #[lv', wv', .int .i64 held', .bool false] = #[lv, wv, .int .i64 held, .bool false].setIfInBounds i v) (h1 : RowV w base 31 lv' Ls') (h2 : RowV w base 31 wv' Ws') (hn : ∀ k, lv'.ownBlock = some k → wv'.ownBlock ≠ some k) (hk : lv'.ownBlock ≠ some kb ∧ wv'.ownBlock ≠ some kb) : BwQ (w.setCell ⟨kb, i, none⟩ v) base kb lv' wv' held' Ls' Ws' := by
  refine ⟨?_, h1.keeps (Keeps.setCell w kb i v) (fun k hk' e => hk.1 (by subst e; exact hk')), h2.keeps (Keeps.setCell w kb i v) (fun k hk' e => hk.2 (by subst e; exact hk')), hn⟩
  rw [e]
  simp [World.setCell, Array.getElem?_modify, h.blk]
theorem OwnS.tagB {w : World} {base : Nat} {v : Value} {xs : List S3} (h : OwnS w base v xs) : ∀ k, v.ownBlock = some k → ∃ cur, w.heap[k]? = some (.cells cur 37 (0, 0)) := by
  rcases h.2 with ⟨rfl, _⟩ | ⟨g, cap, cur, rfl, hb, hg, _⟩
  · intro k hk; cases hk
  · intro k hk
    cases hk
    exact ⟨cur, hg⟩
theorem OwnS.ke {w w' : World} {base base' kb : Nat} {v : Value} {xs : List S3} {cs : Array Value} (h : OwnS w base' v xs) (hb : w.heap[kb]? = some (.cells cs 41 (0, 0))) (k : KeQ base kb w w') : OwnS w' base' v xs :=
  h.keeps k (fun i hi hs => by
    obtain ⟨c, hc⟩ := h.tagB i hi
    rcases hs with rfl | ⟨_, d, hd⟩
    · rw [hb] at hc; simp at hc
    · rw [hd] at hc; simp at hc)
theorem step_appVQ {w : World} {base : Nat} {ops : Array Oper} {o : Oper} {a : Act} {K : Act → World → Prop} {Q : Exit → Act → World → Prop} {E : Prop} (hw : Region.wanted o (yielded ops a.tmps) = true) (s x : Operand)
    (ho : o.op = .call { callee := .builtin .append, args := #[s, x], argTypes := #[39, 39] }) {v : Value} {vs : List Value} {y : Value} {g cap : Nat} (hown : RowV w base 31 v vs) (hs : a.eval s = v) (hx : a.eval x = .slice (some ⟨g, 0, none⟩) 1 cap) (hc : w.cell? ⟨g, 0, none⟩ = some y) (h1 : y.oneCell' = true) (hb : vs.length ≤ 1048576) (hbase : base ≤ w.heap.size)
    (h : ∀ va vc w', RowV w' base 31 (.slice va (vs.length + 1) vc) (vs ++ [y]) → w.grownBy w' v.ownBlock → ((Value.slice va (vs.length + 1) vc).ownBlock = v.ownBlock ∨ ∃ k, (Value.slice va (vs.length + 1) vc).ownBlock = some k ∧ w.heap.size ≤ k) → K (a.put o.dst (.slice va (vs.length + 1) vc)) w') : if Region.wanted o (yielded ops a.tmps) = true then Oper.wp Try.prog o a w K Q else E := by
  rw [if_pos hw]
  obtain ⟨v', w', hr, h2, h3, h4⟩ := run_appV o.type Try.underlying39 info_bsQ hown hc h1 hb hbase (cap := cap)
  obtain ⟨va, vc, rfl⟩ := h2.form
  rw [List.length_append, List.length_singleton] at hr h2 h4
  unfold Oper.wp execOp
  simp only [ho, resolve, invoke, builtin, Sem.run_bind, Sem.run_pure, Result.andThen_ok, List.map_toArray, List.map_cons, List.map_nil, hs, hx, hr]
  exact h va vc w' h2 h3 h4
theorem wpList_appVQ {w : World} {base : Nat} {ops : Array Oper} {rest : List Oper} {o : Oper} {a : Act} {Q : Exit → Act → World → Prop} (hgd : o.guard = none) (s x : Operand)
    (ho : o.op = .call { callee := .builtin .append, args := #[s, x], argTypes := #[39, 39] }) {v : Value} {vs : List Value} {y : Value} {g cap : Nat} (hown : RowV w base 31 v vs) (hs : a.eval s = v) (hx : a.eval x = .slice (some ⟨g, 0, none⟩) 1 cap) (hc : w.cell? ⟨g, 0, none⟩ = some y) (h1 : y.oneCell' = true) (hb : vs.length ≤ 1048576) (hbase : base ≤ w.heap.size)
    (h : ∀ va vc w', RowV w' base 31 (.slice va (vs.length + 1) vc) (vs ++ [y]) → w.grownBy w' v.ownBlock → ((Value.slice va (vs.length + 1) vc).ownBlock = v.ownBlock ∨ ∃ k, (Value.slice va (vs.length + 1) vc).ownBlock = some k ∧ w.heap.size ≤ k) → wpList Try.prog ops Q rest (a.put o.dst (.slice va (vs.length + 1) vc)) w') : wpList Try.prog ops Q (o :: rest) a w :=
  wpList_plain hgd fun K hK => by
    have := step_appVQ (ops := ops) (w := w) (o := o) (a := a) (K := K) (Q := Q) (E := False) (cap := cap) (by simp [Region.wanted, hgd]) s x ho hown hs hx hc h1 hb hbase (fun va vc w' h2 h3 h4 => hK _ _ (h va vc w' h2 h3 h4))
    rwa [if_pos (by simp [Region.wanted, hgd])] at this
theorem step_copyQ {w : World} {base : Nat} {ops : Array Oper} {o : Oper} {a : Act} {K : Act → World → Prop} {Q : Exit → Act → World → Prop} {E : Prop} (hw : Region.wanted o (yielded ops a.tmps) = true) (x : Operand)
    (ho : o.op = .call { callee := .builtin .append, args := #[.const (.slice none 0 0), x], argTypes := #[31, 31] }) {l : Value} {xs : List S3} (hl : OwnS w base l xs) (hlen : SmQ xs) (hx : a.eval x = l)
    (h : ∀ va vn vc w', OwnS w' w.heap.size (.slice va vn vc) xs → w.grownBy w' none → K (a.put o.dst (.slice va vn vc)) w') : if Region.wanted o (yielded ops a.tmps) = true then Oper.wp Try.prog o a w K Q else E := by
  rw [if_pos hw]
  obtain ⟨v', w', hr, h2, h3⟩ := run_copyQ o.type hl hlen
  obtain ⟨va, vn, vc, rfl⟩ : ∃ va vn vc, v' = .slice va vn vc := by
    rcases h2.2 with ⟨rfl, _⟩ | ⟨g, cap, cur, rfl, _⟩
    · exact ⟨_, _, _, rfl⟩
    · exact ⟨_, _, _, rfl⟩
  have hc0 : a.eval (.const (.slice none 0 0)) = .slice none 0 0 := rfl
  unfold Oper.wp execOp
  simp only [ho, resolve, invoke, builtin, Sem.run_bind, Sem.run_pure, Result.andThen_ok, List.map_toArray, List.map_cons, List.map_nil, hc0, hx, hr]
  exact h va vn vc w' h2 h3
end Go.Proofs.Ytkhlkbgolonkkaa
/- Books of slots: Keep (written by parts/gen_bkt.py off BkKeep). Own work. -/
namespace Go.Proofs.Ytkhlkbgolonkkaa
open Go.RowKit
theorem BwQ.appL {w W0 w1 : World} {base kb : Nat} {lv wv V1 : Value} {held : Int} {Ls Ws Ls' : List Value} (h : BwQ w base kb lv wv held Ls Ws) (k0 : Keeps (fun _ => False) w W0) (hg : W0.grownBy w1 lv.ownBlock) (hr : RowV w1 base 31 V1 Ls') (loc : V1.ownBlock = lv.ownBlock ∨ ∃ k, V1.ownBlock = some k ∧ W0.heap.size ≤ k) :
    BwQ (w1.setCell ⟨kb, 0, none⟩ V1) base kb V1 wv held Ls' Ws ∧ KeQ base kb w (w1.setCell ⟨kb, 0, none⟩ V1) ∧ w1.cell? ⟨kb, 0, none⟩ = some lv ∧ w1.frozen? ⟨kb, 0, none⟩ = false := by
  have hk : Keeps (fun k => lv.ownBlock = some k) w w1 := (k0.mono (fun _ _ e => e.elim)).trans (Keeps.of_grown hg) (fun _ _ e => e)
  have hb1 : w1.heap[kb]? = some (.cells #[lv, wv, .int .i64 held, .bool false] 41 (0, 0)) := (hk.block kb h.lt h.kb_ne.1).trans h.blk
  have hv1 : V1.ownBlock ≠ some kb := by
    rcases loc with e | ⟨k, e, hk⟩
    · rw [e]; exact h.kb_ne.1
    · rw [e]; intro e2; cases e2; have := h.lt; have := k0.size; omega
  have hks : Keeps (fun k => k = kb) w1 (w1.setCell ⟨kb, 0, none⟩ V1) := Keeps.setCell w1 kb 0 V1
  refine ⟨⟨?_, hr.keeps hks (fun k hk' e => hv1 (by subst e; exact hk')), h.wrow.keeps (S := fun k => k = kb ∨ lv.ownBlock = some k) ((hk.mono (fun _ _ => .inr)).trans hks (fun _ _ => .inl)) (fun k hk' e => ?_), fun k hk' => ?_⟩, ?_, ?_, ?_⟩
  · simp [World.setCell, Array.getElem?_modify, hb1]
  · rcases e with e | e
    · subst e; exact h.kb_ne.2 hk'
    · exact h.ne k e hk'
  · rcases loc with e | ⟨j, e, hj⟩
    · exact h.ne k (e ▸ hk')
    · rw [e] at hk'
      cases hk'
      intro e2
      have := (h.wrow.lt _ e2).2
      have := k0.size
      omega
  · exact KeQ.trans (hk.mono (fun k _ e => .inr ⟨(h.lrow.lt k e).1, h.lrow.tag k e⟩)) (KeQ.set base kb w1 0 V1)
  · rw [cell_of_row _ _ _ _ _ _ hb1]; rfl
  · simp [World.frozen?, hb1]
theorem BwQ.appW {w W0 w1 : World} {base kb : Nat} {lv wv V1 : Value} {held : Int} {Ls Ws Ws' : List Value} (h : BwQ w base kb lv wv held Ls Ws) (k0 : Keeps (fun _ => False) w W0) (hg : W0.grownBy w1 wv.ownBlock) (hr : RowV w1 base 31 V1 Ws') (loc : V1.ownBlock = wv.ownBlock ∨ ∃ k, V1.ownBlock = some k ∧ W0.heap.size ≤ k) :
    BwQ (w1.setCell ⟨kb, 1, none⟩ V1) base kb lv V1 held Ls Ws' ∧ KeQ base kb w (w1.setCell ⟨kb, 1, none⟩ V1) ∧ w1.cell? ⟨kb, 1, none⟩ = some wv ∧ w1.frozen? ⟨kb, 1, none⟩ = false := by
  have hk : Keeps (fun k => wv.ownBlock = some k) w w1 := (k0.mono (fun _ _ e => e.elim)).trans (Keeps.of_grown hg) (fun _ _ e => e)
  have hb1 : w1.heap[kb]? = some (.cells #[lv, wv, .int .i64 held, .bool false] 41 (0, 0)) := (hk.block kb h.lt h.kb_ne.2).trans h.blk
  have hv1 : V1.ownBlock ≠ some kb := by
    rcases loc with e | ⟨k, e, hk⟩
    · rw [e]; exact h.kb_ne.2
    · rw [e]; intro e2; cases e2; have := h.lt; have := k0.size; omega
  have hks : Keeps (fun k => k = kb) w1 (w1.setCell ⟨kb, 1, none⟩ V1) := Keeps.setCell w1 kb 1 V1
  refine ⟨⟨?_, h.lrow.keeps (S := fun k => k = kb ∨ wv.ownBlock = some k) ((hk.mono (fun _ _ => .inr)).trans hks (fun _ _ => .inl)) (fun k hk' e => ?_), hr.keeps hks (fun k hk' e => hv1 (by subst e; exact hk')), fun k hk' => ?_⟩, ?_, ?_, ?_⟩
  · simp [World.setCell, Array.getElem?_modify, hb1]
  · rcases e with e | e
    · subst e; exact h.kb_ne.1 hk'
    · exact h.ne k hk' e
  · rcases loc with e | ⟨j, e, hj⟩
    · rw [e]; exact h.ne k hk'
    · rw [e]
      intro e2
      cases e2
      have := (h.lrow.lt _ hk').2
      have := k0.size
      omega
  · exact KeQ.trans (hk.mono (fun k _ e => .inr ⟨(h.wrow.lt k e).1, h.wrow.tag k e⟩)) (KeQ.set base kb w1 1 V1)
  · rw [cell_of_row _ _ _ _ _ _ hb1]; rfl
  · simp [World.frozen?, hb1]
theorem OwnS.weak {w : World} {b1 b2 : Nat} {v : Value} {xs : List S3} (h : OwnS w b1 v xs) (hb : b2 ≤ b1) : OwnS w b2 v xs := by
  refine ⟨h.1, ?_⟩
  rcases h.2 with h | ⟨g, cap, cur, e, hb', r⟩
  · exact .inl h
  · exact .inr ⟨g, cap, cur, e, Nat.le_trans hb hb', r⟩
theorem keep_midQ {W1 w2 w3 W3 : World} {X : Obj} {base kb : Nat} {lv wv v : Value} {held : Int} {Ls Ws : List Value} {xs : List S3} (h : BwQ W1 base kb lv wv held Ls Ws) (hb : base ≤ W1.heap.size) (ho : OwnS w2 W1.drew.heap.size v xs) (hg : (w2.alloc X).grownBy w3 wv.ownBlock) (hs : Keeps (fun k => k = kb) w3 W3) : OwnS W3 base v xs := by
  have k : Keeps (fun k => k = kb ∨ wv.ownBlock = some k) w2 W3 := (((Keeps.alloc w2 X).trans (Keeps.of_grown hg) (S := fun k => k = kb ∨ wv.ownBlock = some k) (fun _ _ e => .inr e))).trans hs (fun _ _ e => .inl e)
  refine (ho.weak hb).keeps k (fun i hi e => ?_)
  have h1 : W1.heap.size ≤ i := (ho.lt i hi).1
  rcases e with e | e
  · have := h.lt; omega
  · have := (h.wrow.lt i e).2; omega
/-- where the loop of Keep stands -/
structure KlQ (w : World) (base kb : Nat) (E0 E : List EntQ) (w' : World) : Prop where
  bw : ∃ lv wv held, BwQ w' base kb lv wv held (E.map EntQ.lv) (E.map EntQ.wv)
  ents : ∀ x ∈ E, x.ok w' base
  suf : E <:+ E0
  ke : KeQ base kb w w'
set_option maxRecDepth 100000 in
set_option maxHeartbeats 4000000 in
theorem keepQ_any {w : World} {base kb : Nat} {lv wv : Value} {held : Int} {E : List EntQ} {la : Option Addr} {ln lc : Nat} {xs : List S3} (h : BwQ w base kb lv wv held (E.map EntQ.lv) (E.map EntQ.wv)) (he : ∀ x ∈ E, x.ok w base) (hl : OwnS w base (.slice la ln lc) xs) (hxs : SmQ xs) (hsm : SmQ xs) (hlen : E.length ≤ 4000) (hbase : base ≤ w.heap.size) :
    Calls Try.prog 13 #[.pointer (some ⟨kb, 0, none⟩), .slice la ln lc] w fun e w' => e = .returned (.tuple #[]) ∧ ∃ cv, (∀ k, cv.ownBlock = some k → w.heap.size ≤ k) ∧ ∃ E', KlQ w base kb (E ++ [⟨.slice la ln lc, cv, xs⟩]) E' w' ∧ E'.length ≤ 4000 := by
  obtain ⟨va, vc, rfl⟩ := h.lrow.form
  obtain ⟨ua, uc, rfl⟩ := h.wrow.form
  simp only [List.length_map] at h
  have HB := Lib.hid h
  have HE : Hid (∀ x ∈ E, x.ok w base) := he
  have HL := Lib.hid hl
  obtain ⟨c0, c1, c2, c3⟩ := h.cells
  have HR : Hid (∀ X, RowV (w.alloc X) base 31 (.slice va E.length vc) (E.map EntQ.lv)) := fun X => h.lrow.keeps (S := fun _ => False) (Keeps.alloc w X) (fun _ _ => id)
  have HC : Hid (∀ t, (w.alloc (.cells #[.slice la ln lc] t)).cell? ⟨w.heap.size, 0, none⟩ = some (.slice la ln lc)) := fun t => by rw [cell_of_row _ _ 0 _ _ _ (heap_alloc_new w _)]; rfl
  have HLn : Hid ((E.map EntQ.lv).length ≤ 1048576) := show _ ≤ _ by rw [List.length_map]; omega
  have hkl := h.lt
  have HA : Hid (∀ X V1 w1, (w.alloc X).grownBy w1 (Value.slice va E.length vc).ownBlock → RowV w1 base 31 V1 (E.map EntQ.lv ++ [.slice la ln lc]) → (V1.ownBlock = (Value.slice va E.length vc).ownBlock ∨ ∃ k, V1.ownBlock = some k ∧ (w.alloc X).heap.size ≤ k) → BwQ (w1.setCell ⟨kb, 0, none⟩ V1) base kb V1 (.slice ua E.length uc) held (E.map EntQ.lv ++ [.slice la ln lc]) (E.map EntQ.wv) ∧ KeQ base kb w (w1.setCell ⟨kb, 0, none⟩ V1) ∧ w1.cell? ⟨kb, 0, none⟩ = some (.slice va E.length vc) ∧ w1.frozen? ⟨kb, 0, none⟩ = false) := fun X V1 w1 h1 h2 h3 => h.appL (Keeps.alloc w X) h1 h2 h3
  clear h he hl
  go_enter Try.func13, Try.ntmps13
  go_upto_region 1 with (refine wpList_appVQ (base := base) (vs := E.map EntQ.lv) (y := .slice la ln lc) (g := w.heap.size) (cap := 1) (by rfl) (.tmp 8) (.tmp 10) (by rfl) (by exact HR.out _) (by rfl) (by rfl) (by exact HC.out _) (by rfl) (by exact HLn.out) (by simp; omega) ?_; intro va1 vc1 w1 hr1 hg1 hl1; have HA1 := Lib.hid (HA.out _ _ _ hg1 hr1 hl1); have e0 := HA1.out.2.2.1; have z0 := HA1.out.2.2.2; clear hr1 hg1 hl1)
  have HB1 := Lib.hid HA1.out.1
  have HK1 := Lib.hid HA1.out.2.1
  simp only [List.length_map] at HB1 HK1
  obtain ⟨V1, hV1⟩ : ∃ V1, Value.slice va1 (E.length + 1) vc1 = V1 := ⟨_, rfl⟩
  rw [hV1] at HB1 HK1 ⊢
  obtain ⟨W1, hW1⟩ : ∃ W1, w1.setCell ⟨kb, 0, none⟩ V1 = W1 := ⟨_, rfl⟩
  rw [hW1] at HB1 HK1 ⊢
  clear HA1 e0 z0 hW1 hV1 c0 c1 c2 c3 HR HC HA
  have HL1 : Hid (OwnS W1 base (.slice la ln lc) xs) := HL.out.ke HB.out.blk HK1.out
  have HBs : Hid (base ≤ W1.heap.size) := Nat.le_trans hbase HK1.out.size
  have c1 := HB1.out.cells.2.1
  have hkl1 := HB1.out.lt
  have HK0 : Hid (∀ w2 X, W1.drew.grownBy w2 none → Keeps (fun _ => False) W1 (w2.alloc X) ∧ Keeps (fun _ => False) W1 w2) := fun w2 X hg => by
    have k1 : Keeps (fun _ => False) W1 w2 := (keeps_drew0 W1).trans ((Keeps.of_grown hg).mono (fun _ _ e => by cases e)) (fun _ _ e => e)
    exact ⟨k1.trans (Keeps.alloc w2 X) (fun _ _ e => e), k1⟩
  have HC2 : Hid (∀ (w2 : World) (v : Value) t, (w2.alloc (.cells #[v] t)).cell? ⟨w2.heap.size, 0, none⟩ = some v) := fun w2 v t => by rw [cell_of_row _ _ 0 _ _ _ (heap_alloc_new w2 _)]; rfl
  have HLn2 : Hid ((E.map EntQ.wv).length ≤ 1048576) := show _ ≤ _ by rw [List.length_map]; omega
  go_cut [] (fun wx => Hid (∃ ca cn cc V3, BwQ wx base kb V1 V3 held (E.map EntQ.lv ++ [.slice la ln lc]) (E.map EntQ.wv ++ [.slice ca cn cc]) ∧ OwnS wx base (.slice ca cn cc) xs ∧ (∀ k, (Value.slice ca cn cc).ownBlock = some k → w.heap.size ≤ k) ∧ KeQ base kb W1 wx))
  case first =>
    go_region_law (first | (refine step_copyQ (base := base) (l := .slice la ln lc) (xs := xs) (by kernel_rfl) (.tmp 19) (by rfl) (by exact HL1.out) hxs (by rfl) ?_; intro ca cn cc w2 ho2 hg2; have c1b := (HB1.out.keeps0 (HK0.out w2 (.cells #[] 0) hg2).2).cells.2.1; have hkl2 := (HB1.out.keeps0 (HK0.out w2 (.cells #[] 0) hg2).2).lt; have HBs2 : Hid (base ≤ w2.heap.size) := Nat.le_trans HBs.out (HK0.out w2 (.cells #[] 0) hg2).2.size) | (refine step_appVQ (base := base) (vs := E.map EntQ.wv) (y := .slice ca cn cc) (cap := 1) (by kernel_rfl) (.tmp 18) (.tmp 21) (by rfl) (by exact (HB1.out.keeps0 (HK0.out w2 _ hg2).1).wrow) (by rfl) (by rfl) (by exact HC2.out _ _ _) (by rfl) (by exact HLn2.out) (by have := HBs2.out; simp; omega) ?_; intro va3 vc3 w3 hr3 hg3 hl3; have HA3 := Lib.hid (HB1.out.appW (HK0.out w2 _ hg2).1 hg3 hr3 hl3); have e1 := HA3.out.2.2.1; have z1 := HA3.out.2.2.2))
    all_goals
      simp only [List.length_map] at HA3 hg3
      go_wp2_with fail
      go_meet
      exact ⟨ca, cn, cc, _, HA3.out.1, keep_midQ HB1.out HBs.out ho2 hg3 (Keeps.setCell _ _ _ _), fun k hk => Nat.le_trans HK1.out.size (ho2.lt k hk).1, HA3.out.2.1⟩
  case rest =>
    obtain ⟨ca, cn, cc, V3, hb3, ho3, hf3, hk3⟩ := hcut.out
    have HB3 := Lib.hid hb3
    have HO3 := Lib.hid ho3
    have HF3 : Hid (∀ k, (Value.slice ca cn cc).ownBlock = some k → w.heap.size ≤ k) := hf3
    have HK3 : Hid (KeQ base kb w wc) := HK1.out.trans hk3
    have c2 := hb3.cells.2.2.1
    have z2 := hb3.thawed 2
    clear hcut hb3 ho3 hf3 hk3 HB1 HK1 HK0 HC2 c1
    go_wp2_with fail
    have HB4 : Hid (BwQ (wc.setCell ⟨kb, 2, none⟩ (.int .i64 (wrap64 (wrap64 (held + (lc : Int)) + 1)))) base kb V1 V3 (wrap64 (wrap64 (held + (lc : Int)) + 1)) (E.map EntQ.lv ++ [.slice la ln lc]) (E.map EntQ.wv ++ [.slice ca cn cc])) := HB3.out.put rfl HB3.out.lrow HB3.out.wrow HB3.out.ne HB3.out.kb_ne
    have HK4 : Hid (KeQ base kb w (wc.setCell ⟨kb, 2, none⟩ (.int .i64 (wrap64 (wrap64 (held + (lc : Int)) + 1))))) := HK3.out.trans (KeQ.set base kb wc 2 _)
    have HO4 : Hid (OwnS (wc.setCell ⟨kb, 2, none⟩ (.int .i64 (wrap64 (wrap64 (held + (lc : Int)) + 1)))) base (.slice ca cn cc) xs) := HO3.out.ke HB3.out.blk (KeQ.set base kb wc 2 _)
    generalize wc.setCell ⟨kb, 2, none⟩ (.int .i64 (wrap64 (wrap64 (held + (lc : Int)) + 1))) = W4 at HB4 HK4 HO4 ⊢
    generalize wrap64 (wrap64 (held + (lc : Int)) + 1) = hd4 at HB4 ⊢
    obtain ⟨E0, hE0⟩ : ∃ E0, E ++ [⟨.slice la ln lc, .slice ca cn cc, xs⟩] = E0 := ⟨_, rfl⟩
    have HS : Hid (KlQ w base kb E0 E0 W4) := by
      rw [← hE0]
      refine ⟨⟨V1, V3, hd4, by simpa using HB4.out⟩, fun x hx => ?_, List.suffix_refl _, HK4.out⟩
      rcases List.mem_append.1 hx with hx | hx
      · have := HE.out x hx
        exact ⟨this.l.ke HB.out.blk HK4.out, this.w.ke HB.out.blk HK4.out, this.sm⟩
      · obtain rfl := List.mem_singleton.1 hx
        exact ⟨HL.out.ke HB.out.blk HK4.out, HO4.out, hsm⟩
    have HFin : Hid (∀ E' w', KlQ w base kb E0 E' w' → E'.length ≤ 4000 → ∃ cv, (∀ k, cv.ownBlock = some k → w.heap.size ≤ k) ∧ ∃ E', KlQ w base kb (E ++ [⟨.slice la ln lc, cv, xs⟩]) E' w' ∧ E'.length ≤ 4000) := fun E' w' hk hl => ⟨.slice ca cn cc, HF3.out, E', by rw [hE0]; exact hk, hl⟩
    clear HB3 HK3 HO3 HF3 HB4 HK4 HO4 HL1 HL HE c2 z2 hE0
    go_loopw [] (fun wr => Hid (∃ E', KlQ w base kb E0 E' wr)) (fun wr => lenM (wr.cell? ⟨kb, 0, none⟩))
    case atStart => exact ⟨E0, HS.out⟩
    case round =>
      obtain ⟨E', hkl⟩ := hrel.out
      obtain ⟨lv', wv', hd', hb'⟩ := hkl.bw
      obtain ⟨a1, b1, rfl⟩ := hb'.lrow.form
      obtain ⟨a2, b2, rfl⟩ := hb'.wrow.form
      simp only [List.length_map] at hb'
      obtain ⟨n, hn⟩ : ∃ n, E'.length = n := ⟨_, rfl⟩
      rw [hn] at hb'
      have HKl := Lib.hid hkl
      have HB' := Lib.hid hb'
      obtain ⟨x0, x1, x2, x3⟩ := hb'.cells
      clear hrel hkl hb' HS HLn HLn2 HBs
      obtain ⟨bb, hbb⟩ : ∃ bb : Bool, bb = (decide (1 < n) && (decide (1000000 < hd') || decide (4000 < n))) := ⟨_, rfl⟩
      go_upto_region 3 with fail
      go_cut [56] (fun y wx => y = .bool bb ∧ wx = wr)
      case first =>
        by_cases h1 : 1 < n
        · have d1 : decide ((1 : Int) < (n : Int)) = true := decide_eq_true (by omega)
          by_cases h2 : 1000000 < hd'
          · have d2 : decide ((1000000 : Int) < hd') = true := decide_eq_true h2
            go_wp2_with fail
            go_meet
            exact ⟨by rw [hbb]; simp [h1, h2], rfl⟩
          · have d2 : decide ((1000000 : Int) < hd') = false := decide_eq_false h2
            by_cases h3 : 4000 < n
            · have d3 : decide ((4000 : Int) < (n : Int)) = true := decide_eq_true (by omega)
              go_wp2_with fail
              go_meet
              exact ⟨by rw [hbb]; simp [h1, h3], rfl⟩
            · have d3 : decide ((4000 : Int) < (n : Int)) = false := decide_eq_false (by omega)
              go_wp2_with fail
              go_meet
              exact ⟨by rw [hbb]; simp [h1, h2, h3], rfl⟩
        · have d1 : decide ((1 : Int) < (n : Int)) = false := decide_eq_false (by omega)
          go_wp2_with fail
          go_meet
          exact ⟨by rw [hbb]; simp [h1], rfl⟩
      case rest =>
        obtain ⟨rfl, hw⟩ := hcut
        have hw := hw.symm
        subst hw
        cases hq : bb with
        | false =>
          have HLe : Hid (E'.length ≤ 4000) := show _ ≤ _ by
            rw [hq] at hbb
            simp only [Bool.false_eq, Bool.and_eq_false_iff, Bool.or_eq_false_iff, decide_eq_false_iff_not] at hbb
            omega
          go_wp2_with fail
          go_end0
          exact ⟨rfl, HFin.out _ _ HKl.out HLe.out⟩
        | true =>
          have hn1 : 1 < n := by
            rw [hq] at hbb
            simp only [Bool.true_eq, Bool.and_eq_true, decide_eq_true_eq] at hbb
            exact hbb.1
          clear hbb
          obtain ⟨e, E2, rfl⟩ : ∃ e E2, E' = e :: E2 := by
            cases E' with
            | nil => simp at hn; omega
            | cons e E2 => exact ⟨e, E2, rfl⟩
          obtain ⟨elv, ewv, exs⟩ := e
          obtain ⟨g1, o1, c1', e1, hc1⟩ := HB'.out.lrow.some_of (by simp)
          obtain ⟨g2, o2, c2', e2, hc2⟩ := HB'.out.wrow.some_of (by simp)
          simp only [List.map_cons, List.length_cons, List.length_map, Value.slice.injEq] at e1 e2 hc1 hc2
          obtain ⟨rfl, hn2, rfl⟩ := e1
          obtain ⟨rfl, -, rfl⟩ := e2
          have y1 := HB'.out.lrow.cell 0 (by simp)
          have y2 := HB'.out.wrow.cell 0 (by simp)
          simp only [Nat.add_zero, List.map_cons, List.getElem_cons_zero] at y1 y2
          have HOk := Lib.hid (HKl.out.ents _ (List.mem_cons_self))
          obtain ⟨pa, pn, pc, hpv⟩ : ∃ pa pn pc, elv = .slice pa pn pc := by
            rcases HOk.out.l.2 with ⟨e, _⟩ | ⟨g, cap, cur, e, _⟩
            · exact ⟨_, _, _, e⟩
            · exact ⟨_, _, _, e⟩
          subst hpv
          obtain ⟨qa, qn, qc, hqv⟩ : ∃ qa qn qc, ewv = .slice qa qn qc := by
            rcases HOk.out.w.2 with ⟨e, _⟩ | ⟨g, cap, cur, e, _⟩
            · exact ⟨_, _, _, e⟩
            · exact ⟨_, _, _, e⟩
          subst hqv
          have HSm : Hid (Calls Try.prog 12 #[.slice pa pn pc, .slice qa qn qc] wr.drew fun e w' => e = .returned (.bool true) ∧ (w'.cell? ⟨kb, 0, none⟩ = some (.slice (some ⟨g1, o1, none⟩) n b1) ∧ w'.cell? ⟨kb, 1, none⟩ = some (.slice (some ⟨g2, o2, none⟩) n b2) ∧ w'.cell? ⟨kb, 3, none⟩ = some (.bool false) ∧ w'.cell? ⟨g1, o1, none⟩ = some (.slice pa pn pc) ∧ w'.cell? ⟨g2, o2, none⟩ = some (.slice qa qn qc)) ∧ w'.frozen? ⟨kb, 3, none⟩ = false ∧ Hid (Keeps (fun _ => False) wr w') ∧ Hid ((w'.setCell ⟨kb, 3, none⟩ (.bool false)).cell? ⟨kb, 0, none⟩ = some (.slice (some ⟨g1, o1, none⟩) n b1) ∧ (w'.setCell ⟨kb, 3, none⟩ (.bool false)).cell? ⟨kb, 1, none⟩ = some (.slice (some ⟨g2, o2, none⟩) n b2) ∧ (w'.setCell ⟨kb, 3, none⟩ (.bool false)).cell? ⟨kb, 3, none⟩ = some (.bool false) ∧ (w'.setCell ⟨kb, 3, none⟩ (.bool false)).cell? ⟨g1, o1, none⟩ = some (.slice pa pn pc) ∧ (w'.setCell ⟨kb, 3, none⟩ (.bool false)).cell? ⟨g2, o2, none⟩ = some (.slice qa qn qc)) ∧ Hid (BwQ (w'.setCell ⟨kb, 3, none⟩ (.bool false)) base kb (.slice (some ⟨g1, o1, none⟩) n b1) (.slice (some ⟨g2, o2, none⟩) n b2) hd' (.slice pa pn pc :: E2.map EntQ.lv) (.slice qa qn qc :: E2.map EntQ.wv))) := by
            refine (sameQ_any (w := wr.drew) HOk.out.l HOk.out.w HOk.out.sm).mono ?_
            rintro e w' ⟨rfl, hb⟩
            have k : Keeps (fun _ => False) wr w' := (keeps_drew0 wr).trans (Keeps.of_below hb) (fun _ _ e => e)
            have b := HB'.out.keeps0 k
            have c : ∀ g i v, wr.cell? ⟨g, i, none⟩ = some v → w'.cell? ⟨g, i, none⟩ = some v := fun g i v hc => (World.cell?_of_block (a := ⟨g, i, none⟩) (k.block g (World.block_lt_of_cell? wr _ hc) id)).trans hc
            have b2 : BwQ (w'.setCell ⟨kb, 3, none⟩ (.bool false)) base kb (.slice (some ⟨g1, o1, none⟩) n b1) (.slice (some ⟨g2, o2, none⟩) n b2) hd' (.slice pa pn pc :: E2.map EntQ.lv) (.slice qa qn qc :: E2.map EntQ.wv) := b.put rfl b.lrow b.wrow b.ne b.kb_ne
            have y1' := b2.lrow.cell 0 (by simp)
            have y2' := b2.wrow.cell 0 (by simp)
            exact ⟨rfl, ⟨b.cells.1, b.cells.2.1, b.cells.2.2.2, c _ _ _ y1, c _ _ _ y2⟩, b.thawed 3, k, ⟨b2.cells.1, b2.cells.2.1, b2.cells.2.2.2, y1', y2'⟩, b2⟩
          have hn0 : (0 : Int) < (n : Int) := by omega
          go_upto_region 4 with fail
          go_cut [] (fun wx => Hid (BwQ wx base kb (.slice (some ⟨g1, o1, none⟩) n b1) (.slice (some ⟨g2, o2, none⟩) n b2) hd' (.slice pa pn pc :: E2.map EntQ.lv) (.slice qa qn qc :: E2.map EntQ.wv) ∧ KeQ base kb wr wx))
          case first =>
            go_region_held3 (fun w' => w'.cell? ⟨kb, 0, none⟩ = some (.slice (some ⟨g1, o1, none⟩) n b1) ∧ w'.cell? ⟨kb, 1, none⟩ = some (.slice (some ⟨g2, o2, none⟩) n b2) ∧ w'.cell? ⟨kb, 3, none⟩ = some (.bool false) ∧ w'.cell? ⟨g1, o1, none⟩ = some (.slice pa pn pc) ∧ w'.cell? ⟨g2, o2, none⟩ = some (.slice qa qn qc)) (first | (exact HZ5.out) | go_keep) (first | (go_at_call 12; refine HSm.out.mono ?_; rintro e w5 ⟨rfl, ⟨k0, k1, k3, k4, k5⟩, zf, HK5, HZ5, HB5⟩))
            all_goals
              go_wp2_with fail
              go_meet
              exact ⟨HB5.out, KeQ.trans (HK5.out.mono (fun _ _ e => e.elim)) (KeQ.set base kb w5 3 _)⟩
          case rest =>
            have HB6 := Lib.hid hcut.out.1
            have HK6 := Lib.hid hcut.out.2
            clear hcut x0 x1 x2 x3 y1 y2 HSm
            obtain ⟨x0, x1, x2, x3⟩ := HB6.out.cells
            have z2 := HB6.out.thawed 2
            have y1 := HB6.out.lrow.cell 0 (by simp)
            simp only [Nat.add_zero, List.getElem_cons_zero] at y1
            go_upto_region 5 with fail
            go_cut [] (fun wx => Hid (∃ hd7, BwQ wx base kb (.slice (some ⟨g1, o1, none⟩) n b1) (.slice (some ⟨g2, o2, none⟩) n b2) hd7 (.slice pa pn pc :: E2.map EntQ.lv) (.slice qa qn qc :: E2.map EntQ.wv) ∧ KeQ base kb wr wx))
            case first =>
              go_region
              all_goals
                go_wp2_with fail
                go_meet
                exact ⟨_, (HB6.out.put (i := 2) rfl HB6.out.lrow HB6.out.wrow HB6.out.ne HB6.out.kb_ne).keeps0 (keeps_drew0 _), (HK6.out.trans (KeQ.set base kb _ 2 _)).drew⟩
            case rest =>
              obtain ⟨hd7, hb7, hk7⟩ := hcut.out
              have HB7 := Lib.hid hb7
              have HK7 := Lib.hid hk7
              clear hcut x0 x1 x2 x3 y1 z2 hb7 hk7 HB6 HK6
              obtain ⟨x0, x1, x2, x3⟩ := HB7.out.cells
              have z0 := HB7.out.thawed 0
              have z1 := HB7.out.thawed 1
              have hnb1 : n ≤ b1 := by omega
              have hnb2 : n ≤ b2 := by omega
              have hi1 : (1 : Int) ≤ (n : Int) := by omega
              have hi2 : (n : Int) ≤ (b1 : Int) := by omega
              have hi3 : (n : Int) ≤ (b2 : Int) := by omega
              go_wp2_with fail
              have hlen2 : (E2.map EntQ.lv).length = E2.length := List.length_map _
              have hlen3 : (E2.map EntQ.wv).length = E2.length := List.length_map _
              have t1 := HB7.out.lrow.tail
              have t2 := HB7.out.wrow.tail
              rw [hlen2] at t1
              rw [hlen3] at t2
              have b8 : BwQ (wc.setCell ⟨kb, 0, none⟩ (.slice (some ⟨g1, o1 + 1, none⟩) E2.length (b1 - 1))) base kb (.slice (some ⟨g1, o1 + 1, none⟩) E2.length (b1 - 1)) (.slice (some ⟨g2, o2, none⟩) n b2) hd7 (E2.map EntQ.lv) (.slice qa qn qc :: E2.map EntQ.wv) := HB7.out.put rfl t1 HB7.out.wrow (fun k hk => HB7.out.ne k hk) HB7.out.kb_ne
              have t3 := b8.wrow.tail
              rw [hlen3] at t3
              have b9 : BwQ ((wc.setCell ⟨kb, 0, none⟩ (.slice (some ⟨g1, o1 + 1, none⟩) E2.length (b1 - 1))).setCell ⟨kb, 1, none⟩ (.slice (some ⟨g2, o2 + 1, none⟩) E2.length (b2 - 1))) base kb (.slice (some ⟨g1, o1 + 1, none⟩) E2.length (b1 - 1)) (.slice (some ⟨g2, o2 + 1, none⟩) E2.length (b2 - 1)) hd7 (E2.map EntQ.lv) (E2.map EntQ.wv) := b8.put rfl b8.lrow t3 (fun k hk => b8.ne k hk) b8.kb_ne
              have k9 : KeQ base kb wr ((wc.setCell ⟨kb, 0, none⟩ (.slice (some ⟨g1, o1 + 1, none⟩) E2.length (b1 - 1))).setCell ⟨kb, 1, none⟩ (.slice (some ⟨g2, o2 + 1, none⟩) E2.length (b2 - 1))) := (HK7.out.trans (KeQ.set base kb wc 0 _)).trans (KeQ.set base kb _ 1 _)
              refine ⟨⟨E2, ⟨_, _, _, b9⟩, fun x hx => ?_, (List.suffix_cons _ _).trans HKl.out.suf, HKl.out.ke.trans k9⟩, ?_⟩
              · have := HKl.out.ents x (List.mem_cons_of_mem _ hx)
                exact ⟨this.l.ke HB'.out.blk k9, this.w.ke HB'.out.blk k9, this.sm⟩
              · rw [b9.cells.1, HB'.out.cells.1]
                show E2.length < n
                omega
end Go.Proofs.Ytkhlkbgolonkkaa
/- Book[bulkhead/api.Slot].Stays. Own work. -/
namespace Go.Proofs.Ytkhlkbgolonkkaa
open Go.RowKit
theorem EntQ.slices {w : World} {base : Nat} {x : EntQ} (h : x.ok w base) : (∃ a n c, x.lv = .slice a n c) ∧ ∃ a n c, x.wv = .slice a n c := by
  refine ⟨?_, ?_⟩
  · rcases h.l.2 with ⟨e, _⟩ | ⟨g, cap, cur, e, _⟩
    · exact ⟨_, _, _, e⟩
    · exact ⟨_, _, _, e⟩
  · rcases h.w.2 with ⟨e, _⟩ | ⟨g, cap, cur, e, _⟩
    · exact ⟨_, _, _, e⟩
    · exact ⟨_, _, _, e⟩
theorem Keeps.keQ {base kb : Nat} {w w' : World} (h : Keeps (fun k => k = kb) w w') : KeQ base kb w w' := h.mono (fun _ _ e => .inl e)
set_option maxRecDepth 100000 in
set_option maxHeartbeats 4000000 in
theorem staysQ_any {w : World} {base kb : Nat} {lv wv : Value} {held : Int} {E : List EntQ} (h : BwQ w base kb lv wv held (E.map EntQ.lv) (E.map EntQ.wv)) (he : ∀ x ∈ E, x.ok w base) (hlen : E.length ≤ 4000) :
    Calls Try.prog 31 #[.pointer (some ⟨kb, 0, none⟩)] w fun e w' => e = .returned (.bool true) ∧ BwQ w' base kb lv wv held (E.map EntQ.lv) (E.map EntQ.wv) ∧ Keeps (fun k => k = kb) w w' := by
  obtain ⟨a1, b1, rfl⟩ := h.lrow.form
  obtain ⟨a2, b2, rfl⟩ := h.wrow.form
  simp only [List.length_map] at h ⊢
  obtain ⟨n, hn⟩ : ∃ n, E.length = n := ⟨_, rfl⟩
  rw [hn] at h hlen ⊢
  have HB := Lib.hid h
  have HE : Hid (∀ x ∈ E, x.ok w base) := he
  clear h he
  go_enter Try.func31, Try.ntmps31
  go_wp2_with fail
  go_loopw [3] (fun i wr => ∃ j : Nat, j ≤ n ∧ i = .int .i64 (j : Int) ∧ Hid (BwQ wr base kb (.slice a1 n b1) (.slice a2 n b2) held (E.map EntQ.lv) (E.map EntQ.wv) ∧ Keeps (fun k => k = kb) w wr)) (fun i _ => n - (intOf i).toNat)
  case atStart => exact ⟨0, by omega, rfl, HB.out, Keeps.refl _ _⟩
  case round =>
    obtain ⟨j, hj, rfl, HR⟩ := hrel
    have HB1 := Lib.hid HR.out.1
    have HK1 : Hid (Keeps (fun k => k = kb) w wr) := HR.out.2
    obtain ⟨x0, x1, x2, x3⟩ := HB1.out.cells
    clear HR
    by_cases hjn : j < n
    · have d1 : decide ((j : Int) < (n : Int)) = true := decide_eq_true (by omega)
      have ji : (j : Int) < (n : Int) := by omega
      have hw1 : IntKind.i64.wrap ((j : Int) + 1) = ((j + 1 : Nat) : Int) := by rw [IntKind.wrap_i64]; omega
      obtain ⟨g1, o1, c1', e1, hc1⟩ := HB1.out.lrow.some_of (by rw [List.length_map]; omega)
      obtain ⟨g2, o2, c2', e2, hc2⟩ := HB1.out.wrow.some_of (by rw [List.length_map]; omega)
      simp only [List.length_map, Value.slice.injEq] at e1 e2 hc1 hc2
      obtain ⟨rfl, -, rfl⟩ := e1
      rw [hn] at hc1 hc2
      obtain ⟨rfl, -, rfl⟩ := e2
      have y1 := HB1.out.lrow.cell j (by rw [List.length_map]; omega)
      have y2 := HB1.out.wrow.cell j (by rw [List.length_map]; omega)
      rw [List.getElem_map] at y1 y2
      have hok := HE.out E[j] (List.getElem_mem _)
      obtain ⟨⟨pa, pn, pc, hp⟩, qa, qn, qc, hq⟩ := EntQ.slices hok
      have HOl : Hid (OwnS w base (.slice pa pn pc) E[j].xs) := hp ▸ hok.l
      have HOw : Hid (OwnS w base (.slice qa qn qc) E[j].xs) := hq ▸ hok.w
      have HSmz : Hid (SmQ E[j].xs) := hok.sm
      rw [hp] at y1
      rw [hq] at y2
      generalize E[j].xs = exs at HOl HOw HSmz
      clear hok hp hq
      have HN : Hid (E.length = n) := hn
      clear hn
      have HSm : Hid (Calls Try.prog 12 #[.slice pa pn pc, .slice qa qn qc] wr.drew fun e w' => e = .returned (.bool true) ∧ (w'.cell? ⟨kb, 0, none⟩ = some (.slice (some ⟨g1, o1, none⟩) n b1) ∧ w'.cell? ⟨kb, 1, none⟩ = some (.slice (some ⟨g2, o2, none⟩) n b2) ∧ w'.cell? ⟨kb, 3, none⟩ = some (.bool false) ∧ w'.cell? ⟨g1, o1 + j, none⟩ = some (.slice pa pn pc) ∧ w'.cell? ⟨g2, o2 + j, none⟩ = some (.slice qa qn qc)) ∧ w'.frozen? ⟨kb, 3, none⟩ = false ∧ Hid (Keeps (fun _ => False) wr w') ∧ Hid ((w'.setCell ⟨kb, 3, none⟩ (.bool false)).cell? ⟨kb, 0, none⟩ = some (.slice (some ⟨g1, o1, none⟩) n b1) ∧ (w'.setCell ⟨kb, 3, none⟩ (.bool false)).cell? ⟨kb, 1, none⟩ = some (.slice (some ⟨g2, o2, none⟩) n b2) ∧ (w'.setCell ⟨kb, 3, none⟩ (.bool false)).cell? ⟨kb, 3, none⟩ = some (.bool false) ∧ (w'.setCell ⟨kb, 3, none⟩ (.bool false)).cell? ⟨g1, o1 + j, none⟩ = some (.slice pa pn pc) ∧ (w'.setCell ⟨kb, 3, none⟩ (.bool false)).cell? ⟨g2, o2 + j, none⟩ = some (.slice qa qn qc)) ∧ Hid (BwQ (w'.setCell ⟨kb, 3, none⟩ (.bool false)) base kb (.slice (some ⟨g1, o1, none⟩) n b1) (.slice (some ⟨g2, o2, none⟩) n b2) held (E.map EntQ.lv) (E.map EntQ.wv))) := by
        refine (sameQ_any (w := wr.drew) (HOl.out.ke HB.out.blk (HK1.out.keQ (base := base)).drew) (HOw.out.ke HB.out.blk (HK1.out.keQ (base := base)).drew) HSmz.out).mono ?_
        rintro e w' ⟨rfl, hb⟩
        have k : Keeps (fun _ => False) wr w' := (keeps_drew0 wr).trans (Keeps.of_below hb) (fun _ _ e => e)
        have b := HB1.out.keeps0 k
        have c : ∀ g i v, wr.cell? ⟨g, i, none⟩ = some v → w'.cell? ⟨g, i, none⟩ = some v := fun g i v hc => (World.cell?_of_block (a := ⟨g, i, none⟩) (k.block g (World.block_lt_of_cell? wr _ hc) id)).trans hc
        have b2 : BwQ (w'.setCell ⟨kb, 3, none⟩ (.bool false)) base kb (.slice (some ⟨g1, o1, none⟩) n b1) (.slice (some ⟨g2, o2, none⟩) n b2) held (E.map EntQ.lv) (E.map EntQ.wv) := b.put rfl b.lrow b.wrow b.ne b.kb_ne
        have n1 : g1 ≠ kb := fun e => b.kb_ne.1 (by rw [← e]; rfl)
        have n2 : g2 ≠ kb := fun e => b.kb_ne.2 (by rw [← e]; rfl)
        exact ⟨rfl, ⟨b.cells.1, b.cells.2.1, b.cells.2.2.2, c _ _ _ y1, c _ _ _ y2⟩, b.thawed 3, k, ⟨b2.cells.1, b2.cells.2.1, b2.cells.2.2.2, (World.cell?_of_block (a := ⟨g1, o1 + j, none⟩) (Below.heap_setCell _ _ _ _ n1)).trans (c _ _ _ y1), (World.cell?_of_block (a := ⟨g2, o2 + j, none⟩) (Below.heap_setCell _ _ _ _ n2)).trans (c _ _ _ y2)⟩, b2⟩
      go_wp2_with fail
      go_region_held3 (fun w' => w'.cell? ⟨kb, 0, none⟩ = some (.slice (some ⟨g1, o1, none⟩) n b1) ∧ w'.cell? ⟨kb, 1, none⟩ = some (.slice (some ⟨g2, o2, none⟩) n b2) ∧ w'.cell? ⟨kb, 3, none⟩ = some (.bool false) ∧ w'.cell? ⟨g1, o1 + j, none⟩ = some (.slice pa pn pc) ∧ w'.cell? ⟨g2, o2 + j, none⟩ = some (.slice qa qn qc)) (first | (exact HZ5.out) | go_keep) (first | (go_at_call 12; refine HSm.out.mono ?_; rintro e w5 ⟨rfl, ⟨k0, k1, k3, k4, k5⟩, zf, HK5, HZ5, HB5⟩))
      all_goals
        have HF : Hid (Keeps (fun k => k = kb) w (w5.setCell ⟨kb, 3, none⟩ (.bool false))) := (HK1.out.trans HK5.out (fun _ _ e => e.elim)).trans (Keeps.setCell w5 kb 3 _) (fun _ _ e => e)
        go_wp2_with fail
        go_roundw
        case rel => exact ⟨j + 1, by omega, rfl, HB5.out, HF.out⟩
        case measure => simp [intOf]; omega
    · have d1 : decide ((j : Int) < (n : Int)) = false := decide_eq_false (by omega)
      go_wp2_with fail
      go_ret
      exact ⟨rfl, HB1.out, HK1.out⟩
end Go.Proofs.Ytkhlkbgolonkkaa
/- Books of slots: Apart (written by parts/gen_tka.py off BkApart). Own work. -/
namespace Go.Proofs.Ytkhlkbgolonkkaa
open Go.RowKit Go.Shelf
/-- no two of the lists lie in one block -/
def DisQ (E : List EntQ) : Prop := ∀ i i' (h : i < E.length) (h' : i' < E.length), i ≠ i' → ∀ g n c g' n' c', E[i].lv = .slice (some ⟨g, 0, none⟩) n c → E[i'].lv = .slice (some ⟨g', 0, none⟩) n' c' → g ≠ g'
theorem keeps_cells (b : Nat) : ∀ (vs : List Value) (o : Nat) (w : World), Keeps (fun k => k = b) w (w.setCells b o vs)
  | [], _, w => Keeps.refl _ w
  | v :: r, o, w => (Keeps.setCell w b o v).trans (keeps_cells b r (o + 1) _) (fun _ _ h => h)
/-- a mark -/
def mkQ (k a : Int) : Array Value := #[.string ⟨#[]⟩, .int .i64 k, .int .i64 a]
theorem mkQ_one (k a : Int) : (mkQ k a).all (·.oneCell') = true := by kernel_rfl
theorem same_mk (w : World) (k a : Int) : (Op.equalIn 10000 37 (.agg (mkQ k a)) (.agg (mkQ k a))).run Try.prog w = .ok true w := by
  have u1 := Try.underlying3
  have a1 := Try.isAgg3
  have z1 := Try.sizeOf3
  have u := Try.underlying22
  have a2 := Try.isAgg22
  have z := Try.sizeOf22
  have u3 := Try.underlying9
  have a3 := Try.isAgg9
  have z3 := Try.sizeOf9
  have hS : Try.prog.underlying 37 = some (.struct (Try.prog.fieldsOf 37)) := by kernel_rfl
  have hp : Try.prog.stoodInHeld 37 = false := by kernel_rfl
  rw [mkQ, show (10000 : Nat) = 9999 + 1 from rfl, run_equalIn_agg w 9999 37 _ _ hS hp]
  simp only [Program.fieldsOf, Try.underlying37]
  go_simp
theorem neq_mk (w : World) (k a : Int) : (binOp .neq 37 (.agg (mkQ k a)) (.agg (mkQ k a))).run Try.prog w = .ok (.bool false) w := by
  have := same_mk w k a
  rw [mkQ] at *
  rw [run_neq_struct, this]
  rfl
theorem neq_exec {o : Oper} {a : Act} {w : World} {x y : Operand} {t' : TypeId} {k b : Int} (ho : o.op = .binOp .neq 37 x y t') (hx : a.eval x = .agg (mkQ k b)) (hy : a.eval y = .agg (mkQ k b)) : (execOp a.eval o).run Try.prog w = .ok (.value (.bool false)) w := by
  have hg : (eqGuard .neq 37 x y (.agg (mkQ k b)) (.agg (mkQ k b))).run Try.prog w = .ok () w := run_eqGuard_agg w _ _ _ _ _ _ guard_sl
  unfold execOp
  simp only [ho, hx, hy, Sem.run_bind, Sem.run_pure, Result.andThen_ok, hg, neq_mk]
theorem info_sq : (Try.prog.info? 37).map (·.size) = some 3 := by kernel_rfl
/-- one of the operations that may come next: a call of a func value -/
theorem readyEnterQ {P : Program} {md : Region.Mode} {ops : Array Oper} {Q : Exit → Act → World → Prop} {S : World → Prop} {i d : Nat} {o : Oper} {fuel : Nat} {listed : Array Bool} {a : Act} {w : World} {rs : List Nat} (hi : ops[i]? = some o) (hd : o.dst = some d) (hw : Region.wanted o (yielded ops a.tmps) = true)
    (f : FuncId) (args : Array Value) (hv : (execOp a.eval o).run P w = .ok (.enter f args) w) {R : Value → World → Prop}
    (hc : Calls P f args w fun e w' => ∃ v, e = .returned v ∧ R v w') (hS : ∀ v w', R v w' → S w') (hK : ∀ v w', R v w' → S w' → wpAnyH P md ops Q S fuel (listed.setIfInBounds i true) (a.put (some d) v) w') (hs : AllReadyH P md ops Q S fuel listed a w rs) : AllReadyH P md ops Q S fuel listed a w (i :: rs) := by
  rw [← hd] at hK
  refine AllReadyH.cons hi (fun K hK' => ?_) hs
  rw [if_pos hw]
  unfold Oper.wp
  rw [hv, Oper.upon_enter]
  refine hc.mono ?_
  rintro e w' ⟨v, rfl, h⟩
  exact hK'.out _ _ (hS v w' h) (hK v w' h)
/-- the lists ahead of i are written full, of the list i the places ahead of j -/
structure WtQ (w : World) (E : List EntQ) (m : Nat → Nat → Int × Int) (i j : Nat) (wr : World) : Prop where
  keeps : Keeps (fun k => ∃ e ∈ E, e.lv.ownBlock = some k) w wr
  there : ∀ e ∈ E, ∀ g n c, e.lv = .slice (some ⟨g, 0, none⟩) n c → wr.there g 0 (c * 3)
  done : ∀ i' (h : i' < E.length), i' < i → ∀ g n c, E[i'].lv = .slice (some ⟨g, 0, none⟩) n c → ∀ jj, jj < c → wr.rangeAt g (jj * 3) (mkQ (m i' jj).1 (m i' jj).2).toList
  part : ∀ (h : i < E.length) g n c, E[i].lv = .slice (some ⟨g, 0, none⟩) n c → ∀ jj, jj < j → jj < c → wr.rangeAt g (jj * 3) (mkQ (m i jj).1 (m i jj).2).toList
theorem WtQ.start {w w0 : World} {base : Nat} {E : List EntQ} {m : Nat → Nat → Int × Int} (he : ∀ x ∈ E, x.ok w base) (hk : Keeps (fun _ => False) w w0) : WtQ w0 E m 0 0 w0 := by
  refine ⟨Keeps.refl _ _, fun e hm g n c hv => ?_, fun i' _ h => by omega, fun _ _ _ _ _ _ h => by omega⟩
  have ho := (he e hm).l.keeps hk (fun _ _ => id)
  rw [hv] at ho
  rcases ho.2 with ⟨h, _⟩ | ⟨g', cap, cur, h, hb, hg, hl, hmx, hs, ht⟩
  · simp at h
  · simp only [Value.slice.injEq, Option.some.injEq, Addr.mk.injEq, and_true] at h
    obtain ⟨rfl, -, rfl⟩ := h
    intro j hj
    refine ⟨?_, by simp [World.frozen?, hg]⟩
    rw [cell_of_row _ _ _ _ _ _ hg, Nat.zero_add, Array.getElem?_eq_getElem (by omega)]
    rfl
theorem WtQ.room {w wr : World} {E : List EntQ} {m : Nat → Nat → Int × Int} {i j g n c jj : Nat} (h : WtQ w E m i j wr) (hi : i < E.length) (e : E[i].lv = .slice (some ⟨g, 0, none⟩) n c) (hj : jj < c) : wr.there g (jj * 3) 3 := fun q hq => by
  have := h.there E[i] (List.getElem_mem _) g n c e (jj * 3 + q) (by omega)
  rwa [Nat.zero_add] at this
theorem WtQ.step {w wr : World} {E : List EntQ} {m : Nat → Nat → Int × Int} {i j g n c : Nat} (h : WtQ w E m i j wr) (hi : i < E.length) (e : E[i].lv = .slice (some ⟨g, 0, none⟩) n c) (hj : j < c) (hd : DisQ E) : WtQ w E m i (j + 1) (wr.setCells g (j * 3) (mkQ (m i j).1 (m i j).2).toList) := by
  refine ⟨h.keeps.trans (keeps_cells g _ _ _) (fun k _ hk => ⟨E[i], List.getElem_mem _, by rw [e, hk]; rfl⟩), fun x hm g' n' c' hv => World.there_setCells (h.there x hm g' n' c' hv) _ _ _, fun i' h' hlt g' n' c' hv jj hjj => ?_, fun h' g' n' c' hv jj hjj hjc => ?_⟩
  · have hne : g' ≠ g := hd i' i h' hi (by omega) g' n' c' g n c hv e
    exact World.rangeAt_setCells_apart (h.done i' h' hlt g' n' c' hv jj hjj) _ _ _ (.inl hne)
  · rw [e] at hv
    simp only [Value.slice.injEq, Option.some.injEq, Addr.mk.injEq, and_true] at hv
    obtain ⟨rfl, -, rfl⟩ := hv
    by_cases hq : jj = j
    · subst hq
      exact World.rangeAt_setCells_same _ _ _ _ (h.room hi e hj)
    · exact World.rangeAt_setCells_apart (h.part h' _ _ _ e jj (by omega) hjc) _ _ _ (.inr (by
        have e1 : (mkQ (m i jj).1 (m i jj).2).toList.length = 3 := rfl
        have e2 : (mkQ (m i j).1 (m i j).2).toList.length = 3 := rfl
        rw [e1, e2]
        omega))
theorem WtQ.drew {w wr : World} {E : List EntQ} {m : Nat → Nat → Int × Int} {i j : Nat} (h : WtQ w E m i j wr) : WtQ w E m i j wr.drew := ⟨h.keeps.drew, fun e he g n c hv => (World.there_drew _ _ _ _).2 (h.there e he g n c hv), fun i' h' hl g n c hv jj hj => (World.rangeAt_drew _ _ _ _).2 (h.done i' h' hl g n c hv jj hj), fun h' g n c hv jj hj hc => (World.rangeAt_drew _ _ _ _).2 (h.part h' g n c hv jj hj hc)⟩
theorem cell_ext {w w' : World} (k : Keeps (fun _ => False) w w') {g i : Nat} {v : Value} (h : w.cell? ⟨g, i, none⟩ = some v) : w'.cell? ⟨g, i, none⟩ = some v := (World.cell?_of_block (a := ⟨g, i, none⟩) (k.block g (World.block_lt_of_cell? w _ h) id)).trans h
theorem range_ext {w w' : World} {g o : Nat} {cs : List Value} (h : w.rangeAt g o cs) (k : Keeps (fun _ => False) w w') : w'.rangeAt g o cs := fun j v hv => cell_ext k (h j v hv)
theorem there_ext {w w' : World} {g o n : Nat} (h : w.there g o n) (k : Keeps (fun _ => False) w w') : w'.there g o n := fun j hj => by
  obtain ⟨h1, h2⟩ := h j hj
  obtain ⟨u, hu⟩ := Option.isSome_iff_exists.1 h1
  exact ⟨by rw [cell_ext k hu]; rfl, (World.frozen?_of_block (a := ⟨g, o + j, none⟩) (k.block g (World.block_lt_of_cell? w _ hu) id)).trans h2⟩
theorem WtQ.ext {w wr w9 : World} {E : List EntQ} {m : Nat → Nat → Int × Int} {i j : Nat} (h : WtQ w E m i j wr) (k : Keeps (fun _ => False) wr w9) : WtQ w E m i j w9 :=
  ⟨h.keeps.trans k (fun _ _ e => e.elim), fun e he g n c hv => there_ext (h.there e he g n c hv) k, fun i' h' hl g n c hv jj hj => range_ext (h.done i' h' hl g n c hv jj hj) k, fun h' g n c hv jj hj hc => range_ext (h.part h' g n c hv jj hj hc) k⟩
theorem WtQ.next {w wr : World} {E : List EntQ} {m : Nat → Nat → Int × Int} {i j : Nat} (h : WtQ w E m i j wr) (hc : ∀ (hi : i < E.length) g n c, E[i].lv = .slice (some ⟨g, 0, none⟩) n c → c ≤ j) : WtQ w E m (i + 1) 0 wr := by
  refine ⟨h.keeps, h.there, fun i' h' hlt g n c hv jj hjj => ?_, fun _ _ _ _ _ _ h => by omega⟩
  by_cases hq : i' = i
  · subst hq
    exact h.part h' g n c hv jj (Nat.lt_of_lt_of_le hjj (hc h' g n c hv)) hjj
  · exact h.done i' h' (by omega) g n c hv jj hjj
/-- the book stands where its lists are written -/
theorem BwQ.wt {w wr : World} {base kb : Nat} {lv wv : Value} {held : Int} {E : List EntQ} {m : Nat → Nat → Int × Int} {i j : Nat} (h : BwQ w base kb lv wv held (E.map EntQ.lv) (E.map EntQ.wv)) (he : ∀ x ∈ E, x.ok w base) (k : WtQ w E m i j wr) : BwQ wr base kb lv wv held (E.map EntQ.lv) (E.map EntQ.wv) := by
  have tg : ∀ q, (∃ e ∈ E, e.lv.ownBlock = some q) → ∃ cur, w.heap[q]? = some (.cells cur 37 (0, 0)) := fun q ⟨e, hm, hq⟩ => (he e hm).l.tagB q hq
  refine ⟨(k.keeps.block kb h.lt (fun hs => ?_)).trans h.blk, h.lrow.keeps k.keeps (fun q hq hs => ?_), h.wrow.keeps k.keeps (fun q hq hs => ?_), h.ne⟩
  · obtain ⟨c, hc⟩ := tg _ hs
    rw [h.blk] at hc
    simp at hc
  · obtain ⟨c, hc⟩ := tg _ hs
    obtain ⟨d, hd⟩ := h.lrow.tag q hq
    rw [hd] at hc
    simp at hc
  · obtain ⟨c, hc⟩ := tg _ hs
    obtain ⟨d, hd⟩ := h.wrow.tag q hq
    rw [hd] at hc
    simp at hc
set_option maxRecDepth 100000 in
set_option maxHeartbeats 4000000 in
theorem apartQ_any {w : World} {base kb fm : Nat} {lv wv : Value} {held : Int} {E : List EntQ} {m : Nat → Nat → Int × Int} (h : BwQ w base kb lv wv held (E.map EntQ.lv) (E.map EntQ.wv)) (he : ∀ x ∈ E, x.ok w base) (hlen : E.length ≤ 4000) (hd : DisQ E) (hen : Enters Try.prog fm)
    (hm : ∀ (i j : Nat) (w : World), i ≤ 4000 → j < maxLen → Calls Try.prog fm #[.int .i64 (i : Int), .int .i64 (j : Int)] w fun e w' => e = .returned (.agg (mkQ (m i j).1 (m i j).2)) ∧ Keeps (fun _ => False) w w') :
    Calls Try.prog 14 #[.pointer (some ⟨kb, 0, none⟩), .func (.func fm) #[] #[]] w fun e w' => e = .returned (.bool true) ∧ Keeps (fun k => k = kb ∨ ∃ e ∈ E, e.lv.ownBlock = some k) w w' := by
  have HSt := Lib.hid (staysQ_any h he hlen)
  have HE : Hid (∀ x ∈ E, x.ok w base) := he
  have HBw := Lib.hid h
  have HD : Hid (DisQ E) := hd
  have HM : Hid (∀ (i j : Nat) (w : World), i ≤ 4000 → j < maxLen → Calls Try.prog fm #[.int .i64 (i : Int), .int .i64 (j : Int)] w fun e w' => e = .returned (.agg (mkQ (m i j).1 (m i j).2)) ∧ Keeps (fun _ => False) w w') := hm
  have he' : ∀ (args : Array Value) (w : World), (callFunc fm args).run Try.prog w = .ok (.enter fm args) w := hen
  clear h he hd hm
  go_enter Try.func14, Try.ntmps14
  go_wp2_with fail
  refine HSt.out.mono ?_
  rintro e w1 ⟨rfl, hb1, hk1⟩
  obtain ⟨a1, b1, rfl⟩ := hb1.lrow.form
  obtain ⟨a2, b2, rfl⟩ := hb1.wrow.form
  simp only [List.length_map] at hb1
  obtain ⟨n, hn⟩ : ∃ n, E.length = n := ⟨_, rfl⟩
  rw [hn] at hb1 hlen
  have HN : Hid (E.length = n) := hn
  have HB1 := Lib.hid hb1
  have HK1 : Hid (Keeps (fun k => k = kb) w w1) := hk1
  have HE1 : Hid (∀ x ∈ E, x.ok w1 base) := fun x hx => by
    have := HE.out x hx
    exact ⟨this.l.ke HBw.out.blk (hk1.keQ (base := base)), this.w.ke HBw.out.blk (hk1.keQ (base := base)), this.sm⟩
  have HF : Hid (∀ (i : Nat), i < n → ∃ pa pn pc, (E.map EntQ.lv)[i]? = some (.slice pa pn pc) ∧ ((pa = none ∧ pn = 0 ∧ pc = 0 ∧ ∀ h : i < E.length, E[i].lv = .slice none 0 0) ∨ ∃ g, pa = some ⟨g, 0, none⟩ ∧ ∃ h : i < E.length, E[i].lv = .slice (some ⟨g, 0, none⟩) pn pc ∧ pn ≤ pc ∧ pc ≤ maxLen)) := fun i hi => by
    have hi' : i < E.length := by rw [HN.out]; exact hi
    rw [List.getElem?_map, List.getElem?_eq_getElem hi']
    rcases (HE1.out E[i] (List.getElem_mem _)).l.2 with ⟨e, _⟩ | ⟨g, cap, cur, e, hb, hg, h1, h2, _⟩
    · exact ⟨none, 0, 0, by rw [← e]; rfl, .inl ⟨rfl, rfl, rfl, fun _ => e⟩⟩
    · exact ⟨some ⟨g, 0, none⟩, _, cap, by rw [← e]; rfl, .inr ⟨g, rfl, hi', e, h1, h2⟩⟩
  clear hb1 hk1 hn HSt
  go_wp2_with fail
  go_loopw [5] (fun i wr => ∃ j : Nat, j ≤ n ∧ i = .int .i64 (j : Int) ∧ Hid (WtQ w1 E m j 0 wr)) (fun i _ => n - (intOf i).toNat)
  case atStart => exact ⟨0, by omega, rfl, WtQ.start HE1.out (Keeps.refl _ _)⟩
  case round =>
    obtain ⟨i, hi, rfl, HW⟩ := hrel
    have HB2 : Hid (BwQ wr base kb (.slice a1 n b1) (.slice a2 n b2) held (E.map EntQ.lv) (E.map EntQ.wv)) := HB1.out.wt HE1.out HW.out
    obtain ⟨x0, x1, x2, x3⟩ := HB2.out.cells
    by_cases hin : i < n
    · have d1 : decide ((i : Int) < (n : Int)) = true := decide_eq_true (by omega)
      have ji : (i : Int) < (n : Int) := by omega
      have hw1 : IntKind.i64.wrap ((i : Int) + 1) = ((i + 1 : Nat) : Int) := by rw [IntKind.wrap_i64]; omega
      obtain ⟨g1, o1, c1', e1, hc1⟩ := HB2.out.lrow.some_of (by rw [List.length_map, HN.out]; omega)
      simp only [List.length_map, Value.slice.injEq] at e1
      obtain ⟨rfl, -, rfl⟩ := e1
      have y1 := HB2.out.lrow.cell i (by rw [List.length_map, HN.out]; omega)
      obtain ⟨pa, pn, pc, hgt, hform⟩ := HF.out i hin
      rw [List.getElem?_eq_getElem (by rw [List.length_map, HN.out]; omega)] at hgt
      rw [Option.some.inj hgt] at y1
      have HFm := Lib.hid hform
      clear hgt hc1
      go_upto_region 6 with fail
      go_cut [6] (fun y wx => y = .slice pa pc pc ∧ wx = wr.drew)
      case first =>
        rcases hform with ⟨rfl, rfl, rfl, -⟩ | ⟨g, rfl, _, _, hp1, hp2⟩
        · go_region_held3 (fun w' => w'.cell? ⟨kb, 0, none⟩ = some (.slice (some ⟨g1, o1, none⟩) n b1) ∧ w'.cell? ⟨g1, o1 + i, none⟩ = some (.slice none 0 0)) (go_keep) (fail)
          all_goals
            go_wp2_with fail
            go_meet
            exact ⟨rfl, rfl⟩
        · go_region_held3 (fun w' => w'.cell? ⟨kb, 0, none⟩ = some (.slice (some ⟨g1, o1, none⟩) n b1) ∧ w'.cell? ⟨g1, o1 + i, none⟩ = some (.slice (some ⟨g, 0, none⟩) pn pc)) (go_keep) (fail)
          all_goals
            go_wp2_with fail
            go_meet
            exact ⟨rfl, rfl⟩
      case rest =>
        obtain ⟨rfl, hw⟩ := hcut
        subst hw
        clear hform
        go_wp2_with fail
        go_loopw [7] (fun jv wq => ∃ jj : Nat, jj ≤ pc ∧ jv = .int .i64 (jj : Int) ∧ Hid (WtQ w1 E m i jj wq)) (fun jv _ => pc - (intOf jv).toNat)
        case atStart => exact ⟨0, by omega, rfl, HW.out.drew⟩
        case round =>
          obtain ⟨jj, hjj, rfl, HQ⟩ := hrel
          by_cases hq : jj < pc
          · rcases HFm.out with ⟨_, _, h0, _⟩ | ⟨g, rfl, hi', hv, hp1, hp2⟩
            · omega
            · have d2 : decide ((jj : Int) < (pc : Int)) = true := decide_eq_true (by omega)
              have jji : (jj : Int) < (pc : Int) := by omega
              have hmx : pc ≤ 9223372036854775807 := by unfold maxLen at hp2; omega
              have hw2 : IntKind.i64.wrap ((jj : Int) + 1) = ((jj + 1 : Nat) : Int) := by rw [IntKind.wrap_i64]; omega
              have HSt : Hid (∀ w9, Keeps (fun _ => False) wr w9 → w9.there g (jj * 3) 3 ∧ WtQ w1 E m i (jj + 1) (w9.setCells g (jj * 3) (mkQ (m i jj).1 (m i jj).2).toList)) := fun w9 k9 => ⟨(HQ.out.ext k9).room hi' hv hq, (HQ.out.ext k9).step hi' hv hq HD.out⟩
              have HMc := Lib.hid (HM.out i jj wr (by omega) (by unfold maxLen; omega))
              clear hv hi' hp2 HQ
              go_wp2_with fail
              refine HMc.out.mono ?_
              rintro e w9 ⟨rfl, hw9⟩
              have HRm : Hid (w9.there g (jj * 3) 3) := (HSt.out w9 hw9).1
              have HQ2 := Lib.hid (HSt.out w9 hw9).2
              clear hw9
              go_wp2_with (refine wpList_store_mid (by rfl) 37 (.tmp 51) (.tmp 50) (by rfl) g (jj * 3) (mkQ (m i jj).1 (m i jj).2) (by simp [Act.eval]) (by rfl) (by exact HRm.out) (by rw [info_sq]; rfl) (mkQ_one _ _) ?_)
              go_roundw
              case rel => exact ⟨jj + 1, by omega, rfl, HQ2⟩
              case measure => simp [intOf]; omega
          · have d2 : decide ((jj : Int) < (pc : Int)) = false := decide_eq_false (by omega)
            obtain rfl : jj = pc := by omega
            have HQ2 : Hid (WtQ w1 E m (i + 1) 0 wr) := HQ.out.next (fun hi' g n c hv => by
              rcases HFm.out with ⟨_, _, _, hv'⟩ | ⟨g', _, _, hv', _⟩
              · rw [hv' hi'] at hv
                simp at hv
              · rw [hv'] at hv
                simp only [Value.slice.injEq] at hv
                omega)
            go_wp2_with fail
            go_roundw
            case rel => exact ⟨i + 1, by omega, rfl, HQ2⟩
            case measure => simp [intOf]; omega
    · have d1 : decide ((i : Int) < (n : Int)) = false := decide_eq_false (by omega)
      obtain rfl : i = n := by omega
      clear hin
      go_wp2_with fail
      clear d1 x0 x1 x2 x3 HB2
      go_loopw [8] (fun k wr2 => ∃ j : Nat, j ≤ i ∧ k = .int .i64 (j : Int) ∧ Hid (WtQ w1 E m i 0 wr2)) (fun k _ => i - (intOf k).toNat)
      case atStart => exact ⟨0, by omega, rfl, HW⟩
      case round =>
        obtain ⟨q, hq, rfl, HW2⟩ := hrel
        have HB2 : Hid (BwQ wr base kb (.slice a1 i b1) (.slice a2 i b2) held (E.map EntQ.lv) (E.map EntQ.wv)) := HB1.out.wt HE1.out HW2.out
        obtain ⟨x0, x1, x2, x3⟩ := HB2.out.cells
        by_cases hin : q < i
        · have d1 : decide ((q : Int) < (i : Int)) = true := decide_eq_true (by omega)
          have ji : (q : Int) < (i : Int) := by omega
          have hw1 : IntKind.i64.wrap ((q : Int) + 1) = ((q + 1 : Nat) : Int) := by rw [IntKind.wrap_i64]; omega
          obtain ⟨g1, o1, c1', e1, hc1⟩ := HB2.out.lrow.some_of (by rw [List.length_map, HN.out]; omega)
          simp only [List.length_map, Value.slice.injEq] at e1
          obtain ⟨rfl, -, rfl⟩ := e1
          have y1 := HB2.out.lrow.cell q (by rw [List.length_map, HN.out]; omega)
          obtain ⟨pa, pn, pc, hgt, hform⟩ := HF.out q hin
          rw [List.getElem?_eq_getElem (by rw [List.length_map, HN.out]; omega)] at hgt
          rw [Option.some.inj hgt] at y1
          have HFm := Lib.hid hform
          clear hgt hc1
          go_upto_region 14 with fail
          go_cut [9] (fun y wx => y = .slice pa pc pc ∧ wx = wr.drew)
          case first =>
            rcases hform with ⟨rfl, rfl, rfl, -⟩ | ⟨g, rfl, _, _, hp1, hp2⟩
            · go_region_held3 (fun w' => w'.cell? ⟨kb, 0, none⟩ = some (.slice (some ⟨g1, o1, none⟩) i b1) ∧ w'.cell? ⟨g1, o1 + q, none⟩ = some (.slice none 0 0)) (go_keep) (fail)
              all_goals
                go_wp2_with fail
                go_meet
                exact ⟨rfl, rfl⟩
            · go_region_held3 (fun w' => w'.cell? ⟨kb, 0, none⟩ = some (.slice (some ⟨g1, o1, none⟩) i b1) ∧ w'.cell? ⟨g1, o1 + q, none⟩ = some (.slice (some ⟨g, 0, none⟩) pn pc)) (go_keep) (fail)
              all_goals
                go_wp2_with fail
                go_meet
                exact ⟨rfl, rfl⟩
          case rest =>
            obtain ⟨rfl, hw⟩ := hcut
            subst hw
            clear hform
            go_wp2_with fail
            go_loopw [10] (fun jv wq => ∃ jj : Nat, jj ≤ pc ∧ jv = .int .i64 (jj : Int) ∧ Hid (WtQ w1 E m i 0 wq)) (fun jv _ => pc - (intOf jv).toNat)
            case atStart => exact ⟨0, by omega, rfl, HW2.out.drew⟩
            case round =>
              obtain ⟨jj, hjj, rfl, HQ⟩ := hrel
              by_cases hq2 : jj < pc
              · rcases HFm.out with ⟨_, _, h0, _⟩ | ⟨g, rfl, hi', hv, hp1, hp2⟩
                · omega
                · have d2 : decide ((jj : Int) < (pc : Int)) = true := decide_eq_true (by omega)
                  have jji : (jj : Int) < (pc : Int) := by omega
                  have hmx : pc ≤ 9223372036854775807 := by unfold maxLen at hp2; omega
                  have hw2 : IntKind.i64.wrap ((jj : Int) + 1) = ((jj + 1 : Nat) : Int) := by rw [IntKind.wrap_i64]; omega
                  have hv0 := HQ.out.done q hi' hin g pn pc hv jj hq2
                  have HMc := Lib.hid (HM.out q jj wr.drew (by omega) (by unfold maxLen; omega))
                  clear hv hi' hp2
                  go_wp2_with fail
                  refine wp_region_held_drew (S := fun W => W.rangeAt g (jj * 3) (mkQ (m q jj).1 (m q jj).2).toList) (by kernel_rfl) ((World.rangeAt_drew _ _ _ _).2 hv0) (fun hHeld => ?_)
                  simp only [List.size_toArray, List.length_cons, List.length_nil]
                  refine takeH (i := 0) (d := 83) (v := .slice (some ⟨g, 0, none⟩) pc pc) rfl rfl (by kernel_rfl) (by kernel_rfl) (by kernel_rfl) (fun _ _ _ h => h) (Or.inl ⟨by kernel_rfl, by intro w hSw; go_simp⟩) (by assumption) ?_
                  refine takeH (i := 1) (d := 84) (v := .int .i64 (jj : Int)) rfl rfl (by kernel_rfl) (by kernel_rfl) (by kernel_rfl) (fun _ _ _ h => h) (Or.inl ⟨by kernel_rfl, by intro w hSw; go_simp⟩) (by assumption) ?_
                  simp only [Act.put, List.setIfInBounds_toArray, List.set_cons_succ, List.set_cons_zero]
                  refine takeH (i := 2) (d := 85) (v := .pointer (some ⟨g, jj * 3, none⟩)) rfl rfl (by kernel_rfl) (by kernel_rfl) (by kernel_rfl) (fun _ _ _ h => h) (Or.inl ⟨by kernel_rfl, by intro w hSw; go_simp⟩) (by assumption) ?_
                  simp only [Act.put, List.setIfInBounds_toArray, List.set_cons_succ, List.set_cons_zero]
                  refine takeH (i := 3) (d := 86) (v := .agg (mkQ (m q jj).1 (m q jj).2)) rfl rfl (by kernel_rfl) (by kernel_rfl) (by kernel_rfl) (fun _ _ _ h => h) (yieldsIf_load_mid (by kernel_rfl) 37 (.tmp 85) rfl g (jj * 3) (by simp [Act.eval]) (mkQ (m q jj).1 (m q jj).2).toList _ (fun _ h => h) Try.underlying37 rfl (by rw [info_sq]; rfl)) (by assumption) ?_
                  simp only [Act.put, List.setIfInBounds_toArray, List.set_cons_succ, List.set_cons_zero]
                  refine takeH (i := 4) (d := 87) (v := .func (.func fm) #[] #[]) rfl rfl (by kernel_rfl) (by kernel_rfl) (by kernel_rfl) (fun _ _ _ h => h) (Or.inl ⟨by kernel_rfl, by intro w hSw; go_simp⟩) (by assumption) ?_
                  refine takeH (i := 5) (d := 88) (v := .int .i64 (q : Int)) rfl rfl (by kernel_rfl) (by kernel_rfl) (by kernel_rfl) (fun _ _ _ h => h) (Or.inl ⟨by kernel_rfl, by intro w hSw; go_simp⟩) (by assumption) ?_
                  refine takeH (i := 6) (d := 89) (v := .int .i64 (jj : Int)) rfl rfl (by kernel_rfl) (by kernel_rfl) (by kernel_rfl) (fun _ _ _ h => h) (Or.inl ⟨by kernel_rfl, by intro w hSw; go_simp⟩) (by assumption) ?_
                  simp only [Act.put, List.setIfInBounds_toArray, List.set_cons_succ, List.set_cons_zero]
                  refine wpAnyH_ready (rs := [7]) (by kernel_rfl) (by simp) ?_
                  refine readyEnterQ (i := 7) (d := 90) rfl rfl (by kernel_rfl) fm #[.int .i64 (q : Int), .int .i64 (jj : Int)] (by go_simp) (R := fun u w' => u = .agg (mkQ (m q jj).1 (m q jj).2) ∧ Keeps (fun _ => False) wr.drew w') (HMc.out.mono (fun e w' h => ⟨_, h.1, rfl, h.2⟩)) (fun u w' h => range_ext hHeld h.2) ?_ AllReadyH.nil
                  rintro u w9 ⟨rfl, hw9⟩ hHeld9
                  have HQ9 : Hid (WtQ w1 E m i 0 w9) := HQ.out.drew.ext hw9
                  clear hw9
                  simp only [Act.put, List.setIfInBounds_toArray, List.set_cons_succ, List.set_cons_zero]
                  refine takeH (i := 8) (d := 91) (v := .bool false) rfl rfl (by kernel_rfl) (by kernel_rfl) (by kernel_rfl) (fun _ _ _ h => h) (Or.inl ⟨by kernel_rfl, fun w _ => neq_exec (x := .tmp 86) (y := .tmp 90) (k := (m q jj).1) (b := (m q jj).2) rfl (by simp [Act.eval]) (by simp [Act.eval])⟩) (by assumption) ?_
                  refine wpAnyH_done (by kernel_rfl) ?_ _
                  simp only [Act.put, List.setIfInBounds_toArray, List.set_cons_succ, List.set_cons_zero]
                  clear hHeld hHeld9
                  all_goals
                    go_wp2_with fail
                    go_roundw
                    case rel => exact ⟨jj + 1, by omega, rfl, HQ9⟩
                    case measure => simp [intOf]; omega
              · have d2 : decide ((jj : Int) < (pc : Int)) = false := decide_eq_false (by omega)
                go_wp2_with fail
                go_roundw
                case rel => exact ⟨q + 1, by omega, rfl, HQ⟩
                case measure => simp [intOf]; omega
        · have d1 : decide ((q : Int) < (i : Int)) = false := decide_eq_false (by omega)
          have z0 := HB2.out.thawed 0
          have z1 := HB2.out.thawed 1
          have z2 := HB2.out.thawed 2
          go_wp2_with fail
          go_ret
          refine ⟨rfl, ?_⟩
          have k1 : Keeps (fun k => k = kb ∨ ∃ e ∈ E, e.lv.ownBlock = some k) w wr := (HK1.out.mono (fun _ _ e => .inl e)).trans HW2.out.keeps (fun _ _ e => .inr e)
          exact ((k1.trans (Keeps.setCell _ _ _ _) (fun _ _ e => .inl e)).trans (Keeps.setCell _ _ _ _) (fun _ _ e => .inl e)).trans (Keeps.setCell _ _ _ _) (fun _ _ e => .inl e)
end Go.Proofs.Ytkhlkbgolonkkaa
/- The marks of slots; a book of slots, as a law sees it (written by parts/gen_tkm.py off BkMark). Own work. -/
namespace Go.Proofs.Ytkhlkbgolonkkaa
open Go.RowKit Go.Shelf
set_option linter.unusedVariables false
/-- the mark of the place j of the list i -/
def markQ (i j : Nat) : Int × Int := (-1 - (i : Int), 0)
set_option maxRecDepth 100000 in
set_option maxHeartbeats 4000000 in
theorem slotMark_any (i j : Nat) (w : World) (_hi : i ≤ 4000) (_hj : j < maxLen) :
    Calls Try.prog 15 #[.int .i64 (i : Int), .int .i64 (j : Int)] w fun e w' => e = .returned (.agg (mkQ (markQ i j).1 (markQ i j).2)) ∧ Keeps (fun _ => False) w w' := by
  have hw1 : IntKind.i64.wrap (-1 - (i : Int)) = -1 - (i : Int) := by rw [IntKind.wrap_i64]; omega
  go_enter Try.func15, Try.ntmps15
  go_wp2_with fail
  refine bodyPost_ret (v := .agg (mkQ (markQ i j).1 (markQ i j).2)) ?_ rfl ⟨rfl, Keeps.alloc w _⟩
  have hb : (w.alloc (.cells (mkQ (-1 - (i : Int)) 0) 37)).heap[w.heap.size]? = some (.cells (mkQ (-1 - (i : Int)) 0) 37 (0, 0)) := Array.getElem?_push_size
  have d0 := cell_of_row _ _ 0 _ _ _ hb
  have d1 := cell_of_row _ _ 1 _ _ _ hb
  have d2 := cell_of_row _ _ 2 _ _ _ hb
  simp only [mkQ, List.getElem?_toArray, List.getElem?_cons_zero, List.getElem?_cons_succ] at d0 d1 d2
  simp [results, Try.results15, go_sem, markQ, mkQ, d0, d1, d2]
theorem mem_blksQ {E : List EntQ} {k : Nat} : k ∈ blksQ E ↔ ∃ x ∈ E, x.lv.ownBlock = some k ∨ x.wv.ownBlock = some k := by
  simp [blksQ, EntQ.bl, List.mem_flatMap, Option.mem_toList]
theorem BkQ.bw {w : World} {base kb : Nat} {lv wv : Value} {held : Int} {E : List EntQ} (h : BkQ w base kb lv wv held E) : BwQ w base kb lv wv held (E.map EntQ.lv) (E.map EntQ.wv) := ⟨h.blk, h.lrow, h.wrow, h.ne⟩
theorem blksQ_lt {w : World} {base : Nat} {E : List EntQ} (he : ∀ x ∈ E, x.ok w base) : ∀ k ∈ blksQ E, k < w.heap.size := fun k hk => by
  obtain ⟨x, hx, h | h⟩ := mem_blksQ.1 hk
  · exact ((he x hx).l.lt k h).2
  · exact ((he x hx).w.lt k h).2
theorem bkQ_new {w : World} {base kb : Nat} (h : w.heap[kb]? = some (.cells #[.slice none 0 0, .slice none 0 0, .int .i64 0, .bool false] 41 (0, 0))) : BkQ w base kb (.slice none 0 0) (.slice none 0 0) 0 [] :=
  ⟨h, RowV.nil _ _ _, RowV.nil _ _ _, fun _ e => (by cases e), fun _ h => (by cases h), List.nodup_nil⟩
theorem blksQ_append (E F : List EntQ) : blksQ (E ++ F) = blksQ E ++ blksQ F := by simp [blksQ]
theorem bkQ_keep {w : World} {base kb : Nat} {lv wv : Value} {held : Int} {E : List EntQ} {la : Option Addr} {ln lc : Nat} {xs : List S3} (h : BkQ w base kb lv wv held E) (hl : OwnS w base (.slice la ln lc) xs) (hxs : SmQ xs) (hsm : SmQ xs) (hlen : E.length ≤ 4000) (hbase : base ≤ w.heap.size) (hf : ∀ k, (Value.slice la ln lc).ownBlock = some k → k ∉ blksQ E) :
    Calls Try.prog 13 #[.pointer (some ⟨kb, 0, none⟩), .slice la ln lc] w fun e w' => e = .returned (.tuple #[]) ∧ ∃ lv' wv' held' E', BkQ w' base kb lv' wv' held' E' ∧ E'.length ≤ 4000 ∧ (∀ k ∈ blksQ E', k ∈ blksQ E ∨ (Value.slice la ln lc).ownBlock = some k ∨ w.heap.size ≤ k) ∧ KeQ base kb w w' := by
  refine (keepQ_any h.bw h.ents hl hxs hsm hlen hbase).mono ?_
  rintro e w' ⟨rfl, cv, hcv, E', hk, hl'⟩
  obtain ⟨lv', wv', held', hb⟩ := hk.bw
  have hsub : (blksQ E').Sublist (blksQ (E ++ [⟨.slice la ln lc, cv, xs⟩])) := by
    obtain ⟨t, ht⟩ := hk.suf
    rw [← ht, blksQ_append]
    exact List.sublist_append_right _ _
  have hbl : blksQ (E ++ [⟨.slice la ln lc, cv, xs⟩]) = blksQ E ++ ((Value.slice la ln lc).ownBlock.toList ++ cv.ownBlock.toList) := by rw [blksQ_append]; simp [blksQ, EntQ.bl]
  have hlt := blksQ_lt h.ents
  have hnd : (blksQ (E ++ [⟨.slice la ln lc, cv, xs⟩])).Nodup := by
    rw [hbl]
    refine List.nodup_append.2 ⟨h.nodup, List.nodup_append.2 ⟨?_, ?_, fun a ha b hb e => ?_⟩, fun a ha b hb e => ?_⟩
    · cases (Value.slice la ln lc).ownBlock <;> simp
    · cases cv.ownBlock <;> simp
    · subst e
      have h1 := (hl.lt a (by simpa using ha)).2
      have h2 := hcv a (by simpa using hb)
      omega
    · subst e
      rcases List.mem_append.1 hb with hb | hb
      · exact hf a (by simpa using hb) ha
      · have h1 := hlt a ha
        have h2 := hcv a (by simpa using hb)
        omega
  refine ⟨rfl, lv', wv', held', E', ⟨hb.blk, hb.lrow, hb.wrow, hb.ne, hk.ents, hnd.sublist hsub⟩, hl', fun k hk' => ?_, hk.ke⟩
  have := hsub.subset hk'
  rw [hbl] at this
  rcases List.mem_append.1 this with h1 | h1
  · exact .inl h1
  · rcases List.mem_append.1 h1 with h1 | h1
    · exact .inr (.inl (by simpa using h1))
    · exact .inr (.inr (hcv k (by simpa using h1)))
theorem disQ_of {E : List EntQ} (h : (blksQ E).Nodup) : DisQ E := by
  intro i i' hi hi' hne g n c g' n' c' e e' hg
  subst hg
  have key : ∀ (E : List EntQ), (blksQ E).Nodup → ∀ i i' (hi : i < E.length) (hi' : i' < E.length), i < i' → E[i].lv.ownBlock = some g → E[i'].lv.ownBlock = some g → False := by
    intro E
    induction E with
    | nil => intro _ i _ hi; simp at hi
    | cons x xs ih =>
      intro hnd i i' hi hi' hlt h1 h2
      have hc : blksQ (x :: xs) = x.bl ++ blksQ xs := by simp [blksQ]
      rw [hc] at hnd
      obtain ⟨_, n2, n3⟩ := List.nodup_append.1 hnd
      cases i' with
      | zero => omega
      | succ k' =>
        have hk' : k' < xs.length := by simpa using hi'
        simp only [List.getElem_cons_succ] at h2
        cases i with
        | zero =>
          simp only [List.getElem_cons_zero] at h1
          refine n3 g ?_ g ?_ rfl
          · simp [EntQ.bl, h1]
          · exact mem_blksQ.2 ⟨xs[k'], List.getElem_mem _, .inl h2⟩
        | succ k =>
          simp only [List.getElem_cons_succ] at h1
          exact ih n2 k k' (by simpa using hi) (by simpa using hi') (by omega) h1 h2
  have b1 : E[i].lv.ownBlock = some g := by rw [e]; rfl
  have b2 : E[i'].lv.ownBlock = some g := by rw [e']; rfl
  rcases Nat.lt_or_gt_of_ne hne with hlt | hlt
  · exact key E h i i' hi hi' hlt b1 b2
  · exact key E h i' i hi' hi hlt b2 b1
theorem bkQ_apart {w : World} {base kb : Nat} {lv wv : Value} {held : Int} {E : List EntQ} (h : BkQ w base kb lv wv held E) (hlen : E.length ≤ 4000) :
    Calls Try.prog 14 #[.pointer (some ⟨kb, 0, none⟩), .func (.func 15) #[] #[]] w fun e w' => e = .returned (.bool true) ∧ Keeps (fun k => k = kb ∨ ∃ e ∈ E, e.lv.ownBlock = some k) w w' :=
  apartQ_any h.bw h.ents hlen (disQ_of h.nodup) (enters_of Try.func15 (by kernel_rfl) rfl) (fun i j w hi hj => slotMark_any i j w hi hj)
end Go.Proofs.Ytkhlkbgolonkkaa
