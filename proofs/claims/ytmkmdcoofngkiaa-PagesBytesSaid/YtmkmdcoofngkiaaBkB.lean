/- Books of bytes: Keep. Own work. -/
import Derived.Test.YtmkmdcoofngkiaaBkRow
import Derived.Test.YtmkmdcoofngkiaaSpTake
import Derived.Deep.RegionLaw
namespace Go.Proofs.Ytmkmdcoofngkiaa
open Go.RowKit
structure Ent where
  lv : Value
  wv : Value
  xs : List Nat
def Ent.bl (x : Ent) : List Nat := x.lv.ownBlock.toList ++ x.wv.ownBlock.toList
def blks (E : List Ent) : List Nat := E.flatMap Ent.bl
structure Ent.ok (w : World) (base : Nat) (x : Ent) : Prop where
  l : Own w base x.lv x.xs
  w : Own w base x.wv x.xs
  sm : ∀ z ∈ x.xs, z < 256
/-- a book: its block, its two rows, what they hold -/
structure Bk (w : World) (base kb : Nat) (lv wv : Value) (held : Int) (E : List Ent) : Prop where
  blk : w.heap[kb]? = some (.cells #[lv, wv, .int .i64 held, .bool false] 57 (0, 0))
  lrow : RowV w base 52 lv (E.map Ent.lv)
  wrow : RowV w base 52 wv (E.map Ent.wv)
  ne : ∀ k, lv.ownBlock = some k → wv.ownBlock ≠ some k
  ents : ∀ x ∈ E, x.ok w base
  nodup : (blks E).Nodup
theorem info_bs : (Try.prog.info? 52).map (fun i => (i.zero, i.size, i.bytes)) = some (some (.slice none 0 0), 1, 24) := by kernel_rfl
theorem info_b1 : (Try.prog.info? 5).map (fun i => (i.zero, i.size, i.bytes)) = some (some (.int .u8 0), 1, 1) := by kernel_rfl
theorem Bk.cells {w : World} {base kb : Nat} {lv wv : Value} {held : Int} {E : List Ent} (h : Bk w base kb lv wv held E) : w.cell? ⟨kb, 0, none⟩ = some lv ∧ w.cell? ⟨kb, 1, none⟩ = some wv ∧ w.cell? ⟨kb, 2, none⟩ = some (.int .i64 held) ∧ w.cell? ⟨kb, 3, none⟩ = some (.bool false) := by
  refine ⟨?_, ?_, ?_, ?_⟩ <;> rw [cell_of_row _ _ _ _ _ _ h.blk] <;> rfl
theorem Bk.thawed {w : World} {base kb : Nat} {lv wv : Value} {held : Int} {E : List Ent} (h : Bk w base kb lv wv held E) (i : Nat) : w.frozen? ⟨kb, i, none⟩ = false := by simp [World.frozen?, h.blk]
theorem Bk.lt {w : World} {base kb : Nat} {lv wv : Value} {held : Int} {E : List Ent} (h : Bk w base kb lv wv held E) : kb < w.heap.size := (Array.getElem?_eq_some_iff.1 h.blk).1
/-- a copy of bytes -/
theorem run_copyB {w : World} {base : Nat} {l : Value} {xs : List Nat} (ty : TypeId) (hl : Own w base l xs) (hlen : xs.length ≤ 140737488351232) :
    ∃ v' w', (Builtin.append_ #[52, 52] ty #[.slice none 0 0, l]).run Try.prog w = .ok v' w' ∧ Own w' w.heap.size v' xs ∧ w.grownBy w' none := by
  obtain ⟨i, hi, hz0, hz1, hz2⟩ := info_parts info_b1
  rcases hl.2 with ⟨rfl, h0⟩ | ⟨g, cap, cur, rfl, hb, hg, hl1, hm, hs, ht⟩
  · obtain rfl : xs = [] := List.eq_nil_of_length_eq_zero h0
    refine ⟨.slice none 0 0, w, ?_, ⟨rfl, .inl ⟨rfl, rfl⟩⟩, ⟨rfl, rfl, rfl, Nat.le_refl _, fun _ _ _ => rfl⟩⟩
    simp [Builtin.append_, run_underlying Try.underlying52, sizeOf, typeInfo, hi, Builtin.lenOf, Builtin.firstCells]
  · obtain ⟨v', w', r1, r2, r3, _⟩ := run_append_own_at (P := Try.prog) w w.heap.size 52 ty 5 i (.int .u8 0) 1 1 Try.underlying52 hi hz0 hz1 hz2 rfl (by omega) (.slice none 0 0) 0 [] ⟨rfl, .inl ⟨rfl, rfl⟩⟩ ⟨g, 0, none⟩ xs.length cap (bvs xs) (by simp [bvs]) (fun j u hj => by
      have hj' : j < xs.length := by have := (List.getElem?_eq_some_iff.1 hj).1; simpa [bvs] using this
      rw [Addr.add_lit, Nat.zero_add, cell_of_row _ _ _ _ _ _ hg, ← Array.getElem?_toList, ← hj, ← ht, Nat.mul_one, List.getElem?_take_of_lt hj']) (fun u hu => by
      simp only [bvs, List.mem_map] at hu
      obtain ⟨z, _, rfl⟩ := hu
      rfl) (by omega) (by omega) (Nat.le_refl _)
    refine ⟨v', w', r1, ?_, r3⟩
    unfold Own
    simpa using r2
/-- what a book may write -/
def KeS (base kb : Nat) (w : World) (k : Nat) : Prop := k = kb ∨ (base ≤ k ∧ ∃ cur, w.heap[k]? = some (.cells cur 52 (0, 0)))
def Ke (base kb : Nat) (w w' : World) : Prop := Keeps (KeS base kb w) w w'
theorem Ke.refl (base kb : Nat) (w : World) : Ke base kb w w := Keeps.refl _ _
theorem Ke.trans {base kb : Nat} {a b c : World} (h : Ke base kb a b) (k : Ke base kb b c) : Ke base kb a c := by
  refine ⟨k.os.trans h.os, k.tape.trans h.tape, k.output.trans h.output, Nat.le_trans h.size k.size, fun i hi hn => ?_⟩
  have e := h.block i hi hn
  refine (k.block i (Nat.lt_of_lt_of_le hi h.size) (fun hs => hn ?_)).trans e
  rcases hs with hs | ⟨h1, cur, h2⟩
  · exact .inl hs
  · exact .inr ⟨h1, cur, e.symm.trans h2⟩
theorem Ke.of {base kb : Nat} {w w' : World} {S : Nat → Prop} (h : Keeps S w w') (hs : ∀ k, k < w.heap.size → S k → KeS base kb w k) : Ke base kb w w' := h.mono hs
theorem Ke.alloc (base kb : Nat) (w : World) (o : Obj) : Ke base kb w (w.alloc o) := Keeps.alloc w o
theorem Ke.set (base kb : Nat) (w : World) (i : Nat) (v : Value) : Ke base kb w (w.setCell ⟨kb, i, none⟩ v) := (Keeps.setCell w kb i v).mono (fun _ _ e => .inl e)
theorem Ke.drew {base kb : Nat} {a b : World} (h : Ke base kb a b) : Ke base kb a b.drew := Keeps.drew h
theorem Ke.grown {base kb : Nat} {w w' : World} {v : Value} {vs : List Value} (hg : w.grownBy w' v.ownBlock) (hr : RowV w base 52 v vs) : Ke base kb w w' :=
  (Keeps.of_grown hg).mono (fun k _ e => .inr ⟨(hr.lt k e).1, hr.tag k e⟩)
theorem Ke.grown0 {base kb : Nat} {w w' : World} (hg : w.grownBy w' none) : Ke base kb w w' := (Keeps.of_grown hg).mono (fun _ _ e => by cases e)
/-- the book's block and rows -/
structure Bw (w : World) (base kb : Nat) (lv wv : Value) (held : Int) (Ls Ws : List Value) : Prop where
  blk : w.heap[kb]? = some (.cells #[lv, wv, .int .i64 held, .bool false] 57 (0, 0))
  lrow : RowV w base 52 lv Ls
  wrow : RowV w base 52 wv Ws
  ne : ∀ k, lv.ownBlock = some k → wv.ownBlock ≠ some k
theorem Bw.cells {w : World} {base kb : Nat} {lv wv : Value} {held : Int} {Ls Ws : List Value} (h : Bw w base kb lv wv held Ls Ws) : w.cell? ⟨kb, 0, none⟩ = some lv ∧ w.cell? ⟨kb, 1, none⟩ = some wv ∧ w.cell? ⟨kb, 2, none⟩ = some (.int .i64 held) ∧ w.cell? ⟨kb, 3, none⟩ = some (.bool false) := by
  refine ⟨?_, ?_, ?_, ?_⟩ <;> rw [cell_of_row _ _ _ _ _ _ h.blk] <;> rfl
theorem Bw.thawed {w : World} {base kb : Nat} {lv wv : Value} {held : Int} {Ls Ws : List Value} (h : Bw w base kb lv wv held Ls Ws) (i : Nat) : w.frozen? ⟨kb, i, none⟩ = false := by simp [World.frozen?, h.blk]
theorem Bw.lt {w : World} {base kb : Nat} {lv wv : Value} {held : Int} {Ls Ws : List Value} (h : Bw w base kb lv wv held Ls Ws) : kb < w.heap.size := (Array.getElem?_eq_some_iff.1 h.blk).1
theorem Bw.kb_ne {w : World} {base kb : Nat} {lv wv : Value} {held : Int} {Ls Ws : List Value} (h : Bw w base kb lv wv held Ls Ws) : lv.ownBlock ≠ some kb ∧ wv.ownBlock ≠ some kb := by
  refine ⟨fun e => ?_, fun e => ?_⟩
  · obtain ⟨c, hc⟩ := h.lrow.tag _ e
    rw [h.blk] at hc
    simp at hc
  · obtain ⟨c, hc⟩ := h.wrow.tag _ e
    rw [h.blk] at hc
    simp at hc
theorem Bw.keeps0 {w w' : World} {base kb : Nat} {lv wv : Value} {held : Int} {Ls Ws : List Value} (h : Bw w base kb lv wv held Ls Ws) (k : Keeps (fun _ => False) w w') : Bw w' base kb lv wv held Ls Ws :=
  ⟨(k.block kb h.lt id).trans h.blk, h.lrow.keeps k (fun _ _ => id), h.wrow.keeps k (fun _ _ => id), h.ne⟩
/-- a cell of the book's is written -/
theorem Bw.put {w : World} {base kb : Nat} {lv wv lv' wv' : Value} {held held' : Int} {Ls Ws Ls' Ws' : List Value} {i : Nat} {v : Value} (h : Bw w base kb lv wv held Ls Ws) (e : #[lv', wv', .int .i64 held', .bool false] = #[lv, wv, .int .i64 held, .bool false].setIfInBounds i v) (h1 : RowV w base 52 lv' Ls') (h2 : RowV w base 52 wv' Ws') (hn : ∀ k, lv'.ownBlock = some k → wv'.ownBlock ≠ some k) (hk : lv'.ownBlock ≠ some kb ∧ wv'.ownBlock ≠ some kb) : Bw (w.setCell ⟨kb, i, none⟩ v) base kb lv' wv' held' Ls' Ws' := by
  refine ⟨?_, h1.keeps (Keeps.setCell w kb i v) (fun k hk' e => hk.1 (by subst e; exact hk')), h2.keeps (Keeps.setCell w kb i v) (fun k hk' e => hk.2 (by subst e; exact hk')), hn⟩
  rw [e]
  simp [World.setCell, Array.getElem?_modify, h.blk]
theorem Own.tagB {w : World} {base : Nat} {v : Value} {xs : List Nat} (h : Own w base v xs) : ∀ k, v.ownBlock = some k → ∃ cur, w.heap[k]? = some (.cells cur 5 (0, 0)) := by
  rcases h.2 with ⟨rfl, _⟩ | ⟨g, cap, cur, rfl, hb, hg, _⟩
  · intro k hk; cases hk
  · intro k hk
    cases hk
    exact ⟨cur, hg⟩
theorem Own.ke {w w' : World} {base base' kb : Nat} {v : Value} {xs : List Nat} {cs : Array Value} (h : Own w base' v xs) (hb : w.heap[kb]? = some (.cells cs 57 (0, 0))) (k : Ke base kb w w') : Own w' base' v xs :=
  h.keeps k (fun i hi hs => by
    obtain ⟨c, hc⟩ := h.tagB i hi
    rcases hs with rfl | ⟨_, d, hd⟩
    · rw [hb] at hc; simp at hc
    · rw [hd] at hc; simp at hc)
theorem step_appV {w : World} {base : Nat} {ops : Array Oper} {o : Oper} {a : Act} {K : Act → World → Prop} {Q : Exit → Act → World → Prop} {E : Prop} (hw : Region.wanted o (yielded ops a.tmps) = true) (s x : Operand)
    (ho : o.op = .call { callee := .builtin .append, args := #[s, x], argTypes := #[55, 55] }) {v : Value} {vs : List Value} {y : Value} {g cap : Nat} (hown : RowV w base 52 v vs) (hs : a.eval s = v) (hx : a.eval x = .slice (some ⟨g, 0, none⟩) 1 cap) (hc : w.cell? ⟨g, 0, none⟩ = some y) (h1 : y.oneCell' = true) (hb : vs.length ≤ 1048576) (hbase : base ≤ w.heap.size)
    (h : ∀ va vc w', RowV w' base 52 (.slice va (vs.length + 1) vc) (vs ++ [y]) → w.grownBy w' v.ownBlock → ((Value.slice va (vs.length + 1) vc).ownBlock = v.ownBlock ∨ ∃ k, (Value.slice va (vs.length + 1) vc).ownBlock = some k ∧ w.heap.size ≤ k) → K (a.put o.dst (.slice va (vs.length + 1) vc)) w') : if Region.wanted o (yielded ops a.tmps) = true then Oper.wp Try.prog o a w K Q else E := by
  rw [if_pos hw]
  obtain ⟨v', w', hr, h2, h3, h4⟩ := run_appV o.type Try.underlying55 info_bs hown hc h1 hb hbase (cap := cap)
  obtain ⟨va, vc, rfl⟩ := h2.form
  rw [List.length_append, List.length_singleton] at hr h2 h4
  unfold Oper.wp execOp
  simp only [ho, resolve, invoke, builtin, Sem.run_bind, Sem.run_pure, Result.andThen_ok, List.map_toArray, List.map_cons, List.map_nil, hs, hx, hr]
  exact h va vc w' h2 h3 h4
theorem wpList_appV {w : World} {base : Nat} {ops : Array Oper} {rest : List Oper} {o : Oper} {a : Act} {Q : Exit → Act → World → Prop} (hgd : o.guard = none) (s x : Operand)
    (ho : o.op = .call { callee := .builtin .append, args := #[s, x], argTypes := #[55, 55] }) {v : Value} {vs : List Value} {y : Value} {g cap : Nat} (hown : RowV w base 52 v vs) (hs : a.eval s = v) (hx : a.eval x = .slice (some ⟨g, 0, none⟩) 1 cap) (hc : w.cell? ⟨g, 0, none⟩ = some y) (h1 : y.oneCell' = true) (hb : vs.length ≤ 1048576) (hbase : base ≤ w.heap.size)
    (h : ∀ va vc w', RowV w' base 52 (.slice va (vs.length + 1) vc) (vs ++ [y]) → w.grownBy w' v.ownBlock → ((Value.slice va (vs.length + 1) vc).ownBlock = v.ownBlock ∨ ∃ k, (Value.slice va (vs.length + 1) vc).ownBlock = some k ∧ w.heap.size ≤ k) → wpList Try.prog ops Q rest (a.put o.dst (.slice va (vs.length + 1) vc)) w') : wpList Try.prog ops Q (o :: rest) a w :=
  wpList_plain hgd fun K hK => by
    have := step_appV (ops := ops) (w := w) (o := o) (a := a) (K := K) (Q := Q) (E := False) (cap := cap) (by simp [Region.wanted, hgd]) s x ho hown hs hx hc h1 hb hbase (fun va vc w' h2 h3 h4 => hK _ _ (h va vc w' h2 h3 h4))
    rwa [if_pos (by simp [Region.wanted, hgd])] at this
theorem step_copyB {w : World} {base : Nat} {ops : Array Oper} {o : Oper} {a : Act} {K : Act → World → Prop} {Q : Exit → Act → World → Prop} {E : Prop} (hw : Region.wanted o (yielded ops a.tmps) = true) (x : Operand)
    (ho : o.op = .call { callee := .builtin .append, args := #[.const (.slice none 0 0), x], argTypes := #[52, 52] }) {l : Value} {xs : List Nat} (hl : Own w base l xs) (hlen : xs.length ≤ 140737488351232) (hx : a.eval x = l)
    (h : ∀ va vn vc w', Own w' w.heap.size (.slice va vn vc) xs → w.grownBy w' none → K (a.put o.dst (.slice va vn vc)) w') : if Region.wanted o (yielded ops a.tmps) = true then Oper.wp Try.prog o a w K Q else E := by
  rw [if_pos hw]
  obtain ⟨v', w', hr, h2, h3⟩ := run_copyB o.type hl hlen
  obtain ⟨va, vn, vc, rfl⟩ : ∃ va vn vc, v' = .slice va vn vc := by
    rcases h2.2 with ⟨rfl, _⟩ | ⟨g, cap, cur, rfl, _⟩
    · exact ⟨_, _, _, rfl⟩
    · exact ⟨_, _, _, rfl⟩
  have hc0 : a.eval (.const (.slice none 0 0)) = .slice none 0 0 := rfl
  unfold Oper.wp execOp
  simp only [ho, resolve, invoke, builtin, Sem.run_bind, Sem.run_pure, Result.andThen_ok, List.map_toArray, List.map_cons, List.map_nil, hc0, hx, hr]
  exact h va vn vc w' h2 h3
end Go.Proofs.Ytmkmdcoofngkiaa
