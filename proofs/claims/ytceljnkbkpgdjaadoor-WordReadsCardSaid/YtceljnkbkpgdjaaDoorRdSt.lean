/- WordReads: the shelf of readers between two steps. Own work. -/
import Derived.Test.YtceljnkbkpgdjaaDoorBsMark
import Derived.Test.YtceljnkbkpgdjaaDoorRdUni
namespace Go.Proofs.YtceljnkbkpgdjaaDoor
open Go.RowKit Go.Shelf
set_option linter.unusedVariables false
variable {pfA pfB pfC : Value}
theorem run_appP {w : World} {base : Nat} {t e : TypeId} {v : Value} {vs : List Value} {x : Value} {g cap : Nat} (ty : TypeId) (hu : Tryd.prog.underlying t = some (.slice e)) (hin : (Tryd.prog.info? e).map (fun i => (i.zero, i.size, i.bytes)) = some (some (.pointer none), 1, 8)) (hown : RowV w base e v vs) (hx : w.cell? ⟨g, 0, none⟩ = some x) (h1 : x.oneCell' = true) (hb : vs.length ≤ 1048576) (hbase : base ≤ w.heap.size) :
    ∃ v' w', (Builtin.append_ #[t, t] ty #[v, .slice (some ⟨g, 0, none⟩) 1 cap]).run Tryd.prog w = .ok v' w' ∧ RowV w' base e v' (vs ++ [x]) ∧ w.grownBy w' v.ownBlock ∧ (v'.ownBlock = v.ownBlock ∨ ∃ k, v'.ownBlock = some k ∧ w.heap.size ≤ k) := by
  obtain ⟨i, hi, hz0, hz1, hz2⟩ := info_parts hin
  have hnews : ∀ j u, [x][j]? = some u → w.cell? ((⟨g, 0, none⟩ : Addr).add j) = some u := fun j u hj => by
    rw [Addr.add_lit, Nat.zero_add]
    match j, hj with
    | 0, hj => rw [hx]; exact hj
  have hone : ∀ u ∈ [x], u.oneCell' = true := fun u hu => by obtain rfl := List.mem_singleton.1 hu; exact h1
  have fin : ∀ v' w', w'.ownsRow w.heap.size e 1 v' (vs.length + 1) (vs ++ [x]) → w.grownBy w' none → RowV w' base e v' (vs ++ [x]) ∧ w.grownBy w' v.ownBlock ∧ (v'.ownBlock = v.ownBlock ∨ ∃ k, v'.ownBlock = some k ∧ w.heap.size ≤ k) := fun v' w' ho hg => by
    rcases ho.2 with ⟨_, h0⟩ | ⟨g', cap', cur, rfl, hb', hg', hl, hm, hs, ht⟩
    · omega
    · refine ⟨.inr ⟨g', 0, cap', cur, by simp, Nat.le_trans hbase hb', hg', by simpa using hl, hm, by omega, by simpa using ht⟩, ⟨hg.os, hg.tape, hg.output, hg.size, fun k hk _ => hg.block k hk (fun e => by cases e)⟩, .inr ⟨g', rfl, hb'⟩⟩
  rcases hown with ⟨rfl, rfl⟩ | ⟨b, off, c, cur, rfl, hbb, hg, hl, hm, hs, ht⟩
  · obtain ⟨v', w', r1, r2, r3, _, r5⟩ := run_append_own_at (P := Tryd.prog) w w.heap.size t ty e i (.pointer none) 1 8 hu hi hz0 hz1 hz2 rfl (by omega) (.slice none 0 0) 0 [] ⟨rfl, .inl ⟨rfl, rfl⟩⟩ ⟨g, 0, none⟩ 1 cap [x] rfl hnews hone (by unfold maxLen; omega) (by omega) (Nat.le_refl _)
    exact ⟨v', w', r1, fin v' w' r2 r3⟩
  · by_cases hr : vs.length + 1 ≤ c
    · have hcell : w.cell? ⟨b, off + vs.length * i.size + 0, none⟩ = cur[off + vs.length]? := by rw [hz1, Nat.mul_one, Nat.add_zero]; exact cell_of_row _ _ _ _ _ _ hg
      have hru := run_append_room_cells (P := Tryd.prog) w t ty e i hu hi b off vs.length c ⟨g, 0, none⟩ 1 cap [x] (by rw [hz1]; rfl) hnews hone hr (fun j hj => by
        obtain rfl : j = 0 := by simpa using hj
        rw [hcell, Array.getElem?_eq_getElem (by omega)]
        rfl) (fun j _ => by simp [World.frozen?, hg])
      refine ⟨_, _, hru, ?_, ?_, .inl rfl⟩
      · rw [hz1, Nat.mul_one]
        refine .inr ⟨b, off, c, cur.setIfInBounds (off + vs.length) x, by simp, hbb, ?_, by simpa using hr, hm, by simpa using hs, ?_⟩
        · simp [World.setCells, World.setCell, Array.getElem?_modify, hg]
        · rw [Array.toList_setIfInBounds, List.length_append, List.length_singleton, drop_set_take _ _ _ _ (by simp; omega), ht]
      · rw [hz1, Nat.mul_one]
        exact ⟨rfl, rfl, rfl, by simp [World.setCells, World.setCell], fun k hk hne => Below.heap_setCell _ _ _ _ (fun e => hne (by subst e; rfl))⟩
    · obtain ⟨v', w', r1, r2, r3⟩ := run_append_arg_grows (P := Tryd.prog) w t ty e i (.pointer none) 1 8 hu hi hz0 hz1 hz2 rfl (by omega) ⟨b, off, none⟩ vs.length c vs (by simp) (fun j u hj => by
        rw [Addr.add_lit, cell_of_row _ _ _ _ _ _ hg, ← Array.getElem?_toList]
        have hj' := (List.getElem?_eq_some_iff.1 hj).1
        have : ((cur.toList.drop off).take vs.length)[j]? = vs[j]? := by rw [ht]
        rw [List.getElem?_take_of_lt hj', List.getElem?_drop] at this
        rw [this, hj]) ⟨g, 0, none⟩ 1 cap [x] rfl hnews (by omega) (by unfold maxLen; omega) (by omega)
      exact ⟨v', w', r1, fin v' w' r2 r3⟩
theorem step_appP {w : World} {base : Nat} {ops : Array Oper} {o : Oper} {a : Act} {K : Act → World → Prop} {Q : Exit → Act → World → Prop} {E : Prop} (hw : Region.wanted o (yielded ops a.tmps) = true) (s x : Operand) {tS tE : TypeId} (hu : Tryd.prog.underlying tS = some (.slice tE)) (hin : (Tryd.prog.info? tE).map (fun i => (i.zero, i.size, i.bytes)) = some (some (.pointer none), 1, 8))
    (ho : o.op = .call { callee := .builtin .append, args := #[s, x], argTypes := #[tS, tS] }) {v : Value} {vs : List Value} {y : Value} {g cap : Nat} (hown : RowV w base tE v vs) (hs : a.eval s = v) (hx : a.eval x = .slice (some ⟨g, 0, none⟩) 1 cap) (hc : w.cell? ⟨g, 0, none⟩ = some y) (h1 : y.oneCell' = true) (hb : vs.length ≤ 1048576) (hbase : base ≤ w.heap.size)
    (h : ∀ va vc w', RowV w' base tE (.slice va (vs.length + 1) vc) (vs ++ [y]) → w.grownBy w' v.ownBlock → ((Value.slice va (vs.length + 1) vc).ownBlock = v.ownBlock ∨ ∃ k, (Value.slice va (vs.length + 1) vc).ownBlock = some k ∧ w.heap.size ≤ k) → K (a.put o.dst (.slice va (vs.length + 1) vc)) w') : if Region.wanted o (yielded ops a.tmps) = true then Oper.wp Tryd.prog o a w K Q else E := by
  rw [if_pos hw]
  obtain ⟨v', w', hr, h2, h3, h4⟩ := run_appP o.type hu hin hown hc h1 hb hbase (cap := cap)
  obtain ⟨va, vc, rfl⟩ := h2.form
  rw [List.length_append, List.length_singleton] at hr h2 h4
  unfold Oper.wp execOp
  simp only [ho, resolve, invoke, builtin, Sem.run_bind, Sem.run_pure, Result.andThen_ok, List.map_toArray, List.map_cons, List.map_nil, hs, hx, hr]
  exact h va vc w' h2 h3 h4
theorem wpList_appP {w : World} {base : Nat} {ops : Array Oper} {rest : List Oper} {o : Oper} {a : Act} {Q : Exit → Act → World → Prop} (hgd : o.guard = none) (s x : Operand) {tS tE : TypeId} (hu : Tryd.prog.underlying tS = some (.slice tE)) (hin : (Tryd.prog.info? tE).map (fun i => (i.zero, i.size, i.bytes)) = some (some (.pointer none), 1, 8))
    (ho : o.op = .call { callee := .builtin .append, args := #[s, x], argTypes := #[tS, tS] }) {v : Value} {vs : List Value} {y : Value} {g cap : Nat} (hown : RowV w base tE v vs) (hs : a.eval s = v) (hx : a.eval x = .slice (some ⟨g, 0, none⟩) 1 cap) (hc : w.cell? ⟨g, 0, none⟩ = some y) (h1 : y.oneCell' = true) (hb : vs.length ≤ 1048576) (hbase : base ≤ w.heap.size)
    (h : ∀ va vc w', RowV w' base tE (.slice va (vs.length + 1) vc) (vs ++ [y]) → w.grownBy w' v.ownBlock → ((Value.slice va (vs.length + 1) vc).ownBlock = v.ownBlock ∨ ∃ k, (Value.slice va (vs.length + 1) vc).ownBlock = some k ∧ w.heap.size ≤ k) → wpList Tryd.prog ops Q rest (a.put o.dst (.slice va (vs.length + 1) vc)) w') : wpList Tryd.prog ops Q (o :: rest) a w :=
  wpList_plain hgd fun K hK => by
    have := step_appP (ops := ops) (w := w) (o := o) (a := a) (K := K) (Q := Q) (E := False) (cap := cap) (by simp [Region.wanted, hgd]) s x hu hin ho hown hs hx hc h1 hb hbase (fun va vc w' h2 h3 h4 => hK _ _ (h va vc w' h2 h3 h4))
    rwa [if_pos (by simp [Region.wanted, hgd])] at this
theorem Ent.ok.keeps {S : Nat → Prop} {w w' : World} {base : Nat} {x : Ent} (h : x.ok w base) (hk : Keeps S w w') (hn : ∀ k ∈ x.bl, ¬ S k) : x.ok w' base :=
  ⟨h.l.keeps hk (fun k e => hn k (by simp [Ent.bl, e])), h.w.keeps hk (fun k e => hn k (by simp [Ent.bl, e])), h.sm⟩
theorem Bk.keeps {S : Nat → Prop} {w w' : World} {base kb : Nat} {lv wv : Value} {held : Int} {E : List Ent} (h : Bk pfA pfB pfC w base kb lv wv held E) (hk : Keeps S w w') (h0 : ¬ S kb) (h1 : ∀ k, lv.ownBlock = some k → ¬ S k) (h2 : ∀ k, wv.ownBlock = some k → ¬ S k) (h3 : ∀ k ∈ blks E, ¬ S k) : Bk pfA pfB pfC w' base kb lv wv held E :=
  ⟨(hk.block kb h.lt h0).trans h.blk, h.lrow.keeps hk h1, h.wrow.keeps hk h2, h.ne, fun x hx => (h.ents x hx).keeps hk (fun k hk' => h3 k (List.mem_flatMap.2 ⟨x, hx, hk'⟩)), h.nodup⟩
/-- what a block is tagged with -/
def Tg (w : World) (k : Nat) (t : TypeId) : Prop := ∃ cur, w.heap[k]? = some (.cells cur t (0, 0))
theorem Tg.ne {w : World} {k : Nat} {t t' : TypeId} (h : Tg w k t) (h' : Tg w k t') (hn : t ≠ t') : False := by
  obtain ⟨c, hc⟩ := h
  obtain ⟨d, hd⟩ := h'
  rw [hc] at hd
  simp only [Option.some.injEq, Obj.cells.injEq] at hd
  exact hn hd.2.1
theorem Tg.lt {w : World} {k : Nat} {t : TypeId} (h : Tg w k t) : k < w.heap.size := by
  obtain ⟨c, hc⟩ := h
  exact (Array.getElem?_eq_some_iff.1 hc).1
theorem Bk.tagE {w : World} {base kb : Nat} {lv wv : Value} {held : Int} {E : List Ent} (h : Bk pfA pfB pfC w base kb lv wv held E) : ∀ k ∈ blks E, Tg w k 5 := fun k hk => by
  obtain ⟨x, hx, h1 | h1⟩ := mem_blks.1 hk
  · exact (h.ents x hx).l.tagB k h1
  · exact (h.ents x hx).w.tagB k h1
theorem RowV.tg {w : World} {base : Nat} {e : TypeId} {v : Value} {vs : List Value} (h : RowV w base e v vs) (k : Nat) (hk : v.ownBlock = some k) : Tg w k e := h.tag k hk
/-- blocks of other tags stay while the book is written -/
theorem kes_no {base X k : Nat} {w : World} {t : TypeId} {cs : Array Value} (hX : w.heap[X]? = some (.cells cs 45 (0, 0))) (hk : Tg w k t) (h1 : t ≠ 45) (h2 : t ≠ 34) : ¬ KeS base X w k := by
  rintro (rfl | ⟨_, h⟩)
  · exact hk.ne ⟨_, hX⟩ h1
  · exact hk.ne h h2
theorem inj_of {α : Type} {l : List α} (h : l.Nodup) {i j : Nat} (hi : i < l.length) (hj : j < l.length) (e : l[i] = l[j]) : i = j := by
  rcases Nat.lt_trichotomy i j with hl | hl | hl
  · exact absurd e (List.pairwise_iff_getElem.1 h i j hi hj hl)
  · exact hl
  · exact absurd e.symm (List.pairwise_iff_getElem.1 h j i hj hi hl)
/-- a reader, its row, the document's, where they stand -/
structure Ri where
  p : Nat
  g : Nat
  r : Nat
  pos : Nat
  why : Int
structure Ri.ok (w : World) (base : Nat) (v : Value) (zs : List Nat) (x : Ri) : Prop where
  rd : Rd w x.p x.g zs x.pos x.why
  rr : Rr w x.r v zs x.pos x.why
  gp : base ≤ x.p
  gr : base ≤ x.r
  w0 : 0 ≤ x.why
  w1 : x.why ≤ 12
def ptrD (x : Ri) : Value := .pointer (some ⟨x.p, 0, none⟩)
def ptrE (x : Ri) : Value := .pointer (some ⟨x.r, 0, none⟩)
/-- the shelf between two steps, its two rows by name -/
structure Rh (w0 : World) (X : Nat) (v : Value) (zs : List Nat) (L : List Ri) (As Bs : List Value) (A B : Value) (w : World) : Prop where
  below : Below w0.heap.size w0 w
  gx : w0.heap.size ≤ X
  sl : Sl w v zs
  vb : zs ≠ [] → ∀ k, v.ownBlock = some k → k < w0.heap.size
  len : zs.length ≤ 2147483647
  rows : ∃ lv wv held E, Bk v A B w w0.heap.size X lv wv held E ∧ E.length ≤ 4000
  ra : RowV w w0.heap.size 48 A As
  rb : RowV w w0.heap.size 49 B Bs
  ok : ∀ x ∈ L, x.ok w w0.heap.size v zs
  inP : (L.map Ri.p).Nodup
  inR : (L.map Ri.r).Nodup
def Rh.S (w0 : World) (X : Nat) (v : Value) (zs : List Nat) (L : List Ri) (w : World) : Prop := ∃ A B, Rh w0 X v zs L (L.map ptrD) (L.map ptrE) A B w
section
variable {w0 w w' : World} {X : Nat} {v : Value} {zs : List Nat} {L : List Ri} {As Bs : List Value} {A B : Value}
theorem Rh.size (h : Rh w0 X v zs L As Bs A B w) : w0.heap.size ≤ w.heap.size := h.below.size
/-- the blocks of tags that a step writes -/
def Wrt (w0 w : World) (S : Nat → Prop) : Prop := ∀ k, S k → k < w.heap.size → w0.heap.size ≤ k
theorem Ri.ok.keeps {S : Nat → Prop} {x : Ri} (h : x.ok w w0.heap.size v zs) (hk : Keeps S w w') (hp : ¬ S x.p) (hr : ¬ S x.r) (hg : ¬ S x.g) (hv : zs ≠ [] → ∀ k, v.ownBlock = some k → ¬ S k) : x.ok w' w0.heap.size v zs :=
  ⟨h.rd.keeps hk hp hg, h.rr.keeps hk hr hv, h.gp, h.gr, h.w0, h.w1⟩
/-- what changes nothing of the shelf -/
theorem Rh.keeps {S : Nat → Prop} (h : Rh w0 X v zs L As Bs A B w) (hk : Keeps S w w') (hS : ∀ k, S k → w0.heap.size ≤ k ∧ (k < w.heap.size → ¬ Tg w k 86 ∧ ¬ Tg w k 70 ∧ ¬ Tg w k 5 ∧ ¬ Tg w k 45 ∧ ¬ Tg w k 34 ∧ ¬ Tg w k 48 ∧ ¬ Tg w k 49)) : Rh w0 X v zs L As Bs A B w' := by
  obtain ⟨lv, wv, held, E, b, n⟩ := h.rows
  have nt : ∀ k t, Tg w k t → (t = 86 ∨ t = 70 ∨ t = 5 ∨ t = 45 ∨ t = 34 ∨ t = 48 ∨ t = 49) → ¬ S k := fun k t ht hh hs => by
    obtain ⟨h1, h2, h3, h4, h5, h6, h7⟩ := (hS k hs).2 ht.lt
    rcases hh with rfl | rfl | rfl | rfl | rfl | rfl | rfl
    · exact h1 ht
    · exact h2 ht
    · exact h3 ht
    · exact h4 ht
    · exact h5 ht
    · exact h6 ht
    · exact h7 ht
  have nv : zs ≠ [] → ∀ k, v.ownBlock = some k → ¬ S k := fun hz k hk' hs => by
    have h1 := (hS k hs).1
    have h2 := h.vb hz k hk'
    omega
  refine ⟨h.below.trans (hk.below h.size (fun k _ hs => (hS k hs).1)), h.gx, h.sl.keepsE hk nv, h.vb, h.len, ⟨lv, wv, held, E, b.keeps hk (nt X _ ⟨_, b.blk⟩ (by simp)) (fun k e => nt k _ (b.lrow.tag k e) (by simp)) (fun k e => nt k _ (b.wrow.tag k e) (by simp)) (fun k e => nt k _ (b.tagE k e) (by simp)), n⟩, h.ra.keeps hk (fun k e => nt k _ (h.ra.tg k e) (by simp)), h.rb.keeps hk (fun k e => nt k _ (h.rb.tg k e) (by simp)), fun x hx => ?_, h.inP, h.inR⟩
  have o := h.ok x hx
  exact o.keeps hk (nt _ _ ⟨_, o.rd.1⟩ (by simp)) (nt _ _ ⟨_, o.rr.1⟩ (by simp)) (nt _ _ ⟨_, o.rd.2.1⟩ (by simp)) nv
theorem Rh.of_below (h : Rh w0 X v zs L As Bs A B w) (hb : Below w.heap.size w w') : Rh w0 X v zs L As Bs A B w' := h.keeps (S := fun _ => False) (Keeps.of_below hb) (fun _ e => e.elim)
theorem Rh.cells (h : Rh w0 X v zs L As Bs A B w) : w.cell? ⟨X, 0, none⟩ = some v ∧ w.cell? ⟨X, 1, none⟩ = some A ∧ w.cell? ⟨X, 2, none⟩ = some B ∧ X < w.heap.size ∧ ∀ i, w.frozen? ⟨X, i, none⟩ = false := by
  obtain ⟨lv, wv, held, E, b, n⟩ := h.rows
  exact ⟨by rw [cell_of_row _ _ _ _ _ _ b.blk]; rfl, by rw [cell_of_row _ _ _ _ _ _ b.blk]; rfl, by rw [cell_of_row _ _ _ _ _ _ b.blk]; rfl, b.lt, b.thawed⟩
/-- a step on reader i -/
theorem Rh.step {i : Nat} {y : Nat × Int} (h : Rh w0 X v zs L As Bs A B w) (hi : i < L.length) (h1 : Rd w' L[i].p L[i].g zs y.1 y.2) (h2 : Rr w' L[i].r v zs y.1 y.2) (hk : Keeps (fun k => k = L[i].p ∨ k = L[i].r) w w') (hy0 : 0 ≤ y.2) (hy1 : y.2 ≤ 12) : Rh w0 X v zs (L.set i ⟨L[i].p, L[i].g, L[i].r, y.1, y.2⟩) As Bs A B w' := by
  obtain ⟨lv, wv, held, E, b, n⟩ := h.rows
  have o := h.ok L[i] (List.getElem_mem hi)
  have tp : Tg w L[i].p 86 := ⟨_, o.rd.1⟩
  have tr : Tg w L[i].r 70 := ⟨_, o.rr.1⟩
  have nt : ∀ k t, Tg w k t → t ≠ 86 → t ≠ 70 → ¬ (k = L[i].p ∨ k = L[i].r) := by
    rintro k t ht n1 n2 (rfl | rfl)
    · exact ht.ne tp n1
    · exact ht.ne tr n2
  have nv : zs ≠ [] → ∀ k, v.ownBlock = some k → ¬ (k = L[i].p ∨ k = L[i].r) := by
    rintro hz k hk' (e | e)
    · have := h.vb hz k hk'; have := o.gp; omega
    · have := h.vb hz k hk'; have := o.gr; omega
  have eP : (L.set i ⟨L[i].p, L[i].g, L[i].r, y.1, y.2⟩).map Ri.p = L.map Ri.p := by
    rw [List.map_set]
    apply List.ext_getElem (by simp)
    intro j a1 a2
    rw [List.getElem_set]
    split
    · next e => subst e; simp
    · rfl
  have eR : (L.set i ⟨L[i].p, L[i].g, L[i].r, y.1, y.2⟩).map Ri.r = L.map Ri.r := by
    rw [List.map_set]
    apply List.ext_getElem (by simp)
    intro j a1 a2
    rw [List.getElem_set]
    split
    · next e => subst e; simp
    · rfl
  refine ⟨h.below.trans (hk.below h.size ?_), h.gx, h.sl.keepsE hk nv, h.vb, h.len, ⟨lv, wv, held, E, b.keeps hk (nt X _ ⟨_, b.blk⟩ (by decide) (by decide)) (fun k e => nt k _ (b.lrow.tag k e) (by decide) (by decide)) (fun k e => nt k _ (b.wrow.tag k e) (by decide) (by decide)) (fun k e => nt k _ (b.tagE k e) (by decide) (by decide)), n⟩, h.ra.keeps hk (fun k e => nt k _ (h.ra.tg k e) (by decide) (by decide)), h.rb.keeps hk (fun k e => nt k _ (h.rb.tg k e) (by decide) (by decide)), fun x hx => ?_, by rw [eP]; exact h.inP, by rw [eR]; exact h.inR⟩
  · rintro k _ (rfl | rfl)
    · exact o.gp
    · exact o.gr
  · obtain ⟨j, hj, rfl⟩ := List.getElem_of_mem hx
    rw [List.length_set] at hj
    rw [List.getElem_set]
    split
    · next e =>
      subst e
      exact ⟨h1, h2, o.gp, o.gr, hy0, hy1⟩
    · next e =>
      have oj := h.ok L[j] (List.getElem_mem hj)
      refine oj.keeps hk ?_ ?_ (nt _ _ ⟨_, oj.rd.2.1⟩ (by decide) (by decide)) nv
      · rintro (q | q)
        · exact e (inj_of h.inP (by simpa using hi) (by simpa using hj) (by simpa using q.symm))
        · exact tr.ne (by rw [← q]; exact ⟨_, oj.rd.1⟩) (by decide)
      · rintro (q | q)
        · exact tp.ne (by rw [← q]; exact ⟨_, oj.rr.1⟩) (by decide)
        · exact e (inj_of h.inR (by simpa using hi) (by simpa using hj) (by simpa using q.symm))
end
end Go.Proofs.YtceljnkbkpgdjaaDoor
