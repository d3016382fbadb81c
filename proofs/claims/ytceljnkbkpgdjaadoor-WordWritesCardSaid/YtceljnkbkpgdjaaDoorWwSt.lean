/- WordWrites: the row of writers between two steps. Own work. -/
import Derived.Test.YtceljnkbkpgdjaaDoorBrMark
import Derived.Test.YtceljnkbkpgdjaaDoorLyAny
namespace Go.Proofs.YtceljnkbkpgdjaaDoor
open Go.RowKit Go.Shelf
set_option linter.unusedVariables false
variable {pfA pfB : Value}
theorem run_appP {w : World} {base : Nat} {t e : TypeId} {v : Value} {vs : List Value} {x : Value} {g cap : Nat} (ty : TypeId) (hu : Tryd.prog.underlying t = some (.slice e)) (hin : (Tryd.prog.info? e).map (fun i => (i.zero, i.size, i.bytes)) = some (some (.pointer none), 1, 8)) (hown : RowV w base e v vs) (hx : w.cell? ⟨g, 0, none⟩ = some x) (h1 : x.oneCell' = true) (hb : vs.length ≤ 1048576) (hbase : base ≤ w.heap.size) :
    ∃ v' w', (Builtin.append_ #[t, t] ty #[v, .slice (some ⟨g, 0, none⟩) 1 cap]).run Tryd.prog w = .ok v' w' ∧ RowV w' base e v' (vs ++ [x]) ∧ w.grownBy w' v.ownBlock ∧ (v'.ownBlock = v.ownBlock ∨ ∃ k, v'.ownBlock = some k ∧ w.heap.size ≤ k) := by
  obtain ⟨i, hi, hz0, hz1, hz2⟩ := info_parts hin
  have hnews : ∀ j u, [x][j]? = some u → w.cell? ((⟨g, 0, none⟩ : Addr).add j) = some u := fun j u hj => by
    rw [Addr.add_lit, Nat.zero_add]
    match j, hj with
    | 0, hj => rw [hx]; exact hj
  have hone : ∀ u ∈ [x], u.oneCell' = true := fun u hu => by obtain rfl := List.mem_singleton.1 hu; exact h1
  have fin : ∀ v' w', w'.ownsRow w.heap.size e 1 v' (vs.length + 1) (vs ++ [x]) → w.grownBy w' none → RowV w' base e v' (vs ++ [x]) ∧ w.grownBy w' v.ownBlock ∧ (v'.ownBlock = v.ownBlock ∨ ∃ k, v'.ownBlock = some k ∧ w.heap.size ≤ k) := fun v' w' ho hg => by
    rcases ho.2 with ⟨_, h0⟩ | ⟨g', cap', cur, rfl, hb', hg', hl, hm, hs, ht⟩
    · omega
    · refine ⟨.inr ⟨g', 0, cap', cur, by simp, Nat.le_trans hbase hb', hg', by simpa using hl, hm, by omega, by simpa using ht⟩, ⟨hg.os, hg.tape, hg.output, hg.size, fun k hk _ => hg.block k hk (fun e => by cases e)⟩, .inr ⟨g', rfl, hb'⟩⟩
  rcases hown with ⟨rfl, rfl⟩ | ⟨b, off, c, cur, rfl, hbb, hg, hl, hm, hs, ht⟩
  · obtain ⟨v', w', r1, r2, r3, _, r5⟩ := run_append_own_at (P := Tryd.prog) w w.heap.size t ty e i (.pointer none) 1 8 hu hi hz0 hz1 hz2 rfl (by omega) (.slice none 0 0) 0 [] ⟨rfl, .inl ⟨rfl, rfl⟩⟩ ⟨g, 0, none⟩ 1 cap [x] rfl hnews hone (by unfold maxLen; omega) (by omega) (Nat.le_refl _)
    exact ⟨v', w', r1, fin v' w' r2 r3⟩
  · by_cases hr : vs.length + 1 ≤ c
    · have hcell : w.cell? ⟨b, off + vs.length * i.size + 0, none⟩ = cur[off + vs.length]? := by rw [hz1, Nat.mul_one, Nat.add_zero]; exact cell_of_row _ _ _ _ _ _ hg
      have hru := run_append_room_cells (P := Tryd.prog) w t ty e i hu hi b off vs.length c ⟨g, 0, none⟩ 1 cap [x] (by rw [hz1]; rfl) hnews hone hr (fun j hj => by
        obtain rfl : j = 0 := by simpa using hj
        rw [hcell, Array.getElem?_eq_getElem (by omega)]
        rfl) (fun j _ => by simp [World.frozen?, hg])
      refine ⟨_, _, hru, ?_, ?_, .inl rfl⟩
      · rw [hz1, Nat.mul_one]
        refine .inr ⟨b, off, c, cur.setIfInBounds (off + vs.length) x, by simp, hbb, ?_, by simpa using hr, hm, by simpa using hs, ?_⟩
        · simp [World.setCells, World.setCell, Array.getElem?_modify, hg]
        · rw [Array.toList_setIfInBounds, List.length_append, List.length_singleton, drop_set_take _ _ _ _ (by simp; omega), ht]
      · rw [hz1, Nat.mul_one]
        exact ⟨rfl, rfl, rfl, by simp [World.setCells, World.setCell], fun k hk hne => Below.heap_setCell _ _ _ _ (fun e => hne (by subst e; rfl))⟩
    · obtain ⟨v', w', r1, r2, r3⟩ := run_append_arg_grows (P := Tryd.prog) w t ty e i (.pointer none) 1 8 hu hi hz0 hz1 hz2 rfl (by omega) ⟨b, off, none⟩ vs.length c vs (by simp) (fun j u hj => by
        rw [Addr.add_lit, cell_of_row _ _ _ _ _ _ hg, ← Array.getElem?_toList]
        have hj' := (List.getElem?_eq_some_iff.1 hj).1
        have : ((cur.toList.drop off).take vs.length)[j]? = vs[j]? := by rw [ht]
        rw [List.getElem?_take_of_lt hj', List.getElem?_drop] at this
        rw [this, hj]) ⟨g, 0, none⟩ 1 cap [x] rfl hnews (by omega) (by unfold maxLen; omega) (by omega)
      exact ⟨v', w', r1, fin v' w' r2 r3⟩
theorem step_appP {w : World} {base : Nat} {ops : Array Oper} {o : Oper} {a : Act} {K : Act → World → Prop} {Q : Exit → Act → World → Prop} {E : Prop} (hw : Region.wanted o (yielded ops a.tmps) = true) (s x : Operand) {tS tE : TypeId} (hu : Tryd.prog.underlying tS = some (.slice tE)) (hin : (Tryd.prog.info? tE).map (fun i => (i.zero, i.size, i.bytes)) = some (some (.pointer none), 1, 8))
    (ho : o.op = .call { callee := .builtin .append, args := #[s, x], argTypes := #[tS, tS] }) {v : Value} {vs : List Value} {y : Value} {g cap : Nat} (hown : RowV w base tE v vs) (hs : a.eval s = v) (hx : a.eval x = .slice (some ⟨g, 0, none⟩) 1 cap) (hc : w.cell? ⟨g, 0, none⟩ = some y) (h1 : y.oneCell' = true) (hb : vs.length ≤ 1048576) (hbase : base ≤ w.heap.size)
    (h : ∀ va vc w', RowV w' base tE (.slice va (vs.length + 1) vc) (vs ++ [y]) → w.grownBy w' v.ownBlock → ((Value.slice va (vs.length + 1) vc).ownBlock = v.ownBlock ∨ ∃ k, (Value.slice va (vs.length + 1) vc).ownBlock = some k ∧ w.heap.size ≤ k) → K (a.put o.dst (.slice va (vs.length + 1) vc)) w') : if Region.wanted o (yielded ops a.tmps) = true then Oper.wp Tryd.prog o a w K Q else E := by
  rw [if_pos hw]
  obtain ⟨v', w', hr, h2, h3, h4⟩ := run_appP o.type hu hin hown hc h1 hb hbase (cap := cap)
  obtain ⟨va, vc, rfl⟩ := h2.form
  rw [List.length_append, List.length_singleton] at hr h2 h4
  unfold Oper.wp execOp
  simp only [ho, resolve, invoke, builtin, Sem.run_bind, Sem.run_pure, Result.andThen_ok, List.map_toArray, List.map_cons, List.map_nil, hs, hx, hr]
  exact h va vc w' h2 h3 h4
theorem wpList_appP {w : World} {base : Nat} {ops : Array Oper} {rest : List Oper} {o : Oper} {a : Act} {Q : Exit → Act → World → Prop} (hgd : o.guard = none) (s x : Operand) {tS tE : TypeId} (hu : Tryd.prog.underlying tS = some (.slice tE)) (hin : (Tryd.prog.info? tE).map (fun i => (i.zero, i.size, i.bytes)) = some (some (.pointer none), 1, 8))
    (ho : o.op = .call { callee := .builtin .append, args := #[s, x], argTypes := #[tS, tS] }) {v : Value} {vs : List Value} {y : Value} {g cap : Nat} (hown : RowV w base tE v vs) (hs : a.eval s = v) (hx : a.eval x = .slice (some ⟨g, 0, none⟩) 1 cap) (hc : w.cell? ⟨g, 0, none⟩ = some y) (h1 : y.oneCell' = true) (hb : vs.length ≤ 1048576) (hbase : base ≤ w.heap.size)
    (h : ∀ va vc w', RowV w' base tE (.slice va (vs.length + 1) vc) (vs ++ [y]) → w.grownBy w' v.ownBlock → ((Value.slice va (vs.length + 1) vc).ownBlock = v.ownBlock ∨ ∃ k, (Value.slice va (vs.length + 1) vc).ownBlock = some k ∧ w.heap.size ≤ k) → wpList Tryd.prog ops Q rest (a.put o.dst (.slice va (vs.length + 1) vc)) w') : wpList Tryd.prog ops Q (o :: rest) a w :=
  wpList_plain hgd fun K hK => by
    have := step_appP (ops := ops) (w := w) (o := o) (a := a) (K := K) (Q := Q) (E := False) (cap := cap) (by simp [Region.wanted, hgd]) s x hu hin ho hown hs hx hc h1 hb hbase (fun va vc w' h2 h3 h4 => hK _ _ (h va vc w' h2 h3 h4))
    rwa [if_pos (by simp [Region.wanted, hgd])] at this
theorem Ent.ok.keeps {S : Nat → Prop} {w w' : World} {base : Nat} {x : Ent} (h : x.ok w base) (hk : Keeps S w w') (hn : ∀ k ∈ x.bl, ¬ S k) : x.ok w' base :=
  ⟨h.l.keeps hk (fun k e => hn k (by simp [Ent.bl, e])), h.w.keeps hk (fun k e => hn k (by simp [Ent.bl, e])), h.sm⟩
theorem Bk.keeps {S : Nat → Prop} {w w' : World} {base kb : Nat} {lv wv : Value} {held : Int} {E : List Ent} (h : Bk pfA pfB w base kb lv wv held E) (hk : Keeps S w w') (h0 : ¬ S kb) (h1 : ∀ k, lv.ownBlock = some k → ¬ S k) (h2 : ∀ k, wv.ownBlock = some k → ¬ S k) (h3 : ∀ k ∈ blks E, ¬ S k) : Bk pfA pfB w' base kb lv wv held E :=
  ⟨(hk.block kb h.lt h0).trans h.blk, h.lrow.keeps hk h1, h.wrow.keeps hk h2, h.ne, fun x hx => (h.ents x hx).keeps hk (fun k hk' => h3 k (List.mem_flatMap.2 ⟨x, hx, hk'⟩)), h.nodup⟩
/-- what a block is tagged with -/
def Tg (w : World) (k : Nat) (t : TypeId) : Prop := ∃ cur, w.heap[k]? = some (.cells cur t (0, 0))
theorem Tg.ne {w : World} {k : Nat} {t t' : TypeId} (h : Tg w k t) (h' : Tg w k t') (hn : t ≠ t') : False := by
  obtain ⟨c, hc⟩ := h
  obtain ⟨d, hd⟩ := h'
  rw [hc] at hd
  simp only [Option.some.injEq, Obj.cells.injEq] at hd
  exact hn hd.2.1
theorem Tg.lt {w : World} {k : Nat} {t : TypeId} (h : Tg w k t) : k < w.heap.size := by
  obtain ⟨c, hc⟩ := h
  exact (Array.getElem?_eq_some_iff.1 hc).1
theorem Bk.tagE {w : World} {base kb : Nat} {lv wv : Value} {held : Int} {E : List Ent} (h : Bk pfA pfB w base kb lv wv held E) : ∀ k ∈ blks E, Tg w k 5 := fun k hk => by
  obtain ⟨x, hx, h1 | h1⟩ := mem_blks.1 hk
  · exact (h.ents x hx).l.tagB k h1
  · exact (h.ents x hx).w.tagB k h1
/-- a writer and the document's: their blocks, their rows, what they hold -/
structure Wi where
  p : Nat
  r : Nat
  v : Value
  u : Value
  zs : List Nat
  why : Int
structure Wi.ok (w : World) (base : Nat) (c : Nat → Nat) (i : Nat) (x : Wi) : Prop where
  wr : Wr w x.p x.v x.zs x.why base
  rw : Rw w x.r x.u x.zs x.why base
  gp : base ≤ x.p
  gr : base ≤ x.r
  cp : c x.p = 2 * i + 2
  cr : c x.r = 2 * i + 3
  cv : ∀ k, x.v.ownBlock = some k → c k = 2 * i + 2
  cu : ∀ k, x.u.ownBlock = some k → c k = 2 * i + 3
def ptrP (x : Wi) : Value := .pointer (some ⟨x.p, 0, none⟩)
def ptrR (x : Wi) : Value := .pointer (some ⟨x.r, 0, none⟩)
/-- the row of writers between two steps; c tells whose each block is -/
structure Ws (w0 : World) (X : Nat) (c : Nat → Nat) (L : List Wi) (w : World) : Prop where
  below : Below w0.heap.size w0 w
  gx : w0.heap.size ≤ X
  rows : ∃ A B lv wv held E, Bk A B w w0.heap.size X lv wv held E ∧ E.length ≤ 4000 ∧ RowV w w0.heap.size 51 A (L.map ptrP) ∧ RowV w w0.heap.size 53 B (L.map ptrR) ∧ ∀ k ∈ blks E, c k = 0
  ok : ∀ i (h : i < L.length), (L[i]).ok w w0.heap.size c i
theorem Wi.ok.sp {w : World} {base i : Nat} {c : Nat → Nat} {x : Wi} (h : x.ok w base c i) : Sp x.p x.v x.r x.u := by
  have h1 := h.cp
  have h2 := h.cr
  refine ⟨fun e => ?_, fun e => ?_, fun e => ?_, fun k hk e => ?_⟩
  · rw [e] at h1; omega
  · have := h.cv _ e; omega
  · have := h.cu _ e; omega
  · have h3 := h.cv _ hk; have h4 := h.cu _ e; omega
theorem Wi.ok.keeps {S : Nat → Prop} {w w' : World} {base i : Nat} {c c' : Nat → Nat} {x : Wi} (h : x.ok w base c i) (hk : Keeps S w w') (hS : ∀ k, S k → c k ≠ 2 * i + 2 ∧ c k ≠ 2 * i + 3) (hc : ∀ k, k < w.heap.size → c' k = c k) : x.ok w' base c' i := by
  refine ⟨h.wr.keeps hk (fun hs => (hS _ hs).1 h.cp) (fun k e hs => (hS _ hs).1 (h.cv k e)), h.rw.keeps hk (fun hs => (hS _ hs).2 h.cr) (fun k e hs => (hS _ hs).2 (h.cu k e)), h.gp, h.gr, ?_, ?_, fun k e => ?_, fun k e => ?_⟩
  · rw [hc _ h.wr.lt]; exact h.cp
  · rw [hc _ h.rw.lt]; exact h.cr
  · rw [hc _ (h.wr.2.1.lt k e).2]; exact h.cv k e
  · rw [hc _ (h.rw.2.1.lt k e).2]; exact h.cu k e
theorem Wi.ok.below {w w' : World} {base i : Nat} {c : Nat → Nat} {x : Wi} (h : x.ok w base c i) (hb : Below w.heap.size w w') : x.ok w' base c i := h.keeps (S := fun _ => False) (Keeps.of_below hb) (fun _ e => e.elim) (fun _ _ => rfl)
theorem Ws.size {w0 w : World} {X : Nat} {c : Nat → Nat} {L : List Wi} (h : Ws w0 X c L w) : w0.heap.size ≤ w.heap.size := h.below.size
theorem Ws.of_below {w0 w w' : World} {X : Nat} {c : Nat → Nat} {L : List Wi} (h : Ws w0 X c L w) (hb : Below w.heap.size w w') : Ws w0 X c L w' := by
  obtain ⟨A, B, lv, wv, held, E, b, n, ra, rb, ce⟩ := h.rows
  have k : Keeps (fun _ => False) w w' := Keeps.of_below hb
  exact ⟨h.below.trans (hb.mono h.size), h.gx, ⟨A, B, lv, wv, held, E, b.keeps k id (fun _ _ => id) (fun _ _ => id) (fun _ _ => id), n, ra.keeps k (fun _ _ => id), rb.keeps k (fun _ _ => id), ce⟩, fun i hi => (h.ok i hi).below hb⟩
/-- a step was laid on writer i -/
theorem Ws.laid {w0 w w' : World} {X i : Nat} {c : Nat → Nat} {L : List Wi} {x : List Nat × Int} {e : Ending} (h : Ws w0 X c L w) (hi : i < L.length) (hp : LaysPost w L[i].p L[i].r w0.heap.size L[i].v L[i].u x e w') : ∃ c' y, Ws w0 X c' (L.set i y) w' ∧ y.zs = x.1 ∧ y.why = x.2 ∧ y.p = L[i].p ∧ y.r = L[i].r := by
  obtain ⟨A, B, lv, wv, held, E, b, n, ra, rb, ce⟩ := h.rows
  obtain ⟨_, v', u', a1, a2, k, a4, a5, sp⟩ := hp
  have ho := h.ok i hi
  have hc : ∀ q, (Foot L[i].p L[i].v q ∨ Foot L[i].r L[i].u q) → c q = 2 * i + 2 ∨ c q = 2 * i + 3 := by
    rintro q ((rfl | hq) | (rfl | hq))
    · exact .inl ho.cp
    · exact .inl (ho.cv q hq)
    · exact .inr ho.cr
    · exact .inr (ho.cu q hq)
  have ht : ∀ q, (Foot L[i].p L[i].v q ∨ Foot L[i].r L[i].u q) → Tg w q 73 ∨ Tg w q 55 ∨ Tg w q 5 := by
    rintro q ((rfl | hq) | (rfl | hq))
    · exact .inl ⟨_, ho.wr.1⟩
    · exact .inr (.inr (ho.wr.2.1.tagB q hq))
    · exact .inr (.inl ⟨_, ho.rw.1⟩)
    · exact .inr (.inr (ho.rw.2.1.tagB q hq))
  have hg : ∀ q, (Foot L[i].p L[i].v q ∨ Foot L[i].r L[i].u q) → w0.heap.size ≤ q := by
    rintro q (hq | hq)
    · exact (ho.wr.foot ho.gp hq).1
    · exact (ho.rw.foot ho.gr hq).1
  have nt : ∀ q t, Tg w q t → t ≠ 73 → t ≠ 55 → t ≠ 5 → ¬ (Foot L[i].p L[i].v q ∨ Foot L[i].r L[i].u q) := fun q t hq h1 h2 h3 hf => by
    rcases ht q hf with hf | hf | hf
    · exact hq.ne hf h1
    · exact hq.ne hf h2
    · exact hq.ne hf h3
  obtain ⟨c', hc'⟩ : ∃ c' : Nat → Nat, c' = fun q => if q < w.heap.size then c q else if u'.ownBlock = some q then 2 * i + 3 else 2 * i + 2 := ⟨_, rfl⟩
  have hold : ∀ q, q < w.heap.size → c' q = c q := fun q hq => by rw [hc']; exact if_pos hq
  refine ⟨c', ⟨L[i].p, L[i].r, v', u', x.1, x.2⟩, ⟨h.below.trans (k.below h.size (fun q _ hq => hg q hq)), h.gx, ⟨A, B, lv, wv, held, E, b.keeps k (nt X _ ⟨_, b.blk⟩ (by decide) (by decide) (by decide)) (fun q hq => nt q _ (b.lrow.tag q hq) (by decide) (by decide) (by decide)) (fun q hq => nt q _ (b.wrow.tag q hq) (by decide) (by decide) (by decide)) (fun q hq hf => ?_), n, ?_, ?_, fun q hq => ?_⟩, fun j hj => ?_⟩, rfl, rfl, rfl, rfl⟩
  · have := ce q hq
    rcases hc q hf with h1 | h1 <;> omega
  · have e1 : (L.set i ⟨L[i].p, L[i].r, v', u', x.1, x.2⟩).map ptrP = L.map ptrP := by
      rw [List.map_set]
      apply List.ext_getElem (by simp)
      intro j h1 h2
      rw [List.getElem_set]
      split
      · next e => subst e; simp [ptrP]
      · rfl
    rw [e1]
    exact ra.keeps k (fun q hq => nt q _ (ra.tag q hq) (by decide) (by decide) (by decide))
  · have e1 : (L.set i ⟨L[i].p, L[i].r, v', u', x.1, x.2⟩).map ptrR = L.map ptrR := by
      rw [List.map_set]
      apply List.ext_getElem (by simp)
      intro j h1 h2
      rw [List.getElem_set]
      split
      · next e => subst e; simp [ptrR]
      · rfl
    rw [e1]
    exact rb.keeps k (fun q hq => nt q _ (rb.tag q hq) (by decide) (by decide) (by decide))
  · rw [hold q (b.tagE q hq).lt]
    exact ce q hq
  · rw [List.length_set] at hj
    rw [List.getElem_set]
    split
    · next e =>
      subst e
      refine ⟨a1, a2, ho.gp, ho.gr, ?_, ?_, fun q hq => ?_, fun q hq => ?_⟩
      · show c' L[i].p = _
        rw [hold _ ho.wr.lt]; exact ho.cp
      · show c' L[i].r = _
        rw [hold _ ho.rw.lt]; exact ho.cr
      · replace hq : v'.ownBlock = some q := hq
        by_cases hl : q < w.heap.size
        · rw [hold q hl]
          rcases a4 with a4 | ⟨q', a4, hl'⟩
          · exact ho.cv q (a4.symm.trans hq)
          · rw [a4] at hq
            cases hq
            omega
        · rw [hc']
          show (if q < w.heap.size then c q else if u'.ownBlock = some q then 2 * i + 3 else 2 * i + 2) = _
          rw [if_neg hl, if_neg (sp.vu q hq)]
      · replace hq : u'.ownBlock = some q := hq
        by_cases hl : q < w.heap.size
        · rw [hold q hl]
          rcases a5 with a5 | ⟨q', a5, hl'⟩
          · exact ho.cu q (a5.symm.trans hq)
          · rw [a5] at hq
            cases hq
            omega
        · rw [hc']
          show (if q < w.heap.size then c q else if u'.ownBlock = some q then 2 * i + 3 else 2 * i + 2) = _
          rw [if_neg hl, if_pos hq]
    · next e =>
      refine (h.ok j hj).keeps k (fun q hq => ?_) hold
      rcases hc q hq with h1 | h1 <;> omega
end Go.Proofs.YtceljnkbkpgdjaaDoor
