import Derived.Test.YtddgoncbdlhhhaaGreatR00
import Derived.Below
import Derived.WalkKit
import Derived.ProofKit
import Derived.OpenShut
import Derived.Maps.AppendAt
import Derived.ArgAppend
import Derived.Test.YtddgoncbdlhhhaaGreatProg
import Derived.WalkSpells
import Derived.Deep.RegionHeld3
/- bytes that come in. Own work. -/
namespace Go.Proofs.YtddgoncbdlhhhaaGreat
open Go.ChangeShapes Go.WideShapes Go.ChangeAt Go.RowKit
/-- what is told of a slice of integers that came in -/
def IsRow (k : IntKind) (w : World) (a : Option Addr) (len cap : Nat) (zs : List Int) : Prop :=
  (a = none ∧ len = 0 ∧ cap = 0 ∧ zs = []) ∨
  ∃ x, a = some x ∧ len ≤ cap ∧ cap ≤ maxLen ∧ zs.length = cap ∧ (∀ i, i < zs.length → w.cell? (x.add i) = some (.int k (zs.getD i 0))) ∧ ∀ n ∈ zs, (Lit.int k n).wf = true
theorem sl_of_row {w : World} {a : Option Addr} {len cap : Nat} {zs : List Int} (h : IsRow .u8 w a len cap zs) : ∃ p : List Nat, p.length = len ∧ Sl w (.slice a len cap) p := by
  rcases h with ⟨rfl, rfl, rfl, _⟩ | ⟨x, rfl, hl, hm, hz, hc, hw⟩
  · exact ⟨[], rfl, none, 0, rfl, by simp, by simp [maxLen], by simp, fun _ => rfl, fun i hi => by simp at hi⟩
  · refine ⟨(zs.take len).map Int.toNat, by simp; omega, some x, cap, ?_, by simp; omega, hm, ?_, by simp, ?_⟩
    · congr 1
      simp; omega
    · intro z hz'
      obtain ⟨y, hy, rfl⟩ := List.mem_map.1 hz'
      have := bounds_u8 (hw y (List.mem_of_mem_take hy))
      omega
    · intro i hi
      have hi' : i < len := by simp at hi; omega
      obtain ⟨b, o, rfl, hc'⟩ := ints_at hc (show 0 < zs.length by omega)
      refine ⟨b, o, rfl, ?_⟩
      rw [hc' i (by omega)]
      have hb := bounds_u8 (hw zs[i] (List.getElem_mem (by omega)))
      have e1 : zs.getD i 0 = zs[i] := by rw [List.getD_eq_getElem?_getD, List.getElem?_eq_getElem (by omega)]; rfl
      have e2 : ((zs.take len).map Int.toNat).getD i 0 = zs[i].toNat := by
        rw [List.getD_eq_getElem?_getD, List.getElem?_map, List.getElem?_take, if_pos hi', List.getElem?_eq_getElem (by omega)]
        rfl
      rw [e1, e2]
      congr 2
      omega
end Go.Proofs.YtddgoncbdlhhhaaGreat
/- Rows of one-cell values at an offset: append, the tail. Own work. -/
namespace Go.Proofs.YtddgoncbdlhhhaaGreat
open Go.RowKit
/-- a row of values of one cell, in a block of its own from an offset on -/
def RowV (w : World) (base : Nat) (e : TypeId) (v : Value) (vs : List Value) : Prop :=
  (v = .slice none 0 0 ∧ vs = []) ∨ ∃ g off cap cur, v = .slice (some ⟨g, off, none⟩) vs.length cap ∧ base ≤ g ∧ w.heap[g]? = some (.cells cur e (0, 0)) ∧ vs.length ≤ cap ∧ cap ≤ maxLen ∧ cur.size = off + cap ∧ (cur.toList.drop off).take vs.length = vs
theorem RowV.nil (w : World) (base : Nat) (e : TypeId) : RowV w base e (.slice none 0 0) [] := .inl ⟨rfl, rfl⟩
theorem RowV.form {w : World} {base : Nat} {e : TypeId} {v : Value} {vs : List Value} (h : RowV w base e v vs) : ∃ a c, v = .slice a vs.length c := by
  rcases h with ⟨rfl, rfl⟩ | ⟨g, off, cap, cur, rfl, _⟩
  · exact ⟨none, 0, rfl⟩
  · exact ⟨_, _, rfl⟩
theorem RowV.lt {w : World} {base : Nat} {e : TypeId} {v : Value} {vs : List Value} (h : RowV w base e v vs) : ∀ k, v.ownBlock = some k → base ≤ k ∧ k < w.heap.size := by
  rcases h with ⟨rfl, rfl⟩ | ⟨g, off, cap, cur, rfl, hb, hg, _⟩
  · intro k hk; cases hk
  · intro k hk
    cases hk
    exact ⟨hb, (Array.getElem?_eq_some_iff.1 hg).1⟩
theorem RowV.keeps {S : Nat → Prop} {w w' : World} {base : Nat} {e : TypeId} {v : Value} {vs : List Value} (h : RowV w base e v vs) (hk : Keeps S w w') (hn : ∀ k, v.ownBlock = some k → ¬ S k) : RowV w' base e v vs := by
  rcases h with h | ⟨g, off, cap, cur, rfl, hb, hg, r⟩
  · exact .inl h
  · exact .inr ⟨g, off, cap, cur, rfl, hb, by rw [hk.block g (Array.getElem?_eq_some_iff.1 hg).1 (hn g rfl)]; exact hg, r⟩
theorem RowV.tag {w : World} {base : Nat} {e : TypeId} {v : Value} {vs : List Value} (h : RowV w base e v vs) : ∀ k, v.ownBlock = some k → ∃ cur, w.heap[k]? = some (.cells cur e (0, 0)) := by
  rcases h with ⟨rfl, rfl⟩ | ⟨g, off, cap, cur, rfl, hb, hg, _⟩
  · intro k hk; cases hk
  · intro k hk
    cases hk
    exact ⟨cur, hg⟩
theorem RowV.cell {w : World} {base : Nat} {e : TypeId} {vs : List Value} {g off n cap : Nat} (h : RowV w base e (.slice (some ⟨g, off, none⟩) n cap) vs) (j : Nat) (hj : j < vs.length) : w.cell? ⟨g, off + j, none⟩ = some vs[j] := by
  rcases h with ⟨h, _⟩ | ⟨g', off', cap', cur, h, hb, hg, hl, hm, hs, ht⟩
  · simp at h
  · simp only [Value.slice.injEq, Option.some.injEq, Addr.mk.injEq, and_true] at h
    obtain ⟨⟨rfl, rfl⟩, rfl, rfl⟩ := h
    rw [cell_of_row _ _ _ _ _ _ hg, ← Array.getElem?_toList]
    have : ((cur.toList.drop off).take vs.length)[j]? = vs[j]? := by rw [ht]
    rw [List.getElem?_take_of_lt hj, List.getElem?_drop] at this
    rw [this, List.getElem?_eq_getElem hj]
theorem RowV.some_of {w : World} {base : Nat} {e : TypeId} {v : Value} {vs : List Value} (h : RowV w base e v vs) (hp : 0 < vs.length) : ∃ g off cap, v = .slice (some ⟨g, off, none⟩) vs.length cap ∧ vs.length ≤ cap := by
  rcases h with ⟨_, rfl⟩ | ⟨g, off, cap, cur, rfl, hb, hg, hl, _⟩
  · simp at hp
  · exact ⟨g, off, cap, rfl, hl⟩
/-- the row without its first -/
theorem RowV.tail {w : World} {base : Nat} {e : TypeId} {x : Value} {vs : List Value} {g off n cap : Nat} (h : RowV w base e (.slice (some ⟨g, off, none⟩) n cap) (x :: vs)) : RowV w base e (.slice (some ⟨g, off + 1, none⟩) vs.length (cap - 1)) vs := by
  rcases h with ⟨h, _⟩ | ⟨g', off', cap', cur, h, hb, hg, hl, hm, hs, ht⟩
  · simp at h
  · simp only [Value.slice.injEq, Option.some.injEq, Addr.mk.injEq, and_true] at h
    obtain ⟨⟨rfl, rfl⟩, rfl, rfl⟩ := h
    simp only [List.length_cons] at hl ht
    refine .inr ⟨g, off + 1, cap - 1, cur, rfl, hb, hg, by omega, by omega, by omega, ?_⟩
    have := congrArg (List.drop 1) ht
    rw [List.drop_take, List.drop_drop] at this
    simpa using this
theorem drop_set_take (l : List Value) (off n : Nat) (x : Value) (h : off + n < l.length) : ((l.set (off + n) x).drop off).take (n + 1) = (l.drop off).take n ++ [x] := by
  rw [List.drop_set, if_neg (by omega), show off + n - off = n by omega, List.take_add_one, List.getElem?_set_self (by simp; omega), List.take_set_of_le (Nat.le_refl _)]
  rfl
/-- append of one value -/
theorem run_appV {w : World} {base : Nat} {t e : TypeId} {v : Value} {vs : List Value} {x : Value} {g cap : Nat} (ty : TypeId) (hu : Tryz.prog.underlying t = some (.slice e)) (hin : (Tryz.prog.info? e).map (fun i => (i.zero, i.size, i.bytes)) = some (some (.slice none 0 0), 1, 24)) (hown : RowV w base e v vs) (hx : w.cell? ⟨g, 0, none⟩ = some x) (h1 : x.oneCell' = true) (hb : vs.length ≤ 1048576) (hbase : base ≤ w.heap.size) :
    ∃ v' w', (Builtin.append_ #[t, t] ty #[v, .slice (some ⟨g, 0, none⟩) 1 cap]).run Tryz.prog w = .ok v' w' ∧ RowV w' base e v' (vs ++ [x]) ∧ w.grownBy w' v.ownBlock ∧ (v'.ownBlock = v.ownBlock ∨ ∃ k, v'.ownBlock = some k ∧ w.heap.size ≤ k) := by
  obtain ⟨i, hi, hz0, hz1, hz2⟩ := info_parts hin
  have hnews : ∀ j u, [x][j]? = some u → w.cell? ((⟨g, 0, none⟩ : Addr).add j) = some u := fun j u hj => by
    rw [Addr.add_lit, Nat.zero_add]
    match j, hj with
    | 0, hj => rw [hx]; exact hj
  have hone : ∀ u ∈ [x], u.oneCell' = true := fun u hu => by obtain rfl := List.mem_singleton.1 hu; exact h1
  have fin : ∀ v' w', w'.ownsRow w.heap.size e 1 v' (vs.length + 1) (vs ++ [x]) → w.grownBy w' none → RowV w' base e v' (vs ++ [x]) ∧ w.grownBy w' v.ownBlock ∧ (v'.ownBlock = v.ownBlock ∨ ∃ k, v'.ownBlock = some k ∧ w.heap.size ≤ k) := fun v' w' ho hg => by
    rcases ho.2 with ⟨_, h0⟩ | ⟨g', cap', cur, rfl, hb', hg', hl, hm, hs, ht⟩
    · omega
    · refine ⟨.inr ⟨g', 0, cap', cur, by simp, Nat.le_trans hbase hb', hg', by simpa using hl, hm, by omega, by simpa using ht⟩, ⟨hg.os, hg.tape, hg.output, hg.size, fun k hk _ => hg.block k hk (fun e => by cases e)⟩, .inr ⟨g', rfl, hb'⟩⟩
  rcases hown with ⟨rfl, rfl⟩ | ⟨b, off, c, cur, rfl, hbb, hg, hl, hm, hs, ht⟩
  · obtain ⟨v', w', r1, r2, r3, _, r5⟩ := run_append_own_at (P := Tryz.prog) w w.heap.size t ty e i (.slice none 0 0) 1 24 hu hi hz0 hz1 hz2 rfl (by omega) (.slice none 0 0) 0 [] ⟨rfl, .inl ⟨rfl, rfl⟩⟩ ⟨g, 0, none⟩ 1 cap [x] rfl hnews hone (by unfold maxLen; omega) (by omega) (Nat.le_refl _)
    exact ⟨v', w', r1, fin v' w' r2 r3⟩
  · by_cases hr : vs.length + 1 ≤ c
    · have hcell : w.cell? ⟨b, off + vs.length * i.size + 0, none⟩ = cur[off + vs.length]? := by rw [hz1, Nat.mul_one, Nat.add_zero]; exact cell_of_row _ _ _ _ _ _ hg
      have hru := run_append_room_cells (P := Tryz.prog) w t ty e i hu hi b off vs.length c ⟨g, 0, none⟩ 1 cap [x] (by rw [hz1]; rfl) hnews hone hr (fun j hj => by
        obtain rfl : j = 0 := by simpa using hj
        rw [hcell, Array.getElem?_eq_getElem (by omega)]
        rfl) (fun j _ => by simp [World.frozen?, hg])
      refine ⟨_, _, hru, ?_, ?_, .inl rfl⟩
      · rw [hz1, Nat.mul_one]
        refine .inr ⟨b, off, c, cur.setIfInBounds (off + vs.length) x, by simp, hbb, ?_, by simpa using hr, hm, by simpa using hs, ?_⟩
        · simp [World.setCells, World.setCell, Array.getElem?_modify, hg]
        · rw [Array.toList_setIfInBounds, List.length_append, List.length_singleton, drop_set_take _ _ _ _ (by simp; omega), ht]
      · rw [hz1, Nat.mul_one]
        exact ⟨rfl, rfl, rfl, by simp [World.setCells, World.setCell], fun k hk hne => Below.heap_setCell _ _ _ _ (fun e => hne (by subst e; rfl))⟩
    · obtain ⟨v', w', r1, r2, r3⟩ := run_append_arg_grows (P := Tryz.prog) w t ty e i (.slice none 0 0) 1 24 hu hi hz0 hz1 hz2 rfl (by omega) ⟨b, off, none⟩ vs.length c vs (by simp) (fun j u hj => by
        rw [Addr.add_lit, cell_of_row _ _ _ _ _ _ hg, ← Array.getElem?_toList]
        have hj' := (List.getElem?_eq_some_iff.1 hj).1
        have : ((cur.toList.drop off).take vs.length)[j]? = vs[j]? := by rw [ht]
        rw [List.getElem?_take_of_lt hj', List.getElem?_drop] at this
        rw [this, hj]) ⟨g, 0, none⟩ 1 cap [x] rfl hnews (by omega) (by unfold maxLen; omega) (by omega)
      exact ⟨v', w', r1, fin v' w' r2 r3⟩
end Go.Proofs.YtddgoncbdlhhhaaGreat
/- Operations of a region that draws, taken by hand. Own work. -/
namespace Go.Proofs.YtddgoncbdlhhhaaGreat
open Go.RowKit
theorem takeH {P : Program} {md : Region.Mode} {ops : Array Oper} {Q : Exit → Act → World → Prop} {S : World → Prop} {i d : Nat} {oi : Oper} {v : Value} {fuel : Nat} {listed : Array Bool} {a : Act} {w : World} (hi : ops[i]? = some oi) (hd : oi.dst = some d)
    (hs : Region.noSelect ops = true) (hf : Region.free md ops listed i = true) (hr : (Region.ready md ops listed).contains i = true)
    (hQ : ∀ c a w, Q (.panic c) (a.put (some d) v) w → Q (.panic c) a w) (hy : YieldsIf P ops S oi v a) (hS : S w)
    (h : wpAnyH P md ops Q S fuel (listed.setIfInBounds i true) (a.put (some d) v) w) : wpAnyH P md ops Q S (fuel + 1) listed a w := by
  rw [← hd] at h hQ
  exact wpAnyH_take hi hs hf hr hQ hy hS h
/-- a call of a Go function, whatever it answers -/
theorem step_call3 {P : Program} {ops : Array Oper} {o : Oper} {a : Act} {w : World} {K : Act → World → Prop} {Q : Exit → Act → World → Prop} {E : Prop} (hw : Region.wanted o (yielded ops a.tmps) = true)
    (f : FuncId) (xs : Array Operand) (ats : Array TypeId) (ho : o.op = .call { callee := .value (.func f), args := xs, argTypes := ats }) (he : ∀ args w, (callFunc f args).run P w = .ok (.enter f args) w) (args : Array Value) (hargs : #[] ++ xs.map a.eval ++ #[] = args) {R : Value → World → Prop}
    (hc : Calls P f args w fun e w' => ∃ v, e = .returned v ∧ R v w') (hK : ∀ v w', R v w' → K (a.put o.dst v) w') :
    if Region.wanted o (yielded ops a.tmps) = true then Oper.wp P o a w K Q else E := by
  rw [if_pos hw]
  have e1 : execOp a.eval o = callFunc f args := by
    cases o
    simp only at ho
    subst ho
    rw [← hargs]
    rfl
  unfold Oper.wp
  rw [e1, he args w]
  rw [Oper.upon_enter]
  refine hc.mono ?_
  rintro e w' ⟨v, rfl, h⟩
  exact hK v w' h
/-- one of the operations that may come next: a call -/
theorem readyCall {P : Program} {md : Region.Mode} {ops : Array Oper} {Q : Exit → Act → World → Prop} {S : World → Prop} {i d : Nat} {o : Oper} {fuel : Nat} {listed : Array Bool} {a : Act} {w : World} {rs : List Nat} (hi : ops[i]? = some o) (hd : o.dst = some d) (hw : Region.wanted o (yielded ops a.tmps) = true)
    (f : FuncId) (xs : Array Operand) (ats : Array TypeId) (ho : o.op = .call { callee := .value (.func f), args := xs, argTypes := ats }) (he : ∀ args w, (callFunc f args).run P w = .ok (.enter f args) w) (args : Array Value) (hargs : #[] ++ xs.map a.eval ++ #[] = args) {R : Value → World → Prop}
    (hc : Calls P f args w fun e w' => ∃ v, e = .returned v ∧ R v w') (hS : ∀ v w', R v w' → S w') (hK : ∀ v w', R v w' → S w' → wpAnyH P md ops Q S fuel (listed.setIfInBounds i true) (a.put (some d) v) w') (hs : AllReadyH P md ops Q S fuel listed a w rs) : AllReadyH P md ops Q S fuel listed a w (i :: rs) := by
  rw [← hd] at hK
  exact AllReadyH.cons hi (fun K hK' => step_call3 hw f xs ats ho he args hargs hc (fun v w' hR => hK'.out _ _ (hS v w' hR) (hK v w' hR))) hs
/-- one of the operations that may come next: a value is read -/
theorem readyVal {P : Program} {md : Region.Mode} {ops : Array Oper} {Q : Exit → Act → World → Prop} {S : World → Prop} {i d : Nat} {o : Oper} {fuel : Nat} {listed : Array Bool} {a : Act} {w : World} {rs : List Nat} (hi : ops[i]? = some o) (hd : o.dst = some d) (hw : Region.wanted o (yielded ops a.tmps) = true) (v : Value) (hv : (execOp a.eval o).run P w = .ok (.value v) w) (hS : S w)
    (hK : wpAnyH P md ops Q S fuel (listed.setIfInBounds i true) (a.put (some d) v) w) (hs : AllReadyH P md ops Q S fuel listed a w rs) : AllReadyH P md ops Q S fuel listed a w (i :: rs) := by
  rw [← hd] at hK
  refine AllReadyH.cons hi (fun K hK' => ?_) hs
  rw [if_pos hw]
  unfold Oper.wp
  rw [hv, Oper.upon_value]
  exact hK'.out _ _ hS (fun _ => hK)
/-- one of the operations that may come next: a store -/
theorem readySkip {P : Program} {md : Region.Mode} {ops : Array Oper} {Q : Exit → Act → World → Prop} {S : World → Prop} {i : Nat} {o : Oper} {fuel : Nat} {listed : Array Bool} {a : Act} {w w' : World} {rs : List Nat} (hi : ops[i]? = some o) (hd : o.dst = none) (hw : Region.wanted o (yielded ops a.tmps) = true) (hv : (execOp a.eval o).run P w = .ok .skip w') (hS : S w')
    (hK : wpAnyH P md ops Q S fuel (listed.setIfInBounds i true) a w') (hs : AllReadyH P md ops Q S fuel listed a w rs) : AllReadyH P md ops Q S fuel listed a w (i :: rs) := by
  refine AllReadyH.cons hi (fun K hK' => ?_) hs
  rw [if_pos hw]
  unfold Oper.wp
  rw [hv, Oper.upon_skip, hd]
  exact hK'.out _ _ hS (fun _ => hK)
end Go.Proofs.YtddgoncbdlhhhaaGreat
