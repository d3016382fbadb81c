import Derived.Test.YtddgoncbdlhhhaaGreatR07
import Derived.Deep.RegionLaw
import Derived.Test.YtddgoncbdlhhhaaGreatR25
import Derived.BigRegion
import Derived.Test.YtddgoncbdlhhhaaGreatR33
/- BusPlays: append to the row of seats. Own work. -/
namespace Go.Proofs.YtddgoncbdlhhhaaGreat
open Go.RowKit
/-- append of one value -/
theorem run_appW {w : World} {base : Nat} {t e : TypeId} {v : Value} {vs : List Value} {x : Value} {g cap : Nat} (ty : TypeId) (hu : Tryz.prog.underlying t = some (.slice e)) {zv : Value} {by8 : Nat} (hin : (Tryz.prog.info? e).map (fun i => (i.zero, i.size, i.bytes)) = some (some zv, 1, by8)) (hzv : zv.cells.size = 1) (hby : by8 ≤ 24) (hown : RowV w base e v vs) (hx : w.cell? ⟨g, 0, none⟩ = some x) (h1 : x.oneCell' = true) (hb : vs.length ≤ 1048576) (hbase : base ≤ w.heap.size) :
    ∃ v' w', (Builtin.append_ #[t, t] ty #[v, .slice (some ⟨g, 0, none⟩) 1 cap]).run Tryz.prog w = .ok v' w' ∧ RowV w' base e v' (vs ++ [x]) ∧ w.grownBy w' v.ownBlock ∧ (v'.ownBlock = v.ownBlock ∨ ∃ k, v'.ownBlock = some k ∧ w.heap.size ≤ k) := by
  obtain ⟨i, hi, hz0, hz1, hz2⟩ := info_parts hin
  have hnews : ∀ j u, [x][j]? = some u → w.cell? ((⟨g, 0, none⟩ : Addr).add j) = some u := fun j u hj => by
    rw [Addr.add_lit, Nat.zero_add]
    match j, hj with
    | 0, hj => rw [hx]; exact hj
  have hone : ∀ u ∈ [x], u.oneCell' = true := fun u hu => by obtain rfl := List.mem_singleton.1 hu; exact h1
  have fin : ∀ v' w', w'.ownsRow w.heap.size e 1 v' (vs.length + 1) (vs ++ [x]) → w.grownBy w' none → RowV w' base e v' (vs ++ [x]) ∧ w.grownBy w' v.ownBlock ∧ (v'.ownBlock = v.ownBlock ∨ ∃ k, v'.ownBlock = some k ∧ w.heap.size ≤ k) := fun v' w' ho hg => by
    rcases ho.2 with ⟨_, h0⟩ | ⟨g', cap', cur, rfl, hb', hg', hl, hm, hs, ht⟩
    · omega
    · refine ⟨.inr ⟨g', 0, cap', cur, by simp, Nat.le_trans hbase hb', hg', by simpa using hl, hm, by omega, by simpa using ht⟩, ⟨hg.os, hg.tape, hg.output, hg.size, fun k hk _ => hg.block k hk (fun e => by cases e)⟩, .inr ⟨g', rfl, hb'⟩⟩
  rcases hown with ⟨rfl, rfl⟩ | ⟨b, off, c, cur, rfl, hbb, hg, hl, hm, hs, ht⟩
  · obtain ⟨v', w', r1, r2, r3, _, r5⟩ := run_append_own_at (P := Tryz.prog) w w.heap.size t ty e i zv 1 by8 hu hi hz0 hz1 hz2 hzv (by omega) (.slice none 0 0) 0 [] ⟨rfl, .inl ⟨rfl, rfl⟩⟩ ⟨g, 0, none⟩ 1 cap [x] rfl hnews hone (by unfold maxLen; omega) (Nat.le_trans (Nat.mul_le_mul_left _ hby) (by omega)) (Nat.le_refl _)
    exact ⟨v', w', r1, fin v' w' r2 r3⟩
  · by_cases hr : vs.length + 1 ≤ c
    · have hcell : w.cell? ⟨b, off + vs.length * i.size + 0, none⟩ = cur[off + vs.length]? := by rw [hz1, Nat.mul_one, Nat.add_zero]; exact cell_of_row _ _ _ _ _ _ hg
      have hru := run_append_room_cells (P := Tryz.prog) w t ty e i hu hi b off vs.length c ⟨g, 0, none⟩ 1 cap [x] (by rw [hz1]; rfl) hnews hone hr (fun j hj => by
        obtain rfl : j = 0 := by simpa using hj
        rw [hcell, Array.getElem?_eq_getElem (by omega)]
        rfl) (fun j _ => by simp [World.frozen?, hg])
      refine ⟨_, _, hru, ?_, ?_, .inl rfl⟩
      · rw [hz1, Nat.mul_one]
        refine .inr ⟨b, off, c, cur.setIfInBounds (off + vs.length) x, by simp, hbb, ?_, by simpa using hr, hm, by simpa using hs, ?_⟩
        · simp [World.setCells, World.setCell, Array.getElem?_modify, hg]
        · rw [Array.toList_setIfInBounds, List.length_append, List.length_singleton, drop_set_take _ _ _ _ (by simp; omega), ht]
      · rw [hz1, Nat.mul_one]
        exact ⟨rfl, rfl, rfl, by simp [World.setCells, World.setCell], fun k hk hne => Below.heap_setCell _ _ _ _ (fun e => hne (by subst e; rfl))⟩
    · obtain ⟨v', w', r1, r2, r3⟩ := run_append_arg_grows (P := Tryz.prog) w t ty e i zv 1 by8 hu hi hz0 hz1 hz2 hzv (by omega) ⟨b, off, none⟩ vs.length c vs (by simp) (fun j u hj => by
        rw [Addr.add_lit, cell_of_row _ _ _ _ _ _ hg, ← Array.getElem?_toList]
        have hj' := (List.getElem?_eq_some_iff.1 hj).1
        have : ((cur.toList.drop off).take vs.length)[j]? = vs[j]? := by rw [ht]
        rw [List.getElem?_take_of_lt hj', List.getElem?_drop] at this
        rw [this, hj]) ⟨g, 0, none⟩ 1 cap [x] rfl hnews (by omega) (by unfold maxLen; omega) (Nat.le_trans (Nat.mul_le_mul_left _ hby) (by omega))
      exact ⟨v', w', r1, fin v' w' r2 r3⟩
theorem info_seat : (Tryz.prog.info? 35).map (fun i => (i.zero, i.size, i.bytes)) = some (some (.pointer none), 1, 8) := by kernel_rfl
theorem step_appS {w : World} {base : Nat} {ops : Array Oper} {o : Oper} {a : Act} {K : Act → World → Prop} {Q : Exit → Act → World → Prop} {E : Prop} (hw : Region.wanted o (yielded ops a.tmps) = true) (s x : Operand)
    (ho : o.op = .call { callee := .builtin .append, args := #[s, x], argTypes := #[40, 40] }) {v : Value} {vs : List Value} {y : Value} {g cap : Nat} (hown : RowV w base 35 v vs) (hs : a.eval s = v) (hx : a.eval x = .slice (some ⟨g, 0, none⟩) 1 cap) (hc : w.cell? ⟨g, 0, none⟩ = some y) (h1 : y.oneCell' = true) (hb : vs.length ≤ 1048576) (hbase : base ≤ w.heap.size)
    (h : ∀ va vc w', RowV w' base 35 (.slice va (vs.length + 1) vc) (vs ++ [y]) → w.grownBy w' v.ownBlock → K (a.put o.dst (.slice va (vs.length + 1) vc)) w') : if Region.wanted o (yielded ops a.tmps) = true then Oper.wp Tryz.prog o a w K Q else E := by
  rw [if_pos hw]
  obtain ⟨v', w', hr, h2, h3, h4⟩ := run_appW o.type Tryz.underlying40 info_seat rfl (by omega) hown hc h1 hb hbase (cap := cap)
  obtain ⟨va, vc, rfl⟩ := h2.form
  rw [List.length_append, List.length_singleton] at hr h2
  unfold Oper.wp execOp
  simp only [ho, resolve, invoke, builtin, Sem.run_bind, Sem.run_pure, Result.andThen_ok, List.map_toArray, List.map_cons, List.map_nil, hs, hx, hr]
  exact h va vc w' h2 h3
end Go.Proofs.YtddgoncbdlhhhaaGreat
/- The document's own machine: its Clone. Own work. -/
namespace Go.Proofs.YtddgoncbdlhhhaaGreat
open Go.RowKit Go.Maps Go.Proofs.YtddgoncbdlhhhaaGreat.Sp Wk
theorem info_b8 : (Tryz.prog.info? 5).map (fun i => (i.zero, i.size, i.bytes)) = some (some (.int .u8 0), 1, 1) := by kernel_rfl
/-- a copy of a page's bytes -/
theorem run_copy8 {w : World} {g cq : Nat} {f : Nat → Nat} (ty : TypeId) (hp : P8 w g 4096 f) :
    ∃ gg vc w', (Builtin.append_ #[27, 27] ty #[.slice none 0 0, .slice (some ⟨g, 0, none⟩) 4096 cq]).run Tryz.prog w = .ok (.slice (some ⟨gg, 0, none⟩) 4096 vc) w' ∧ P8 w' gg 4096 f ∧ w.heap.size ≤ gg ∧ w.grownBy w' none := by
  obtain ⟨i, hi, hz0, hz1, hz2⟩ := info_parts info_b8
  have hl : ((List.range 4096).map fun i => Value.int .u8 ((f i : Nat) : Int)).length = 4096 := by simp
  obtain ⟨v', w', r1, r2, r3, _⟩ := run_append_own_at (P := Tryz.prog) w w.heap.size 27 ty 5 i (.int .u8 0) 1 1 Tryz.underlying27 hi hz0 hz1 hz2 rfl (by omega) (.slice none 0 0) 0 [] ⟨rfl, .inl ⟨rfl, rfl⟩⟩ ⟨g, 0, none⟩ 4096 cq ((List.range 4096).map fun i => Value.int .u8 ((f i : Nat) : Int)) (by rw [hl]) (fun j u hj => by
    have hj' : j < 4096 := by have := (List.getElem?_eq_some_iff.1 hj).1; rw [hl] at this; exact this
    rw [Addr.add_lit, Nat.zero_add, hp.cell j hj', ← hj, List.getElem?_map, List.getElem?_range hj']
    rfl) (fun u hu => by
    obtain ⟨z, _, rfl⟩ := List.mem_map.1 hu
    rfl) (by unfold maxLen; omega) (by omega) (Nat.le_refl _)
  rcases r2.2 with ⟨_, h0⟩ | ⟨gg, cap, cur, rfl, hb, hg, h1, h2, h3, h4⟩
  · omega
  · refine ⟨gg, cap, w', r1, ⟨cur, hg, fun j hj => ?_⟩, hb, r3⟩
    have e : (cur.toList.take (4096 * 1))[j]? = ((List.range 4096).map fun i => Value.int .u8 ((f i : Nat) : Int))[j]? := by
      have := congrArg (·[j]?) h4
      simpa using this
    rw [List.getElem?_take_of_lt (by omega), Array.getElem?_toList, List.getElem?_map, List.getElem?_range hj] at e
    exact e
theorem step_copy8 {w : World} {ops : Array Oper} {o : Oper} {a : Act} {K : Act → World → Prop} {Q : Exit → Act → World → Prop} {E : Prop} {g cq : Nat} {f : Nat → Nat} (hw : Region.wanted o (yielded ops a.tmps) = true) (x : Operand)
    (ho : o.op = .call { callee := .builtin .append, args := #[.const (.slice none 0 0), x], argTypes := #[27, 27] }) (hp : P8 w g 4096 f) (hx : a.eval x = .slice (some ⟨g, 0, none⟩) 4096 cq)
    (h : ∀ gg vc w', P8 w' gg 4096 f → w.heap.size ≤ gg → w.grownBy w' none → K (a.put o.dst (.slice (some ⟨gg, 0, none⟩) 4096 vc)) w') : if Region.wanted o (yielded ops a.tmps) = true then Oper.wp Tryz.prog o a w K Q else E := by
  rw [if_pos hw]
  obtain ⟨gg, vc, w', hr, h2, h3, h4⟩ := run_copy8 (cq := cq) o.type hp
  have hc0 : a.eval (.const (.slice none 0 0)) = .slice none 0 0 := rfl
  unfold Oper.wp execOp
  simp only [ho, resolve, invoke, builtin, Sem.run_bind, Sem.run_pure, Result.andThen_ok, List.map_toArray, List.map_cons, List.map_nil, hc0, hx, hr]
  exact h gg vc w' h2 h3 h4
/-- the two appends, under names of their own -/
noncomputable def cpN (ty : TypeId) (args : Array Value) : Sem Next := do pure (.value (← Builtin.append_ #[27, 27] ty args))
theorem cpN_eq (ty : TypeId) (cs : Array Bool) (args : Array Value) : builtin .append #[27, 27] ty cs args = cpN ty args := rfl
theorem cpN_run {ty : TypeId} {args : Array Value} {w w' : World} {v : Value} (h : (Builtin.append_ #[27, 27] ty args).run Tryz.prog w = .ok v w') : (cpN ty args).run Tryz.prog w = .ok (.value v) w' := by
  unfold cpN
  simp only [Sem.run_bind, Sem.run_pure, h, Result.andThen_ok]
noncomputable def apN (ty : TypeId) (args : Array Value) : Sem Next := do pure (.value (← Builtin.append_ #[66, 66] ty args))
theorem apN_eq (ty : TypeId) (cs : Array Bool) (args : Array Value) : builtin .append #[66, 66] ty cs args = apN ty args := rfl
theorem apN_run {ty : TypeId} {args : Array Value} {w w' : World} {v : Value} (h : (Builtin.append_ #[66, 66] ty args).run Tryz.prog w = .ok v w') : (apN ty args).run Tryz.prog w = .ok (.value v) w' := by
  unfold apN
  simp only [Sem.run_bind, Sem.run_pure, h, Result.andThen_ok]
attribute [local go_sem ↓ high] cpN_eq apN_eq
/-- where Clone's loop stands -/
structure ClI (w wr : World) (vr vd : Value) (ps : List (Int × Nat)) (M : Nat → Nat) (q : Nat) (vp' : Value) (ps' : List (Int × Nat)) : Prop where
  box : RBox wr w.heap.size vr vd vp' 0 0 0
  own : OwnP wr w.heap.size vp' ps'
  fst : ps'.map Prod.fst = (ps.take q).map Prod.fst
  pgs : ∀ x ∈ ps', w.heap.size ≤ x.2 ∧ P8 wr x.2 4096 (fun i => M (x.1.toNat * 4096 + i))
  nod : (ps'.map Prod.snd).Nodup
  below : Below w.heap.size w wr
theorem ClI.keep {w wr w2 : World} {vr vd : Value} {ps ps' : List (Int × Nat)} {M : Nat → Nat} {q : Nat} {vp' : Value} (h : ClI w wr vr vd ps M q vp' ps') (k : Keeps (fun _ => False) wr w2) : ClI w w2 vr vd ps M q vp' ps' :=
  ⟨h.box.keeps k id, h.own.keeps k (fun _ _ => id), h.fst, fun x hx => ⟨(h.pgs x hx).1, (h.pgs x hx).2.keeps k id⟩, h.nod, h.below.trans (k.below h.below.size (fun _ _ e => e.elim))⟩
/-- a page is added -/
theorem ClI.app {w wr w2 w3 : World} {vr vd : Value} {ps ps' : List (Int × Nat)} {M : Nat → Nat} {q gg : Nat} {vp' v3 : Value} (h : ClI w wr vr vd ps M q vp' ps') (hq : q < ps.length) (k2 : Keeps (fun _ => False) wr w2) (hp : P8 w2 gg 4096 (fun i => M (ps[q].1.toNat * 4096 + i))) (hgg : wr.heap.size ≤ gg) (ho : OwnP w3 w.heap.size v3 (ps' ++ [(ps[q].1, gg)])) (hg : w2.grownBy w3 vp'.ownBlock) : ClI w (w3.setCell ⟨w.heap.size, 2, none⟩ v3) vr vd ps M (q + 1) v3 (ps' ++ [(ps[q].1, gg)]) ∧ w3.cell? ⟨w.heap.size, 2, none⟩ = some vp' ∧ w3.frozen? ⟨w.heap.size, 2, none⟩ = false := by
  have h2 := h.keep k2
  have hnb : ∀ k, vp'.ownBlock = some k → w.heap.size ≤ k ∧ ∃ cur, w2.heap[k]? = some (.cells cur 89 (0, 0)) := by
    obtain ⟨_, _, _, _, _, hf⟩ := h2.own.form
    exact hf
  have hnm : vp'.ownBlock ≠ some w.heap.size := fun e => by
    obtain ⟨_, cur, hc⟩ := hnb _ e
    rw [show w2.heap[w.heap.size]? = _ from h2.box] at hc
    cases hc
  have k3 := Keeps.of_grown hg
  have b3 := h2.box.keeps k3 hnm
  have p3 : ∀ g n f, P8 w2 g n f → P8 w3 g n f := fun g n f hp => hp.keeps k3 (fun e => by
    obtain ⟨_, cur, hc⟩ := hnb _ e
    obtain ⟨c2, hc2, _⟩ := hp
    rw [hc] at hc2
    cases hc2)
  have p4 : ∀ g n f, P8 w3 g n f → P8 (w3.setCell ⟨w.heap.size, 2, none⟩ v3) g n f := fun g n f hp => hp.keeps (Keeps.setCell w3 w.heap.size 2 v3) (fun e => by
    have e : g = w.heap.size := e
    subst e
    obtain ⟨c2, hc2, _⟩ := hp
    rw [show w3.heap[w.heap.size]? = _ from b3] at hc2
    cases hc2)
  have hn3 : v3.ownBlock ≠ some w.heap.size := fun e => by
    obtain ⟨_, _, _, _, _, hf⟩ := ho.form
    obtain ⟨_, cur, hc⟩ := hf _ e
    rw [show w3.heap[w.heap.size]? = _ from b3] at hc
    cases hc
  refine ⟨⟨?_, ho.keeps (Keeps.setCell w3 w.heap.size 2 v3) (fun k e e' => hn3 (by subst e'; exact e)), ?_, fun x hx => ?_, ?_, ?_⟩, b3.cells.2.2.1, b3.thawed 2⟩
  · show (w3.setCell ⟨w.heap.size, 2, none⟩ v3).heap[w.heap.size]? = _
    simp [World.setCell, Array.getElem?_modify, show w3.heap[w.heap.size]? = _ from b3]
  · rw [List.map_append, h.fst, show ps.take (q + 1) = ps.take q ++ [ps[q]] by rw [List.take_add_one, List.getElem?_eq_getElem hq]; rfl, List.map_append]
    rfl
  · rcases List.mem_append.1 hx with hx | hx
    · exact ⟨(h2.pgs x hx).1, p4 _ _ _ (p3 _ _ _ (h2.pgs x hx).2)⟩
    · obtain rfl := List.mem_singleton.1 hx
      exact ⟨Nat.le_trans h.below.size hgg, p4 _ _ _ (p3 _ _ _ hp)⟩
  · rw [List.map_append, List.nodup_append]
    refine ⟨h.nod, by simp, fun a ha b hb e => ?_⟩
    obtain ⟨x, hx, rfl⟩ := List.mem_map.1 ha
    simp only [List.map_cons, List.map_nil, List.mem_singleton] at hb
    have := (h.pgs x hx).2.lt
    omega
  · exact h2.below.trans ((k3.below h2.below.size (fun i hi e => (hnb i e).1)).trans ((Keeps.setCell w3 w.heap.size 2 v3).below (Nat.le_trans h2.below.size k3.size) (fun i _ e => by omega)))
set_option maxRecDepth 100000 in
set_option maxHeartbeats 4000000 in
theorem rcloneM_n {w : World} {base v : Nat} {vr vd vp : Value} {ps : List (Int × Nat)} {M : Nat → Nat} {L S X : Nat} (h : RM w base v vr vd vp ps M L S X) :
    Calls Tryz.prog 68 #[.pointer (some ⟨v, 0, none⟩)] w fun e w' => ∃ vp' ps', e = .returned (.pointer (some ⟨w.heap.size, 0, none⟩)) ∧ RM w' w.heap.size w.heap.size vr vd vp' ps' M 0 0 0 ∧ ps'.map Prod.fst = ps.map Prod.fst ∧ Below w.heap.size w w' := by
  have hvl := h.2.1.lt
  obtain ⟨c0, c1, c2, c3, c4, _⟩ := h.2.1.cells
  obtain ⟨a1, cc, hvp, hc1, hc2, _⟩ := h.2.2.1.form
  unfold maxLen at hc2
  have hlen := h.pn.len
  obtain ⟨N, hN⟩ : ∃ N, ps.length = N := ⟨_, rfl⟩
  rw [hN] at hvp hc1 hlen
  have HN : Hid (ps.length = N) := hN
  have HR := Lib.hid h
  subst hvp
  obtain ⟨W1, hW1⟩ : ∃ W1, w.alloc (Obj.cells #[vr, vd, .slice none 0 0, .int .i64 0, .int .i64 0, .int .i64 0] 68) = W1 := ⟨_, rfl⟩
  have HI : Hid (ClI w W1 vr vd ps M 0 (.slice none 0 0) []) := by
    rw [← hW1]
    exact ⟨heap_alloc_new w _, OwnP.nil _ _, by simp, fun x hx => (by cases hx), List.nodup_nil, (Below.refl _ _).alloc (Nat.le_refl _) _⟩
  clear h hN
  go_enter Tryz.func68, Tryz.ntmps68
  go_wp2_with fail
  try rw [hW1]
  clear hW1 c0 c1 c2 c3 c4
  go_loopw [4] (fun iv wr => ∃ q : Nat, q ≤ N ∧ iv = .int .i64 (q : Int) ∧ Hid (∃ vp' ps', ClI w wr vr vd ps M q vp' ps')) (fun iv _ => N - (intOf iv).toNat)
  case atStart => exact ⟨0, Nat.zero_le _, rfl, _, _, HI.out⟩
  case round =>
    obtain ⟨q, hq, rfl, HQ⟩ := hrel
    obtain ⟨vp', ps', hcl⟩ := HQ.out
    have HC := Lib.hid hcl
    obtain ⟨_, _, x2, _⟩ := (HR.out.2.1.below hcl.below).cells
    clear hcl HQ HI
    by_cases hlt : q < N
    · have hql : q < ps.length := by rw [HN.out]; exact hlt
      obtain ⟨g, rfl, d0, cq, d1⟩ := (HR.out.below HC.out.below).2.2.1.cell q hql
      have HP : Hid (P8 wr ps[q].2 4096 (fun i => M (ps[q].1.toNat * 4096 + i))) := ((HR.out.below HC.out.below).2.2.2.1 _ (List.getElem_mem hql)).2
      have HA : Hid (∀ gg w2 w3 v3, Keeps (fun _ => False) wr w2 → P8 w2 gg 4096 (fun i => M (ps[q].1.toNat * 4096 + i)) → wr.heap.size ≤ gg → OwnP w3 w.heap.size v3 (ps' ++ [(ps[q].1, gg)]) → w2.grownBy w3 vp'.ownBlock → ClI w (w3.setCell ⟨w.heap.size, 2, none⟩ v3) vr vd ps M (q + 1) v3 (ps' ++ [(ps[q].1, gg)]) ∧ w3.cell? ⟨w.heap.size, 2, none⟩ = some vp' ∧ w3.frozen? ⟨w.heap.size, 2, none⟩ = false) := fun gg w2 w3 v3 k2 hp hgg ho hg => HC.out.app hql k2 hp hgg ho hg
      obtain ⟨pn, hpn⟩ : ∃ pn, pn = ps[q].1 := ⟨_, rfl⟩
      obtain ⟨pb, hpb⟩ : ∃ pb, pb = ps[q].2 := ⟨_, rfl⟩
      rw [← hpn] at d0 HP HA
      rw [← hpb] at d1 HP
      clear hpn hpb
      obtain ⟨a2, b2, hvp2, hb1, hb2, _⟩ := HC.out.own.form
      have hpl : ps'.length = q := by
        have := congrArg List.length HC.out.fst
        rw [List.length_map, List.length_map, List.length_take] at this
        omega
      subst hvp2
      have y2 := HC.out.box.cells.2.2.1
      have yl := HC.out.box.lt
      have HO : Hid (OwnP wr w.heap.size (.slice a2 ps'.length b2) ps') := HC.out.own
      rw [hpl] at HO y2 HA
      have HK0 : Hid (∀ w2, wr.drew.grownBy w2 none → Keeps (fun _ => False) wr w2) := fun w2 hg => ((Keeps.refl _ wr).drew).trans ((Keeps.of_grown hg).mono (fun _ _ e => by cases e)) (fun _ _ e => e)
      have HX : Hid (∀ w2, Keeps (fun _ => False) wr w2 → w2.cell? ⟨w.heap.size, 2, none⟩ = some (.slice a2 q b2) ∧ w2.cell? ⟨v, 2, none⟩ = some (.slice (some ⟨g, 0, none⟩) N cc) ∧ w2.cell? ⟨g, q * 2, none⟩ = some (.int .u64 pn) ∧ w2.cell? ⟨g, q * 2 + 1, none⟩ = some (.slice (some ⟨pb, 0, none⟩) 4096 cq)) := fun w2 k => by
        have c : ∀ b i u, wr.cell? ⟨b, i, none⟩ = some u → w2.cell? ⟨b, i, none⟩ = some u := fun b i u hc => (World.cell?_of_block (a := ⟨b, i, none⟩) (k.block b (World.block_lt_of_cell? wr _ hc) id)).trans hc
        exact ⟨c _ _ _ y2, c _ _ _ x2, c _ _ _ d0, c _ _ _ d1⟩
      have HLn : Hid (ps'.length ≤ 1099511627776) := show _ ≤ _ by omega
      have HPl : Hid (ps'.length = q) := hpl
      clear hpl hb1 hb2
      have qi : (q : Int) < (N : Int) := by omega
      go_wp2_with fail
      obtain ⟨gg, vc, w2, hr1, hp2, hgg, hg2⟩ := run_copy8 (w := wr.drew) (cq := cq) 27 (show P8 wr.drew pb 4096 (fun i => M (pn.toNat * 4096 + i)) from HP.out)
      have HK2 := Lib.hid (HK0.out w2 hg2)
      obtain ⟨z0, z1, z2, z3⟩ := HX.out w2 HK2.out
      have hkl2 : w.heap.size < w2.heap.size := Nat.lt_of_lt_of_le yl HK2.out.size
      have k3 : Keeps (fun _ => False) wr (w2.alloc (.cells #[.int .u64 pn, .slice (some ⟨gg, 0, none⟩) 4096 vc] 89)) := HK2.out.trans (Keeps.alloc w2 _) (fun _ _ e => e)
      have hn0 : (w2.alloc (.cells #[.int .u64 pn, .slice (some ⟨gg, 0, none⟩) 4096 vc] 89)).heap[w2.heap.size]? = some (.cells #[.int .u64 pn, .slice (some ⟨gg, 0, none⟩) 4096 vc] 89 (0, 0)) := heap_alloc_new w2 _
      obtain ⟨v3, w3, hr2, ho3, hg3, _⟩ := run_appPF (cap := 1) (cq := vc) (x := (pn, gg)) (g := w2.heap.size) 66 (HO.out.keeps k3 (fun _ _ => id)) (by rw [cell_of_row _ _ _ _ _ _ hn0]; rfl) (by rw [cell_of_row _ _ _ _ _ _ hn0]; rfl) HLn.out (Nat.le_trans HC.out.below.size k3.size)
      obtain ⟨va3, vc3, hv3, _⟩ := ho3.form
      generalize (ps' ++ [(pn, gg)]).length = n3 at hv3
      subst hv3
      obtain ⟨hcl3, z5, z6⟩ := HA.out gg _ w3 _ k3 (hp2.keeps (Keeps.alloc (S := fun _ => False) w2 _) id) hgg ho3 hg3
      have HC3 := Lib.hid hcl3
      have hr1 := cpN_run hr1
      have hr2 := apN_run hr2
      clear hcl3 ho3 hg3 hp2 hgg hg2 k3 hn0 HK2 HA HX HK0 HP HO HLn
      go_region
      all_goals
        go_wp2_with fail
        exact ⟨⟨q + 1, by omega, by go_num, _, _, HC3.out⟩, by simp [intOf]; omega⟩
    · have hqN : q = N := by omega
      subst hqN
      go_wp2_with fail
      go_ret
      obtain ⟨b, o, f, p, nd, bl⟩ := HC.out
      have hf : ps'.map Prod.fst = ps.map Prod.fst := by rw [f, List.take_of_length_le (by rw [HN.out]; exact Nat.le_refl _)]
      have hm : ∀ x ∈ ps', ∃ y ∈ ps, y.1 = x.1 := fun x hx => by
        have : x.1 ∈ ps.map Prod.fst := hf ▸ List.mem_map_of_mem hx
        obtain ⟨y, hy, e⟩ := List.mem_map.1 this
        exact ⟨y, hy, e⟩
      have hm' : ∀ y ∈ ps, ∃ x ∈ ps', x.1 = y.1 := fun y hy => by
        have : y.1 ∈ ps'.map Prod.fst := hf ▸ List.mem_map_of_mem hy
        obtain ⟨x, hx, e⟩ := List.mem_map.1 this
        exact ⟨x, hx, e⟩
      refine ⟨vp', ps', rfl, ⟨Nat.le_refl _, b, o, p, ⟨by rw [hf]; exact HR.out.pn.1, fun x hx => ?_⟩, nd, HR.out.2.2.2.2.2.2.1, fun z hz => HR.out.2.2.2.2.2.2.2 z fun y hy => ?_⟩, hf, bl⟩
      · obtain ⟨y, hy, e⟩ := hm x hx
        rw [← e]
        exact HR.out.pn.2 y hy
      · obtain ⟨x, hx, e⟩ := hm' y hy
        rw [← e]
        exact hz x hx
end Go.Proofs.YtddgoncbdlhhhaaGreat
/- BusPlays: a clone takes its seat. Own work. -/
namespace Go.Proofs.YtddgoncbdlhhhaaGreat
open Go.RowKit Go.Maps Go.Proofs.YtddgoncbdlhhhaaGreat.Sp Wk
theorem push_get {α : Type} {l : List α} {x a : α} {i : Nat} (h : (l ++ [x])[i]? = some a) : l[i]? = some a ∨ (i = l.length ∧ a = x) := by
  rw [List.getElem?_append] at h
  split at h
  · exact .inl h
  · rename_i hn
    right
    have : i - l.length = 0 := by
      cases hq : i - l.length with
      | zero => rfl
      | succ k => rw [hq] at h; simp at h
    rw [this] at h
    exact ⟨by omega, (Option.some.inj h).symm⟩
section
variable {w0 w w1 W w2 w3 w4 : World} {bb R : Nat} {vr vd : Value} {rs ds : List Sp} {col : Nat → Nat} {gs : List (Nat × Nat × Nat)} {bs : List BSt} {vs : List VSt} {sv lv wv : Value} {hd : Int} {lr wr : Value} {hd2 : Int} {E : List Ent} {F : List EntG} {i g m v : Nat} {p : Ps} {b : BSt} {vq : VSt} {m' B' : Nat} {V' : Value × Value × Value} {T' : Nat → Option Nat} {vp' sv' : Value} {ps' : List (Int × Nat)}
theorem AlI.push (h : AlI w0 w bb R vr vd rs ds col gs bs vs [] [] sv lv wv hd lr wr hd2 E F) (hb : bs[i]? = some b) (hv : vs[i]? = some vq) (h1 : Below w.heap.size w w1) (hm : Mac w1 m' B' V' T' b.p.M rs ds 0 0 0) (hV : V'.2.2 = b.V.2.2) (hm' : w.heap.size ≤ m') (hf : ∀ j, Foot B' T' j → w.heap.size ≤ j) (o1 : OwnRg w1 w.heap.size V'.1 rs) (o2 : OwnRg w1 w.heap.size V'.2.1 ds)
    (hW : Below w1.heap.size w1 W) (hr : RM w2 W.heap.size W.heap.size vr vd vp' ps' vq.p.M 0 0 0) (hps : ps'.map Prod.fst = vq.ps.map Prod.fst) (h2 : Below W.heap.size W w2) (h3 : Below w2.heap.size w2 w3) (hg : w3.heap[g]? = some (.cells #[.pointer (some ⟨m', 0, none⟩), .pointer (some ⟨W.heap.size, 0, none⟩)] 39 (0, 0)))
    (ho : RowV w4 bb 35 sv' ((gs.map fun x => .pointer (some ⟨x.1, 0, none⟩)) ++ [.pointer (some ⟨g, 0, none⟩)])) (hgr : w3.grownBy w4 sv.ownBlock) :
    (∃ col', AlI w0 (w4.setCell ⟨R, 0, none⟩ sv') bb R vr vd rs ds col' (gs ++ [(g, m', W.heap.size)]) (bs ++ [⟨m', B', V', T', ⟨b.p.M, 0, 0, 0⟩⟩]) (vs ++ [⟨W.heap.size, W.heap.size, vp', ps', ⟨vq.p.M, 0, 0, 0⟩⟩]) [] [] sv' lv wv hd lr wr hd2 E F) ∧ w4.cell? ⟨R, 0, none⟩ = some sv ∧ w4.frozen? ⟨R, 0, none⟩ = false ∧ Bt w (w4.setCell ⟨R, 0, none⟩ sv') := by
  have z1 := h1.size
  have zW := hW.size
  have z2 := h2.size
  have z3 := h3.size
  have lb : bs.length = gs.length := by have := congrArg List.length h.lb; simpa using this.symm
  have lf : vs.length = gs.length := by have := congrArg List.length h.lf; simpa using this.symm
  obtain ⟨n, hn⟩ : ∃ n, gs.length = n := ⟨_, rfl⟩
  rw [hn] at lb lf
  obtain ⟨col', hc'⟩ : ∃ col' : Nat → Nat, col' = fun j => if j < w.heap.size then col j else if j < W.heap.size then 2 * n + 10 else if j < w2.heap.size then 2 * n + 11 else 5 := ⟨_, rfl⟩
  have hold : ∀ j, j < w.heap.size → col' j = col j := fun j hj => by rw [hc']; simp [hj]
  have hmid : ∀ j, w.heap.size ≤ j → j < W.heap.size → col' j = 2 * n + 10 := fun j hj hj2 => by rw [hc']; simp [hj2, show ¬ j < w.heap.size by omega]
  have hnew : ∀ j, W.heap.size ≤ j → j < w2.heap.size → col' j = 2 * n + 11 := fun j hj hj2 => by rw [hc']; simp [hj2, show ¬ j < w.heap.size by omega, show ¬ j < W.heap.size by omega]
  have b13 : Below w1.heap.size w1 w3 := (hW.trans (h2.mono zW)).trans (h3.mono (Nat.le_trans zW z2))
  have b3 : Below w.heap.size w w3 := h1.trans (b13.mono z1)
  obtain ⟨a3, t3⟩ := h.low b3 hold
  have hm3 := hm.below b13
  have hr3 := hr.below h3
  -- what the append and the store write
  have hkg : Keeps (fun k => sv.ownBlock = some k) w3 w4 := Keeps.of_grown hgr
  have hnR : sv.ownBlock ≠ some R := fun e => by
    obtain ⟨cur, q⟩ := a3.srow.tag R e
    rw [a3.bk.blk] at q
    cases q
  have hR4 : w4.heap[R]? = some (.cells #[sv, lv, wv, .int .i64 hd, .bool false, lr, wr, .int .i64 hd2, .bool false] 48 (0, 0)) := (hkg.block R a3.R_lt hnR).trans a3.bk.blk
  have hk5 : Keeps (fun k => sv.ownBlock = some k ∨ k = R) w3 (w4.setCell ⟨R, 0, none⟩ sv') := (hkg.mono (fun _ _ e => .inl e)).trans (Keeps.setCell w4 R 0 sv') (fun _ _ e => .inr e)
  have hz5 : ∀ j, (sv.ownBlock = some j ∨ j = R) → j = R ∨ (bb ≤ j ∧ ∃ cur t, w3.heap[j]? = some (.cells cur t (0, 0)) ∧ (t = 27 ∨ t = 22 ∨ t = 35)) := fun j hj => by
    rcases hj with e | e
    · obtain ⟨cur, q⟩ := a3.srow.tag j e
      exact .inr ⟨(a3.srow.lt j e).1, cur, _, q, .inr (.inr rfl)⟩
    · exact .inl e
  obtain ⟨f1, f2, f3, f4, f6, f7, f8⟩ := a3.kept hk5 hz5 (col' := col') (fun _ _ => rfl)
  have tg : ∀ (j : Nat) (cur : Array Value) (t : TypeId) (fr : Nat × Nat), w3.heap[j]? = some (.cells cur t fr) → t ≠ 48 → t ≠ 35 → ¬ (sv.ownBlock = some j ∨ j = R) := fun j cur t fr hj q1 q2 hZ => by
    rcases hZ with e | e
    · obtain ⟨c2, q⟩ := a3.srow.tag j e
      rw [q] at hj
      cases hj
      exact q2 rfl
    · subst e
      rw [a3.bk.blk] at hj
      cases hj
      exact q1 rfl
  have zt : ∀ j, Zt w3 j → ¬ (sv.ownBlock = some j ∨ j = R) := fun j hj hZ => by
    rcases hZ with e | e
    · obtain ⟨c2, q⟩ := a3.srow.tag j e
      rcases hj _ _ _ q with q | q | q | q | q <;> exact absurd q (by decide)
    · subst e
      rcases hj _ _ _ a3.bk.blk with q | q | q | q | q <;> exact absurd q (by decide)
  have hblk : (w4.setCell ⟨R, 0, none⟩ sv').heap[R]? = some (.cells #[sv', lv, wv, .int .i64 hd, .bool false, lr, wr, .int .i64 hd2, .bool false] 48 (0, 0)) := by
    simp [World.setCell, Array.getElem?_modify, hR4]
  have hB := h.bus i b hb
  have hVq := h.rf i vq hv
  have bs3 : Bs w3 w0.heap.size bb rs ds col' n ⟨m', B', V', T', ⟨b.p.M, 0, 0, 0⟩⟩ := by
    refine ⟨hm3, fun j hj => ?_, fun u hu j e => ?_⟩
    · have hl : j < w1.heap.size := hm.mine_lt (hj.elim .inl (fun q => .inr (.inl q)))
      have hlo : w.heap.size ≤ j := by
        rcases hj with q | q
        · have q : j = m' := q
          omega
        · exact hf j q
      exact ⟨hmid j hlo (by omega), Nat.le_trans h.below.size hlo⟩
    · rcases hu with rfl | rfl | hu
      · obtain ⟨cur, q⟩ := (o1.below b13).tag j e
        exact .inr ⟨cur, q⟩
      · obtain ⟨cur, q⟩ := (o2.below b13).tag j e
        exact .inr ⟨cur, q⟩
      · have hu : u = b.V.2.2 := hu.trans hV
        have hl := hB.mac.mine_lt (.inr (.inr ⟨u, .inr (.inr hu), e⟩))
        rw [hold j hl]
        exact (hB.rows u (.inr (.inr hu)) j e).imp id (fun ⟨cur, q⟩ => ⟨cur, (b3.block j hl).trans q⟩)
  have vs3 : Vs w3 w0.heap.size vr vd rs ds col' n ⟨W.heap.size, W.heap.size, vp', ps', ⟨vq.p.M, 0, 0, 0⟩⟩ := by
    refine ⟨hr3, fun j hj => ?_, ⟨Nat.le_trans h.below.size (show w.heap.size ≤ W.heap.size by omega), by show W.heap.size ≤ _; omega⟩, fun x hx => ?_⟩
    · have hl := (hr.fo hj).lt
      have hlo := (hr.fo hj).1
      exact hnew j hlo hl
    · have : x.1 ∈ vq.ps.map Prod.fst := hps ▸ List.mem_map_of_mem hx
      obtain ⟨y, hy, e⟩ := List.mem_map.1 this
      rw [← e]
      exact hVq.pgs y hy
  refine ⟨⟨col', f1, h.bbl, fun k g' m'' v'' e => ?_, fun k b' e => ?_, fun k v' e => ?_, ?_, ?_, ⟨hblk, a3.bk.lrow.keeps hk5 (fun j e => ?_), a3.bk.wrow.keeps hk5 (fun j e => ?_), a3.bk.ne, fun x hx => ⟨f6 _ _ (a3.bk.ents x hx).l, f6 _ _ (a3.bk.ents x hx).w, (a3.bk.ents x hx).sm⟩, a3.bk.nodup⟩, ⟨hblk, a3.bg.lrow.keeps hk5 (fun j e => ?_), a3.bg.wrow.keeps hk5 (fun j e => ?_), a3.bg.ne, fun x hx => ⟨f7 _ _ (a3.bg.ents x hx).l, f7 _ _ (a3.bg.ents x hx).w, (a3.bg.ents x hx).sm⟩, a3.bg.nodup⟩, h.e4, a3.ce, ?_, fun x hx => (by cases hx), fun x hx => (by cases hx), List.Pairwise.nil⟩, ?_, ?_, t3.trans f8⟩
  · rcases push_get e with e | ⟨_, e⟩
    · exact f2 k g' m'' v'' e
    · cases e
      exact (hk5.block g (Array.getElem?_eq_some_iff.1 hg).1 (tg g _ _ _ hg (by decide) (by decide))).trans hg
  · rcases push_get e with e | ⟨rfl, rfl⟩
    · exact f3 k b' e
    · rw [lb]
      exact Mac.keepsW bs3 hk5 (fun j hj => zt j (bs3.zt hj)) (fun j hl q hZ => by
        have := h.bbl
        rcases hz5 j hZ with rfl | ⟨h1, _⟩ <;> omega) (fun j cur hj => tg j cur _ _ hj (by decide) (by decide)) (fun _ _ => rfl)
  · rcases push_get e with e | ⟨rfl, rfl⟩
    · exact f4 k v' e
    · rw [lf]
      exact vs3.keepsW hk5 (fun j hj => zt j (vs3.zt hj)) (fun _ _ => rfl)
  · rw [List.map_append, List.map_append, h.lb]
    rfl
  · rw [List.map_append, List.map_append, h.lf]
    rfl
  · obtain ⟨cur, q⟩ := a3.bk.lrow.tag j e
    exact tg j cur _ _ q (by decide) (by decide)
  · obtain ⟨cur, q⟩ := a3.bk.wrow.tag j e
    exact tg j cur _ _ q (by decide) (by decide)
  · obtain ⟨cur, q⟩ := a3.bg.lrow.tag j e
    exact tg j cur _ _ q (by decide) (by decide)
  · obtain ⟨cur, q⟩ := a3.bg.wrow.tag j e
    exact tg j cur _ _ q (by decide) (by decide)
  · rw [List.map_append]
    refine ho.keeps (Keeps.setCell w4 R 0 sv') (fun j e e' => ?_)
    have e' : j = R := e'
    subst e'
    obtain ⟨cur, q⟩ := ho.tag j e
    rw [hR4] at q
    cases q
  · rw [cell_of_row _ _ _ _ _ _ hR4]
    rfl
  · simp [World.frozen?, hR4]
end
end Go.Proofs.YtddgoncbdlhhhaaGreat
