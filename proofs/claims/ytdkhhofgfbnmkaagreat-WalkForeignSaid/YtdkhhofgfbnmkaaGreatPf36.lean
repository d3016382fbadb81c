import Derived.Test.YtdkhhofgfbnmkaaGreatPf35
import Derived.Test.YtdkhhofgfbnmkaaGreatPf20
import Derived.Test.YtdkhhofgfbnmkaaGreatPf06
import Derived.Laws.StructEq
import Derived.Deep.RegionHeld3
/- Rows of what Leaves tells, as the document's own Leaves writes them. Own work. -/
namespace Go.Proofs.YtdkhhofgfbnmkaaGreat
open Go.RowKit Go.Maps Go.Proofs.YtdkhhofgfbnmkaaGreat.Sp Wk Lv
def encTd (x : Slt) : List Value := [.int .u64 (x.1 : Int), .int .u64 (x.2.2.1.1 : Int), .int .i64 (pgs x.2.1 : Int), .bool x.2.2.1.2.2.1, .bool x.2.2.1.2.2.2.1, .bool x.2.2.1.2.2.2.2, .int .i64 x.2.2.2]
def encTds (xs : List Slt) : List Value := xs.flatMap encTd
theorem encTds_length (xs : List Slt) : (encTds xs).length = xs.length * 7 := by
  induction xs with
  | nil => rfl
  | cons x xs ih => simp only [encTds, List.flatMap_cons, List.length_append, List.length_cons] at ih ⊢; rw [ih]; simp only [encTd, List.length_cons, List.length_nil]; omega
theorem encTds_append (xs ys : List Slt) : encTds (xs ++ ys) = encTds xs ++ encTds ys := by simp [encTds]
theorem encTds_one (xs : List Slt) : ∀ u ∈ encTds xs, u.oneCell' = true := by
  intro u hu
  obtain ⟨x, _, h⟩ := List.mem_flatMap.1 hu
  simp only [encTd, List.mem_cons, List.not_mem_nil, or_false] at h
  rcases h with rfl | rfl | rfl | rfl | rfl | rfl | rfl <;> rfl
theorem encTds_get (xs : List Slt) (j k : Nat) (h : j < xs.length) (hk : k < 7) : (encTds xs)[j * 7 + k]? = (encTd xs[j])[k]? := by
  induction xs generalizing j with
  | nil => simp at h
  | cons x xs ih =>
    have hl : (encTd x).length = 7 := rfl
    cases j with
    | zero =>
      rw [show encTds (x :: xs) = encTd x ++ encTds xs from rfl, List.getElem?_append_left (by omega), Nat.zero_mul, Nat.zero_add]
      rfl
    | succ j =>
      have := ih j (by simpa using h)
      rw [show encTds (x :: xs) = encTd x ++ encTds xs from rfl, List.getElem?_append_right (by omega), show (j + 1) * 7 + k - (encTd x).length = j * 7 + k by omega]
      exact this
/-- a row of what was told that is owned from base on -/
def OwnTd (w : World) (base : Nat) (v : Value) (ps : List Slt) : Prop := w.ownsRow base 125 7 v ps.length (encTds ps)
theorem OwnTd.keeps {Z : Nat → Prop} {w w' : World} {base : Nat} {v : Value} {ps : List Slt} (h : OwnTd w base v ps) (hk : Keeps Z w w') (hn : ∀ k, v.ownBlock = some k → ¬ Z k) : OwnTd w' base v ps := by
  refine ⟨h.1, ?_⟩
  rcases h.2 with hv | ⟨g, cap, cur, rfl, hbb, hgg, rest⟩
  · exact .inl hv
  · exact .inr ⟨g, cap, cur, rfl, hbb, (hk.block g (Array.getElem?_eq_some_iff.1 hgg).1 (hn g rfl)).trans hgg, rest⟩
theorem OwnTd.form {w : World} {base : Nat} {v : Value} {ps : List Slt} (h : OwnTd w base v ps) : ∃ a c, v = .slice a ps.length c ∧ ps.length ≤ c ∧ c ≤ maxLen ∧ ∀ k, v.ownBlock = some k → base ≤ k ∧ ∃ cur, w.heap[k]? = some (.cells cur 125 (0, 0)) := by
  rcases h.2 with ⟨rfl, h0⟩ | ⟨g, cap, cur, rfl, hbb, hgg, h1, h2, _⟩
  · exact ⟨none, 0, by rw [h0], by omega, Nat.zero_le _, fun k e => by cases e⟩
  · exact ⟨_, cap, rfl, h1, h2, fun k e => by cases e; exact ⟨hbb, cur, hgg⟩⟩
theorem OwnTd.cell {w : World} {base : Nat} {a : Option Addr} {n c : Nat} {ps : List Slt} (h : OwnTd w base (.slice a n c) ps) (j : Nat) (hj : j < ps.length) : ∃ g, a = some ⟨g, 0, none⟩ ∧ ∀ k, k < 7 → w.cell? ⟨g, j * 7 + k, none⟩ = (encTd ps[j])[k]? := by
  rcases h.2 with ⟨e, h0⟩ | ⟨g, cap, cur, e, hbb, hgg, h1, h2, h3, h4⟩
  · omega
  · cases e
    refine ⟨g, rfl, fun k hk => ?_⟩
    rw [cell_of_row w g (j * 7 + k) _ _ _ hgg, ← Array.getElem?_toList, ← encTds_get ps j k hj hk, ← h4, List.getElem?_take_of_lt (by omega)]
theorem info_td : (Tryz.prog.info? 125).map (fun i => (i.zero, i.size, i.bytes)) = some (some (.agg #[.int .u64 0, .int .u64 0, .int .i64 0, .bool false, .bool false, .bool false, .int .i64 0]), 7, 40) := by kernel_rfl
theorem run_appTd {w : World} {base : Nat} {v : Value} {ps : List Slt} {x : Slt} {g cap : Nat} (ty : TypeId) (hv : OwnTd w base v ps) (hx : ∀ k, k < 7 → w.cell? ⟨g, k, none⟩ = (encTd x)[k]?) (hlen : ps.length ≤ 1099511627776) (hbase : base ≤ w.heap.size) :
    ∃ v' w', (Builtin.append_ #[116, 116] ty #[v, .slice (some ⟨g, 0, none⟩) 1 cap]).run Tryz.prog w = .ok v' w' ∧ OwnTd w' base v' (ps ++ [x]) ∧ w.grownBy w' v.ownBlock := by
  obtain ⟨i, hi, hz0, hz1, hz2⟩ := info_parts info_td
  obtain ⟨v', w', r1, r2, r3, _⟩ := run_append_own_at (P := Tryz.prog) w base 116 ty 125 i _ 7 _ Tryz.underlying116 hi hz0 hz1 hz2 rfl (by omega) v ps.length (encTds ps) hv ⟨g, 0, none⟩ 1 cap (encTd x) rfl (fun j u hj => by
    have hj2 : j < 7 := by have := (List.getElem?_eq_some_iff.1 hj).1; simpa [encTd] using this
    rw [Addr.add_lit, Nat.zero_add, hx j hj2]
    exact hj) (fun u hu => encTds_one [x] u (by simpa [encTds] using hu)) (by unfold maxLen; omega) (by omega) hbase
  refine ⟨v', w', r1, ?_, r3⟩
  unfold OwnTd
  rw [List.length_append, encTds_append]
  have e : encTds [x] = encTd x := by simp [encTds]
  rw [e]
  exact r2
theorem step_appTd {w : World} {ops : Array Oper} {o : Oper} {a : Act} {K : Act → World → Prop} {Q : Exit → Act → World → Prop} {E : Prop} {base : Nat} {v : Value} {ps : List Slt} {x : Slt} {g cap : Nat} (hw : Region.wanted o (yielded ops a.tmps) = true) (s y : Operand)
    (ho : o.op = .call { callee := .builtin .append, args := #[s, y], argTypes := #[116, 116] }) (hs : a.eval s = v) (hv : OwnTd w base v ps) (hy : a.eval y = .slice (some ⟨g, 0, none⟩) 1 cap) (hx : ∀ k, k < 7 → w.cell? ⟨g, k, none⟩ = (encTd x)[k]?) (hlen : ps.length ≤ 1099511627776) (hbase : base ≤ w.heap.size)
    (h : ∀ va vn vc w', OwnTd w' base (.slice va vn vc) (ps ++ [x]) → w.grownBy w' v.ownBlock → K (a.put o.dst (.slice va vn vc)) w') : if Region.wanted o (yielded ops a.tmps) = true then Oper.wp Tryz.prog o a w K Q else E := by
  rw [if_pos hw]
  obtain ⟨v', w', hr, h2, h3⟩ := run_appTd (cap := cap) o.type hv hx hlen hbase
  obtain ⟨va, vc, rfl, _⟩ := h2.form
  unfold Oper.wp
  simp only [execOp, ho, resolve, invoke, builtin, Sem.run_bind, Sem.run_pure, List.map_toArray, List.map_cons, List.map_nil, hs, hy, hr, Result.andThen_ok]
  exact h va _ vc w' h2 h3
theorem wpList_appTd {w : World} {base : Nat} {ops : Array Oper} {rest : List Oper} {o : Oper} {a : Act} {Q : Exit → Act → World → Prop} (hgd : o.guard = none) (s y : Operand)
    (ho : o.op = .call { callee := .builtin .append, args := #[s, y], argTypes := #[116, 116] }) {v : Value} {ps : List Slt} {x : Slt} {g cap : Nat} (hs : a.eval s = v) (hv : OwnTd w base v ps) (hy : a.eval y = .slice (some ⟨g, 0, none⟩) 1 cap) (hx : ∀ k, k < 7 → w.cell? ⟨g, k, none⟩ = (encTd x)[k]?) (hlen : ps.length ≤ 1099511627776) (hbase : base ≤ w.heap.size)
    (h : ∀ va vn vc w', Hid (OwnTd w' base (.slice va vn vc) (ps ++ [x])) → Hid (w.grownBy w' v.ownBlock) → wpList Tryz.prog ops Q rest (a.put o.dst (.slice va vn vc)) w') : wpList Tryz.prog ops Q (o :: rest) a w := by
  refine wpList_plain hgd fun K hK => ?_
  obtain ⟨v', w', hr, h2, h3⟩ := run_appTd (cap := cap) o.type hv hx hlen hbase
  obtain ⟨va, vc, rfl, _⟩ := h2.form
  unfold Oper.wp
  simp only [execOp, ho, resolve, invoke, builtin, Sem.run_bind, Sem.run_pure, List.map_toArray, List.map_cons, List.map_nil, hs, hy, hr, Result.andThen_ok]
  exact hK _ _ (h va _ vc w' h2 h3)
end Go.Proofs.YtdkhhofgfbnmkaaGreat
/- The document's own Leaves: its way, and what it keeps. Own work. -/
namespace Go.Proofs.YtdkhhofgfbnmkaaGreat
open Go.RowKit Go.Maps Go.Proofs.YtdkhhofgfbnmkaaGreat.Sp Wk Lv
/-- the block of a way: what was told, how much may be counted still -/
def WayB (w : World) (g : Nat) (vt : Value) (left : Nat) : Prop := w.heap[g]? = some (.cells #[vt, .int .i64 (left : Int)] 149 (0, 0))
theorem WayB.lt {w : World} {g : Nat} {vt : Value} {left : Nat} (h : WayB w g vt left) : g < w.heap.size := (Array.getElem?_eq_some_iff.1 h).1
theorem WayB.cells {w : World} {g : Nat} {vt : Value} {left : Nat} (h : WayB w g vt left) : w.cell? ⟨g, 0, none⟩ = some vt ∧ w.cell? ⟨g, 1, none⟩ = some (.int .i64 (left : Int)) := by
  refine ⟨?_, ?_⟩ <;> rw [cell_of_row _ _ _ _ _ _ h] <;> rfl
theorem WayB.thawed {w : World} {g : Nat} {vt : Value} {left : Nat} (h : WayB w g vt left) (i : Nat) : w.frozen? ⟨g, i, none⟩ = false := by
  have h : w.heap[g]? = _ := h
  simp [World.frozen?, h]
theorem WayB.keeps {Z : Nat → Prop} {w w' : World} {g : Nat} {vt : Value} {left : Nat} (h : WayB w g vt left) (hk : Keeps Z w w') (hn : ¬ Z g) : WayB w' g vt left := (hk.block g h.lt hn).trans h
theorem WayB.notVB {w : World} {g base : Nat} {vt : Value} {left : Nat} (h : WayB w g vt left) : ∀ j, VB base w j → ¬ j = g := by
  rintro j ⟨_, c, t, fr, hc, ht⟩ rfl
  rw [show w.heap[j]? = _ from h] at hc
  cases hc
  rcases ht with ht | ht | ht <;> cases ht
theorem OwnTd.notVB {w : World} {base b : Nat} {v : Value} {ps : List Slt} (h : OwnTd w b v ps) : ∀ j, VB base w j → ¬ v.ownBlock = some j := by
  rintro j ⟨_, c, t, fr, hc, ht⟩ e
  obtain ⟨_, _, _, _, _, hf⟩ := h.form
  obtain ⟨_, cur, h2⟩ := hf j e
  rw [h2] at hc
  cases hc
  rcases ht with ht | ht | ht <;> cases ht
theorem OwnTd.notWay {w : World} {b g : Nat} {v vt : Value} {left : Nat} {ps : List Slt} (h : OwnTd w b v ps) (hw : WayB w g vt left) : ¬ v.ownBlock = some g := fun e => by
  obtain ⟨_, _, _, _, _, hf⟩ := h.form
  obtain ⟨_, cur, h2⟩ := hf g e
  rw [show w.heap[g]? = _ from hw] at h2
  cases h2
/-- what holds while Leaves goes its way -/
def UI (w0 Ws : World) (base gw v : Nat) (vr vd vp : Value) (ps : List (Int × Nat)) (M : Nat → Nat) (L S X : Nat) (t : St (List Slt)) (W : World) : Prop :=
  Below w0.heap.size w0 W ∧ Keeps (fun j => j = v) Ws W ∧ RM W base v vr vd vp ps M L S X ∧ ∃ vt, WayB W gw vt t.left ∧ OwnTd W Ws.heap.size vt t.s
section
variable {w0 Ws : World} {base gw v : Nat} {vr vd vp : Value} {ps : List (Int × Nat)} {M : Nat → Nat} {L S X : Nat} {t : St (List Slt)} {W : World}
theorem UI.kv (h : UI w0 Ws base gw v vr vd vp ps M L S X t W) (hv0 : w0.heap.size ≤ v) (hvs : v < Ws.heap.size) (hg : Ws.heap.size ≤ gw) {W' : World} (hk : Keeps (fun j => j = v) W W') (hm : RM W' base v vr vd vp ps M L S X) : UI w0 Ws base gw v vr vd vp ps M L S X t W' := by
  obtain ⟨h1, h2, h3, vt, h4, h5⟩ := h
  refine ⟨below_keeps h1 hk (fun j e => by rw [e]; exact hv0), h2.trans hk (fun _ _ e => e), hm, vt, h4.keeps hk (by omega), h5.keeps hk (fun k e e' => ?_)⟩
  obtain ⟨_, _, _, _, _, hf⟩ := h5.form
  have := (hf k e).1
  have e' : k = v := e'
  omega
theorem UI.below (h : UI w0 Ws base gw v vr vd vp ps M L S X t W) {W' : World} (hb : Below W.heap.size W W') : UI w0 Ws base gw v vr vd vp ps M L S X t W' := by
  obtain ⟨h1, h2, h3, vt, h4, h5⟩ := h
  have hk := Keeps.of_below (S := fun _ => False) hb
  exact ⟨h1.trans (hb.mono h1.size), h2.trans hk (fun _ _ e => e.elim), h3.below hb, vt, h4.keeps hk (fun e => e), h5.keeps hk (fun _ _ e => e)⟩
theorem UI.left (h : UI w0 Ws base gw v vr vd vp ps M L S X t W) (h0 : w0.heap.size ≤ Ws.heap.size) (hg : Ws.heap.size ≤ gw) (left : Nat) (go : Bool) : UI w0 Ws base gw v vr vd vp ps M L S X { s := t.s, left := left, go := go } (W.setCell ⟨gw, 1, none⟩ (.int .i64 (left : Int))) := by
  obtain ⟨h1, h2, h3, vt, h4, h5⟩ := h
  have hk := Keeps.setCell W gw 1 (.int .i64 (left : Int))
  refine ⟨below_keeps h1 hk (fun j e => by have e : j = gw := e; omega), h2.trans hk (fun i hi e => by have e : i = gw := e; omega), h3.keeps hk h4.notVB, vt, ?_, h5.keeps hk (fun k e e' => h5.notWay h4 (by have e' : k = gw := e'; rw [← e']; exact e))⟩
  have h4' : W.heap[gw]? = _ := h4
  simp [WayB, World.setCell, Array.getElem?_modify, h4']
theorem UI.told (h : UI w0 Ws base gw v vr vd vp ps M L S X t W) (h0 : w0.heap.size ≤ Ws.heap.size) (hg : Ws.heap.size ≤ gw) {W1 W2 : World} (hb : Below W.heap.size W W1) {vt v2 : Value} (hvt : W.cell? ⟨gw, 0, none⟩ = some vt) {x : Slt} (ho : OwnTd W2 Ws.heap.size v2 (t.s ++ [x])) (hgr : W1.grownBy W2 vt.ownBlock) : UI w0 Ws base gw v vr vd vp ps M L S X { t with s := t.s ++ [x] } (W2.setCell ⟨gw, 0, none⟩ v2) ∧ W2.cell? ⟨gw, 0, none⟩ = some vt ∧ W2.frozen? ⟨gw, 0, none⟩ = false := by
  obtain ⟨h1, h2, h3, vt', h4, h5⟩ := h.below hb
  have e : vt' = vt := by
    have a1 := (h.2.2.2.choose_spec.1).cells.1
    have a2 := (h.2.2.2.choose_spec.1).keeps (Keeps.of_below (S := fun _ => False) hb) (fun e => e)
    rw [hvt] at a1
    have a3 : W1.heap[gw]? = _ := a2
    have a4 : W1.heap[gw]? = _ := h4
    rw [a3] at a4
    injection a4 with a4
    injection a4 with a4
    injection a4 with a4
    injection a4 with a4 _
    injection a1 with a1
    rw [a1, a4]
  subst e
  have kg : Keeps (fun j => vt'.ownBlock = some j) W1 W2 := Keeps.of_grown hgr
  have hob : ∀ j, vt'.ownBlock = some j → Ws.heap.size ≤ j := fun j e => by
    obtain ⟨_, _, _, _, _, hf⟩ := h5.form
    exact (hf j e).1
  have w2 : WayB W2 gw vt' t.left := h4.keeps kg (h5.notWay h4)
  have hk := Keeps.setCell W2 gw 0 v2
  have b2 := below_keeps h1 kg (fun j e => Nat.le_trans h0 (hob j e))
  refine ⟨⟨below_keeps b2 hk (fun j e => by have e : j = gw := e; omega), (h2.trans kg (fun i hi e => by have := hob i e; omega)).trans hk (fun i hi e => by have e : i = gw := e; omega), ?_, v2, ?_, ho.keeps hk (fun k e e' => ho.notWay w2 (by have e' : k = gw := e'; rw [← e']; exact e))⟩, w2.cells.1, w2.thawed 0⟩
  · exact (h3.keeps kg h5.notVB).keeps hk w2.notVB
  · have w2' : W2.heap[gw]? = _ := w2
    simp [WayB, World.setCell, Array.getElem?_modify, w2']
end
end Go.Proofs.YtdkhhofgfbnmkaaGreat
/- walk's Make, and the document's Entry and Make. Own work. -/
namespace Go.Proofs.YtdkhhofgfbnmkaaGreat
open Go.RowKit Wk
theorem same_ent (w : World) (x y : Ent) : (Op.equalIn 10000 104 (EntV x) (EntV y)).run Tryz.prog w = .ok (x == y) w := by
  obtain ⟨a, b, c, d, e⟩ := x
  obtain ⟨a', b', c', d', e'⟩ := y
  have u1 := Tryz.underlying4
  have a1 := Tryz.isAgg4
  have z1 := Tryz.sizeOf4
  have u := Tryz.underlying34
  have a2 := Tryz.isAgg34
  have z := Tryz.sizeOf34
  have hS : Tryz.prog.underlying 104 = some (.struct (Tryz.prog.fieldsOf 104)) := by kernel_rfl
  have hp : Tryz.prog.stoodInHeld 104 = false := by kernel_rfl
  have he : (((a, b, c, d, e) : Ent) == (a', b', c', d', e')) = ((a == a') && ((b == b') && ((c == c') && ((d == d') && (e == e'))))) := rfl
  rw [he, EntV, EntV, show (10000 : Nat) = 9999 + 1 from rfl, run_equalIn_agg w 9999 104 _ _ hS hp]
  simp only [Program.fieldsOf, Tryz.underlying104]
  go_simp
  by_cases h1 : a = a'
  · subst h1
    cases b <;> cases b' <;> cases c <;> cases c' <;> cases d <;> cases d' <;> cases e <;> cases e' <;> simp
  · have : (a == a') = false := by simpa using h1
    have h2 : ¬ (a : Int) = (a' : Int) := by omega
    rw [this]
    simp [h2]
theorem eql_ent (w : World) (x y : Ent) : (binOp .eql 104 (EntV x) (EntV y)).run Tryz.prog w = .ok (.bool (x == y)) w := by
  have := same_ent w x y
  rw [EntV, EntV] at *
  rw [run_eql_struct, this]
  rfl
theorem neq_ent (w : World) (x y : Ent) : (binOp .neq 104 (EntV x) (EntV y)).run Tryz.prog w = .ok (.bool (x != y)) w := by
  have := same_ent w x y
  rw [EntV, EntV] at *
  rw [run_neq_struct, this]
  rfl
theorem guard_ent : Tryz.prog.eqGuardType Tryz.prog.depth 104 = false := by kernel_rfl
theorem wpList_eql_ent {w : World} {ops : Array Oper} {rest : List Oper} {o : Oper} {a : Act} {Q : Exit → Act → World → Prop} (hw : Region.wanted o (yielded ops a.tmps) = true) (x y : Operand) {t' : TypeId} (ho : o.op = .binOp .eql 104 x y t') {p q : Ent} {b : Bool} (hx : a.eval x = EntV p) (hy : a.eval y = EntV q) (hb : (p == q) = b)
    (hK : wpList Tryz.prog ops Q rest (a.put o.dst (.bool b)) w) : wpList Tryz.prog ops Q (o :: rest) a w := by
  refine wpList_step fun K' hK' => ?_
  rw [if_pos hw]
  unfold Oper.wp execOp
  have hg : (eqGuard .eql 104 x y (EntV p) (EntV q)).run Tryz.prog w = .ok () w := run_eqGuard_agg w _ _ _ _ _ _ guard_ent
  simp only [ho, hx, hy, Sem.run_bind, Sem.run_pure, Result.andThen_ok, hg, eql_ent, hb]
  exact hK' _ _ hK
theorem wpList_neq_ent {w : World} {ops : Array Oper} {rest : List Oper} {o : Oper} {a : Act} {Q : Exit → Act → World → Prop} (hw : Region.wanted o (yielded ops a.tmps) = true) (x y : Operand) {t' : TypeId} (ho : o.op = .binOp .neq 104 x y t') {p q : Ent} {b : Bool} (hx : a.eval x = EntV p) (hy : a.eval y = EntV q) (hb : (p != q) = b)
    (hK : wpList Tryz.prog ops Q rest (a.put o.dst (.bool b)) w) : wpList Tryz.prog ops Q (o :: rest) a w := by
  refine wpList_step fun K' hK' => ?_
  rw [if_pos hw]
  unfold Oper.wp execOp
  have hg : (eqGuard .neq 104 x y (EntV p) (EntV q)).run Tryz.prog w = .ok () w := run_eqGuard_agg w _ _ _ _ _ _ guard_ent
  simp only [ho, hx, hy, Sem.run_bind, Sem.run_pure, Result.andThen_ok, hg, neq_ent, hb]
  exact hK' _ _ hK
theorem or_lt {a b : Nat} (ha : a < 18446744073709551616) (hb : b < 18446744073709551616) : a ||| b < 18446744073709551616 := Nat.or_lt_two_pow (n := 64) ha hb
theorem nbit_lt (b : Bool) {n : Nat} (h : n < 18446744073709551616) : nbit b n < 18446744073709551616 := by
  cases b
  · exact (by decide : 0 < 18446744073709551616)
  · exact h
def MakePost (w : World) (r : Nat × Int) (x : Ending) (w' : World) : Prop := x = .returned (.tuple #[.int .u64 (r.1 : Int), .int .i64 r.2]) ∧ Below w.heap.size w w'
end Go.Proofs.YtdkhhofgfbnmkaaGreat
