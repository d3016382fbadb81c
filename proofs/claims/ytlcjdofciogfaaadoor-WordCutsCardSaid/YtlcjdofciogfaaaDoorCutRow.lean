/- WordCuts: a row of ends beside the row of steps. Own work. -/
import Derived.Test.YtlcjdofciogfaaaDoorWBack
namespace Go.Proofs.YtlcjdofciogfaaaDoor
open Go.RowKit
set_option maxHeartbeats 1000000 in
theorem within_any (n hi : Int) (w : World) (h0 : 0 ≤ hi) (h1 : hi ≤ 1152921504606846976) :
    Calls Tryd.prog 19 #[.int .i64 n, .int .i64 0, .int .i64 hi] w fun e w' => ∃ r : Nat, e = .returned (.int .i64 (r : Int)) ∧ (r : Int) ≤ hi ∧ w' = w := by
  by_cases hn : 0 ≤ n
  · have b1 : 0 ≤ n % (hi + 1) := Int.emod_nonneg n (by omega)
    have b2 : n % (hi + 1) < hi + 1 := Int.emod_lt_of_pos n (by omega)
    go_enter Tryd.func19, Tryd.ntmps19
    go_wp2
    go_ret
    exact ⟨(n % (hi + 1)).toNat, congrArg (fun z => Ending.returned (.int .i64 z)) (by simp; omega), by omega, rfl⟩
  · have b1 : -(hi + 1) < n.tmod (hi + 1) := Int.lt_tmod_of_pos n (by omega)
    have b2 : n.tmod (hi + 1) < hi + 1 := Int.tmod_lt_of_pos n (by omega)
    generalize hm : n.tmod (hi + 1) = m at *
    by_cases hm0 : m < 0
    · go_enter Tryd.func19, Tryd.ntmps19
      go_wp2
      go_ret
      exact ⟨(m + hi + 1).toNat, congrArg (fun z => Ending.returned (.int .i64 z)) (by simp; omega), by omega, rfl⟩
    · go_enter Tryd.func19, Tryd.ntmps19
      go_wp2
      go_ret
      exact ⟨m.toNat, congrArg (fun z => Ending.returned (.int .i64 z)) (by simp; omega), by omega, rfl⟩
def ivs (es : List Nat) : List Value := es.map fun e => Value.int .i64 ((e : Nat) : Int)
theorem ivs_append (xs ys : List Nat) : ivs (xs ++ ys) = ivs xs ++ ivs ys := by simp [ivs]
/-- a row of ends of the law's own -/
def Ends (w : World) (base : Nat) (v : Value) (es : List Nat) : Prop := w.ownsRow base 3 1 v es.length (ivs es)
theorem Ends.keeps {S : Nat → Prop} {w w' : World} {base : Nat} {v : Value} {os : List Nat} (h : Ends w base v os) (hk : Keeps S w w') (hn : ∀ k, v.ownBlock = some k → ¬ S k) : Ends w' base v os := by
  refine ⟨h.1, ?_⟩
  rcases h.2 with hv | ⟨g, cap, cur, rfl, hb, hgg, rest⟩
  · exact .inl hv
  · refine .inr ⟨g, cap, cur, rfl, hb, ?_, rest⟩
    rw [hk.block g (Array.getElem?_eq_some_iff.1 hgg).1 (hn g rfl)]
    exact hgg
theorem Ends.at {w : World} {base : Nat} {v : Value} {es : List Nat} (h : Ends w base v es) (j : Nat) (hj : j < es.length) :
    ∃ g cap, v = .slice (some ⟨g, 0, none⟩) es.length cap ∧ w.cell? ⟨g, j, none⟩ = some (.int .i64 (es[j] : Int)) := by
  rcases h.2 with ⟨rfl, h0⟩ | ⟨g, cap, cur, rfl, hb, hg, hnc, hcm, hcs, ht⟩
  · omega
  · refine ⟨g, cap, rfl, ?_⟩
    have e1 : cur.toList[j]? = (ivs es)[j]? := by rw [← ht, List.getElem?_take_of_lt (by omega)]
    rw [cell_of_row w g j _ _ _ hg, ← Array.getElem?_toList, e1, ivs, List.getElem?_map, List.getElem?_eq_getElem hj]
    rfl
theorem Ends.form {w : World} {base : Nat} {v : Value} {es : List Nat} (h : Ends w base v es) (hp : es ≠ []) : ∃ g cap, v = .slice (some ⟨g, 0, none⟩) es.length cap ∧ g < w.heap.size ∧ base ≤ g ∧ es.length ≤ cap ∧ cap ≤ maxLen := by
  rcases h.2 with ⟨rfl, h0⟩ | ⟨g, cap, cur, rfl, hb, hg, hnc, hcm, hcs, ht⟩
  · exact absurd (List.eq_nil_of_length_eq_zero h0) hp
  · exact ⟨g, cap, rfl, (Array.getElem?_eq_some_iff.1 hg).1, hb, hnc, hcm⟩
theorem run_append_end {w : World} {base : Nat} {v : Value} {es : List Nat} {e : Nat} {g cap : Nat} (ty : TypeId) (hown : Ends w base v es) (hc : w.cell? ⟨g, 0, none⟩ = some (.int .i64 (e : Int))) (hb : es.length ≤ 4294967296) (hbase : base ≤ w.heap.size) :
    ∃ v' w', (Builtin.append_ #[55, 55] ty #[v, .slice (some ⟨g, 0, none⟩) 1 cap]).run Tryd.prog w = .ok v' w' ∧ Ends w' base v' (es ++ [e]) ∧ w.grownBy w' v.ownBlock ∧ (v'.ownBlock = v.ownBlock ∨ v'.ownBlock = some w.heap.size) := by
  obtain ⟨i, hi, hz0, hz1, hz2⟩ := info_parts info_int
  obtain ⟨v', w', h1, h2, h3, _, h5⟩ := run_append_own_at (P := Tryd.prog) w base 55 ty 3 i _ 1 8 Tryd.underlying55 hi hz0 hz1 hz2 rfl (by omega) v es.length (ivs es) hown ⟨g, 0, none⟩ 1 cap [.int .i64 (e : Int)] rfl (fun j u hj => by
    cases j with
    | zero => cases hj; rw [Addr.add_lit]; exact hc
    | succ j => cases hj) (by
    intro u hu
    obtain rfl := List.mem_singleton.1 hu
    rfl) (by unfold maxLen; omega) (by omega) hbase
  refine ⟨v', w', h1, ?_, h3, h5⟩
  unfold Ends
  rw [List.length_append, ivs_append]
  exact h2
theorem wpList_append_end {w : World} {ops : Array Oper} {rest : List Oper} {o : Oper} {a : Act} {Q : Exit → Act → World → Prop} (s x : Operand) (hw : Region.wanted o (yielded ops a.tmps) = true)
    (ho : o.op = .call { callee := .builtin .append, args := #[s, x], argTypes := #[55, 55] })
    {base : Nat} {v : Value} {es : List Nat} (y : Nat) {g cap : Nat} (hs : a.eval s = v) (hown : Ends w base v es) (hx : a.eval x = .slice (some ⟨g, 0, none⟩) 1 cap) (hc : w.cell? ⟨g, 0, none⟩ = some (.int .i64 (y : Int))) (hb : es.length ≤ 4294967296) (hbase : base ≤ w.heap.size)
    (h : ∀ v' w', Ends w' base v' (es ++ [y]) → w.grownBy w' v.ownBlock → (v'.ownBlock = v.ownBlock ∨ v'.ownBlock = some w.heap.size) → wpList Tryd.prog ops Q rest (a.put o.dst v') w') : wpList Tryd.prog ops Q (o :: rest) a w := by
  refine wpList_step fun K hK => ?_
  rw [if_pos hw]
  obtain ⟨v', w', hr, h2, h3, h4⟩ := run_append_end o.type hown hc hb hbase (cap := cap)
  unfold Oper.wp execOp
  simp only [ho, resolve, invoke, builtin, Sem.run_bind, Sem.run_pure, Result.andThen_ok, List.map_toArray, List.map_cons, List.map_nil, hs, hx, hr]
  exact hK _ _ (h v' w' h2 h3 h4)
/-- what a row of steps lays, and where each ends -/
def LaidE : List Nat → List OpV → List Nat → List Nat → Prop
  | A, [], [], Z => Z = A
  | A, o :: r, e :: es, Z => (layF A o).2 = 0 ∧ e = (layF A o).1.length ∧ LaidE (layF A o).1 r es Z
  | _, _, _, _ => False
theorem LaidE.len {A Z : List Nat} {ss : List OpV} {es : List Nat} (h : LaidE A ss es Z) : ss.length = es.length := by
  induction ss generalizing A es with
  | nil => cases es with
    | nil => rfl
    | cons e es => exact h.elim
  | cons x r ih => cases es with
    | nil => exact h.elim
    | cons e es => simp only [List.length_cons]; rw [ih h.2.2]
theorem LaidE.snoc {A Z : List Nat} {ss : List OpV} {es : List Nat} {o : OpV} (h : LaidE A ss es Z) (ho : (layF Z o).2 = 0) : LaidE A (ss ++ [o]) (es ++ [(layF Z o).1.length]) (layF Z o).1 := by
  induction ss generalizing A es with
  | nil => cases es with
    | nil => cases h; exact ⟨ho, rfl, rfl⟩
    | cons e es => exact h.elim
  | cons x r ih => cases es with
    | nil => exact h.elim
    | cons e es => exact ⟨h.1, h.2.1, ih h.2.2⟩
theorem LaidE.grows {A Z : List Nat} {ss : List OpV} {es : List Nat} (h : LaidE A ss es Z) : ∃ R, Z = A ++ R := by
  induction ss generalizing A es with
  | nil => cases es with
    | nil => exact ⟨[], by rw [List.append_nil]; exact h⟩
    | cons e es => exact h.elim
  | cons x r ih => cases es with
    | nil => exact h.elim
    | cons e es =>
      obtain ⟨B, hB, _⟩ := lay_grow A x
      obtain ⟨R, hR⟩ := ih h.2.2
      exact ⟨B ++ R, by rw [hR, hB, List.append_assoc]⟩
theorem LaidE.last {A Z : List Nat} {ss : List OpV} {es : List Nat} {e : Nat} (h : LaidE A ss (es ++ [e]) Z) : e = Z.length := by
  induction ss generalizing A es with
  | nil => cases es with
    | nil => exact h.elim
    | cons e es => exact h.elim
  | cons x r ih => cases es with
    | nil =>
      cases r with
      | nil => obtain ⟨_, h2, h3⟩ := h; rw [h2, h3]
      | cons y r => exact h.2.2.elim
    | cons e es => exact ih h.2.2
theorem LaidE.last' {A Z : List Nat} {ss : List OpV} {e : Nat} {es : List Nat} (h : LaidE A ss (e :: es) Z) : (e :: es)[es.length]'(by simp) = Z.length := by
  rcases List.eq_nil_or_concat (e :: es) with h0 | ⟨l, x, h0⟩
  · cases h0
  · rw [List.concat_eq_append] at h0
    have hx := LaidE.last (h0 ▸ h)
    have hl : es.length = l.length := by have := congrArg List.length h0; simp at this; exact this
    rw [← hx]
    simp only [h0, hl]
    simp
/-- the writer, the steps, the ends: apart -/
def Fr (w wr : World) (p : Nat) (v vs ve : Value) (zs : List Nat) (why : Int) (SS : List OpV) (ES : List Nat) : Prop :=
  Wr wr p v zs why p ∧ Steps wr w.heap.size vs SS ∧ Ends wr w.heap.size ve ES ∧ Below w.heap.size w wr ∧ (∀ g, vs.ownBlock = some g → g ≠ p ∧ v.ownBlock ≠ some g) ∧ (∀ g, ve.ownBlock = some g → g ≠ p ∧ v.ownBlock ≠ some g ∧ vs.ownBlock ≠ some g) ∧ w.heap.size ≤ p ∧ SS ≠ [] ∧ ES ≠ []
theorem Fr.keeps {w wr w' : World} {p : Nat} {v vs ve : Value} {zs : List Nat} {why : Int} {SS : List OpV} {ES : List Nat} (h : Fr w wr p v vs ve zs why SS ES) (hk : Keeps (fun _ => False) wr w') : Fr w w' p v vs ve zs why SS ES := by
  obtain ⟨h1, h2, h3, h4, h5, h6, h7, h8, h9⟩ := h
  exact ⟨h1.keeps hk (fun h => h) (fun _ _ h => h), h2.keeps hk (fun _ _ h => h), h3.keeps hk (fun _ _ h => h), h4.trans (hk.below h4.size (fun _ _ h => h.elim)), h5, h6, h7, h8, h9⟩
theorem Fr.alloc {w wr : World} {p : Nat} {v vs ve : Value} {zs : List Nat} {why : Int} {SS : List OpV} {ES : List Nat} (h : Fr w wr p v vs ve zs why SS ES) (X : Obj) : Fr w (wr.alloc X) p v vs ve zs why SS ES := h.keeps (Keeps.alloc wr X)
theorem wr_own_lt {w : World} {p b : Nat} {v : Value} {zs : List Nat} {why : Int} (h : Wr w p v zs why b) {g : Nat} (e : v.ownBlock = some g) : g < w.heap.size := by
  rcases h.2.1.2 with ⟨hv, _⟩ | ⟨g', cap, cur, hv, _, hgg, _⟩
  · rw [hv] at e; cases e
  · rw [hv] at e
    cases e
    exact (Array.getElem?_eq_some_iff.1 hgg).1
theorem Fr.laid {w wr w' : World} {p : Nat} {v v' vs ve : Value} {zs Z : List Nat} {why y : Int} {SS : List OpV} {ES : List Nat} (h : Fr w wr p v vs ve zs why SS ES) (g1 : Wr w' p v' Z y p) (g2 : Keeps (Foot p v) wr w') (g3 : At wr v v') : Fr w w' p v' vs ve Z y SS ES := by
  obtain ⟨h1, h2, h3, h4, h5, h6, h7, h8, h9⟩ := h
  have hgs : ∀ g, vs.ownBlock = some g → g < wr.heap.size := fun g hg => by
    obtain ⟨g', cap, rfl, hlt, _⟩ := h2.form h8
    cases hg; exact hlt
  have hge : ∀ g, ve.ownBlock = some g → g < wr.heap.size := fun g hg => by
    obtain ⟨g', cap, rfl, hlt, _⟩ := h3.form h9
    cases hg; exact hlt
  have key : ∀ g, g < wr.heap.size → v.ownBlock ≠ some g → v'.ownBlock ≠ some g := fun g hl hn e => by
    rcases g3 with h3 | ⟨j, hj, hle⟩
    · rw [h3] at e; exact hn e
    · rw [hj] at e; cases e; omega
  refine ⟨g1, h2.keeps g2 (fun g hg hf => ?_), h3.keeps g2 (fun g hg hf => ?_), h4.trans (g2.below h4.size (fun i _ hf => ?_)), fun g hg => ⟨(h5 g hg).1, key g (hgs g hg) (h5 g hg).2⟩, fun g hg => ⟨(h6 g hg).1, key g (hge g hg) (h6 g hg).2.1, (h6 g hg).2.2⟩, h7, h8, h9⟩
  · rcases hf with hf | hf
    · exact (h5 g hg).1 hf
    · exact (h5 g hg).2 hf
  · rcases hf with hf | hf
    · exact (h6 g hg).1 hf
    · exact (h6 g hg).2.1 hf
  · rcases hf with hf | hf
    · omega
    · have := own_ge h1.2.1 hf; omega
/-- a step more -/
theorem Fr.step {w w3 w4 : World} {p : Nat} {v vs vs' ve : Value} {zs : List Nat} {why : Int} {SS : List OpV} {ES : List Nat} {op : OpV} (h : Fr w w3 p v vs ve zs why SS ES) (hs : Steps w4 w.heap.size vs' (SS ++ [op])) (hg : w3.grownBy w4 vs.ownBlock) (ha : vs'.ownBlock = vs.ownBlock ∨ vs'.ownBlock = some w3.heap.size) : Fr w w4 p v vs' ve zs why (SS ++ [op]) ES := by
  obtain ⟨h1, h2, h3, h4, h5, h6, h7, h8, h9⟩ := h
  have hk := Keeps.of_grown hg
  refine ⟨h1.keeps hk (fun e => (h5 p e).1 rfl) (fun j hj e => (h5 j e).2 hj), hs, h3.keeps hk (fun j hj e => (h6 j hj).2.2 e), h4.grown hg h4.size (fun g hgg => ?_), fun g hgg => ?_, fun g hgg => ⟨(h6 g hgg).1, (h6 g hgg).2.1, fun e => ?_⟩, h7, by simp, h9⟩
  · obtain ⟨g', cap, rfl, _, hle, _⟩ := h2.form h8
    cases hgg; exact hle
  · rcases ha with ha | ha
    · rw [ha] at hgg; exact h5 g hgg
    · rw [ha] at hgg
      have e' := Option.some.inj hgg
      have hp := h1.lt
      exact ⟨by omega, fun e => by have := wr_own_lt h1 e; omega⟩
  · rcases ha with ha | ha
    · rw [ha] at e; exact (h6 g hgg).2.2 e
    · rw [ha] at e
      have e' := Option.some.inj e
      obtain ⟨g', cap, rfl, hlt, _⟩ := h3.form h9
      have e2 : g' = g := Option.some.inj hgg
      omega
/-- an end more -/
theorem Fr.endd {w w3 w4 : World} {p : Nat} {v vs ve ve' : Value} {zs : List Nat} {why : Int} {SS : List OpV} {ES : List Nat} {e : Nat} (h : Fr w w3 p v vs ve zs why SS ES) (hs : Ends w4 w.heap.size ve' (ES ++ [e])) (hg : w3.grownBy w4 ve.ownBlock) (ha : ve'.ownBlock = ve.ownBlock ∨ ve'.ownBlock = some w3.heap.size) : Fr w w4 p v vs ve' zs why SS (ES ++ [e]) := by
  obtain ⟨h1, h2, h3, h4, h5, h6, h7, h8, h9⟩ := h
  have hk := Keeps.of_grown hg
  refine ⟨h1.keeps hk (fun e => (h6 p e).1 rfl) (fun j hj e => (h6 j e).2.1 hj), h2.keeps hk (fun j hj e => (h6 j e).2.2 hj), hs, h4.grown hg h4.size (fun g hgg => ?_), h5, fun g hgg => ?_, h7, h8, by simp⟩
  · obtain ⟨g', cap, rfl, _, hle, _⟩ := h3.form h9
    cases hgg; exact hle
  · rcases ha with ha | ha
    · rw [ha] at hgg; exact h6 g hgg
    · rw [ha] at hgg
      have e' := Option.some.inj hgg
      have hp := h1.lt
      refine ⟨by omega, fun e => by have := wr_own_lt h1 e; omega, fun e => ?_⟩
      obtain ⟨g', cap, rfl, hlt, _⟩ := h2.form h8
      have e2 : g' = g := Option.some.inj e
      omega
end Go.Proofs.YtlcjdofciogfaaaDoor
