/- A row of steps that is owned; what a row of steps lays. Own work. -/
import Derived.Test.YtlcjdofciogfaaaDoorOpBack
import Derived.Test.YtlcjdofciogfaaaDoorOpFar
import Derived.Test.YtlcjdofciogfaaaDoorOpNot
import Derived.Maps.AppendAt
namespace Go.Proofs.YtlcjdofciogfaaaDoor
open Go.RowKit
def opc (o : OpV) : List Value := [.int .i64 o.kind, .int .i64 o.pos, .int .u64 (o.n : Int), .int .i64 o.num, o.pv, .string o.s]
def opcs (os : List OpV) : List Value := os.flatMap opc
theorem opcs_length (os : List OpV) : (opcs os).length = os.length * 6 := by
  induction os with
  | nil => rfl
  | cons x xs ih => simp only [opcs, List.flatMap_cons, List.length_append, List.length_cons] at ih ⊢; rw [ih]; simp only [opc, List.length_cons, List.length_nil]; omega
theorem opcs_append (xs ys : List OpV) : opcs (xs ++ ys) = opcs xs ++ opcs ys := by simp [opcs]
theorem opcs_get (os : List OpV) (j i : Nat) (h : j < os.length) (hi : i < 6) : (opcs os)[j * 6 + i]? = (opc os[j])[i]? := by
  induction os generalizing j with
  | nil => simp at h
  | cons x xs ih =>
    cases j with
    | zero =>
      rw [show opcs (x :: xs) = opc x ++ opcs xs from rfl, List.getElem?_append_left (by simp [opc]; omega)]
      simp
    | succ j =>
      have := ih j (by simpa using h)
      rw [show opcs (x :: xs) = opc x ++ opcs xs from rfl, List.getElem?_append_right (by simp [opc]; omega)]
      rw [show (j + 1) * 6 + i - (opc x).length = j * 6 + i by simp [opc]; omega, this]
      rfl
/-- a row of steps of the law's own -/
def Steps (w : World) (base : Nat) (v : Value) (os : List OpV) : Prop := w.ownsRow base 36 6 v os.length (opcs os)
theorem Steps.keeps {S : Nat → Prop} {w w' : World} {base : Nat} {v : Value} {os : List OpV} (h : Steps w base v os) (hk : Keeps S w w') (hn : ∀ k, v.ownBlock = some k → ¬ S k) : Steps w' base v os := by
  refine ⟨h.1, ?_⟩
  rcases h.2 with hv | ⟨g, cap, cur, rfl, hb, hgg, rest⟩
  · exact .inl hv
  · refine .inr ⟨g, cap, cur, rfl, hb, ?_, rest⟩
    rw [hk.block g (Array.getElem?_eq_some_iff.1 hgg).1 (hn g rfl)]
    exact hgg
theorem Steps.at {w : World} {base : Nat} {v : Value} {os : List OpV} (h : Steps w base v os) (j : Nat) (hj : j < os.length) :
    ∃ g cap, v = .slice (some ⟨g, 0, none⟩) os.length cap ∧ w.cell? ⟨g, j * 6, none⟩ = some (.int .i64 os[j].kind) ∧ w.cell? ⟨g, j * 6 + 1, none⟩ = some (.int .i64 os[j].pos) ∧ w.cell? ⟨g, j * 6 + 2, none⟩ = some (.int .u64 (os[j].n : Int)) ∧
      w.cell? ⟨g, j * 6 + 3, none⟩ = some (.int .i64 os[j].num) ∧ w.cell? ⟨g, j * 6 + 4, none⟩ = some os[j].pv ∧ w.cell? ⟨g, j * 6 + 5, none⟩ = some (.string os[j].s) := by
  rcases h.2 with ⟨rfl, h0⟩ | ⟨g, cap, cur, rfl, hb, hg, hnc, hcm, hcs, ht⟩
  · omega
  · have key : ∀ i, i < 6 → w.cell? ⟨g, j * 6 + i, none⟩ = (opc os[j])[i]? := fun i hi => by
      rw [cell_of_row w g (j * 6 + i) _ _ _ hg, ← Array.getElem?_toList, ← opcs_get os j i hj hi, ← ht, List.getElem?_take_of_lt (by omega)]
    exact ⟨g, cap, rfl, key 0 (by omega), key 1 (by omega), key 2 (by omega), key 3 (by omega), key 4 (by omega), key 5 (by omega)⟩
theorem Steps.form {w : World} {base : Nat} {v : Value} {os : List OpV} (h : Steps w base v os) (hp : os ≠ []) : ∃ g cap, v = .slice (some ⟨g, 0, none⟩) os.length cap ∧ g < w.heap.size ∧ base ≤ g ∧ os.length ≤ cap ∧ cap ≤ maxLen := by
  rcases h.2 with ⟨rfl, h0⟩ | ⟨g, cap, cur, rfl, hb, hg, hnc, hcm, hcs, ht⟩
  · exact absurd (List.eq_nil_of_length_eq_zero h0) hp
  · exact ⟨g, cap, rfl, (Array.getElem?_eq_some_iff.1 hg).1, hb, hnc, hcm⟩
theorem info_op : (Tryd.prog.info? 36).map (fun i => (i.zero, i.size, i.bytes)) = some (some (.agg #[.int .i64 0, .int .i64 0, .int .u64 0, .int .i64 0, .slice none 0 0, .string ⟨#[]⟩]), 6, 72) := by kernel_rfl
theorem run_append_op {w : World} {base : Nat} {v : Value} {os : List OpV} {o : OpV} {g cap : Nat} (ty : TypeId) (hown : Steps w base v os) (hc : ∀ i u, (opc o)[i]? = some u → w.cell? ⟨g, i, none⟩ = some u) (ho : o.pv.oneCell' = true) (hb : os.length ≤ 4294967296) (hbase : base ≤ w.heap.size) :
    ∃ v' w', (Builtin.append_ #[22, 22] ty #[v, .slice (some ⟨g, 0, none⟩) 1 cap]).run Tryd.prog w = .ok v' w' ∧ Steps w' base v' (os ++ [o]) ∧ w.grownBy w' v.ownBlock ∧ (v'.ownBlock = v.ownBlock ∨ v'.ownBlock = some w.heap.size) := by
  obtain ⟨i, hi, hz0, hz1, hz2⟩ := info_parts info_op
  obtain ⟨v', w', h1, h2, h3, _, h5⟩ := run_append_own_at (P := Tryd.prog) w base 22 ty 36 i _ 6 72 Tryd.underlying22 hi hz0 hz1 hz2 rfl (by omega) v os.length (opcs os) hown ⟨g, 0, none⟩ 1 cap (opc o) rfl (fun j u hj => by rw [Addr.add_lit, Nat.zero_add]; exact hc j u hj) (by
    intro u hu
    simp only [opc, List.mem_cons, List.not_mem_nil, or_false] at hu
    rcases hu with rfl | rfl | rfl | rfl | rfl | rfl
    · rfl
    · rfl
    · rfl
    · rfl
    · exact ho
    · rfl) (by unfold maxLen; omega) (by omega) hbase
  refine ⟨v', w', h1, ?_, h3, h5⟩
  unfold Steps
  rw [List.length_append, opcs_append, show opcs [o] = opc o by simp [opcs]]
  exact h2
theorem wpList_append_op {w : World} {ops : Array Oper} {rest : List Oper} {o : Oper} {a : Act} {Q : Exit → Act → World → Prop} (s x : Operand) (hw : Region.wanted o (yielded ops a.tmps) = true)
    (ho : o.op = .call { callee := .builtin .append, args := #[s, x], argTypes := #[22, 22] })
    {base : Nat} {v : Value} {os : List OpV} (y : OpV) {g cap : Nat} (hs : a.eval s = v) (hown : Steps w base v os) (hx : a.eval x = .slice (some ⟨g, 0, none⟩) 1 cap) (hc : ∀ i u, (opc y)[i]? = some u → w.cell? ⟨g, i, none⟩ = some u) (h1 : y.pv.oneCell' = true) (hb : os.length ≤ 4294967296) (hbase : base ≤ w.heap.size)
    (h : ∀ v' w', Steps w' base v' (os ++ [y]) → w.grownBy w' v.ownBlock → (v'.ownBlock = v.ownBlock ∨ v'.ownBlock = some w.heap.size) → wpList Tryd.prog ops Q rest (a.put o.dst v') w') : wpList Tryd.prog ops Q (o :: rest) a w := by
  refine wpList_step fun K hK => ?_
  rw [if_pos hw]
  obtain ⟨v', w', hr, h2, h3, h4⟩ := run_append_op o.type hown hc h1 hb hbase (cap := cap)
  unfold Oper.wp execOp
  simp only [ho, resolve, invoke, builtin, Sem.run_bind, Sem.run_pure, Result.andThen_ok, List.map_toArray, List.map_cons, List.map_nil, hs, hx, hr]
  exact hK _ _ (h v' w' h2 h3 h4)
/-- what a row of steps lays, no step refused -/
def LaidL : List Nat → List OpV → List Nat → Prop
  | A, [], Z => Z = A
  | A, o :: r, Z => (layF A o).2 = 0 ∧ LaidL (layF A o).1 r Z
theorem LaidL.snoc {A Z : List Nat} {ss : List OpV} {o : OpV} (h : LaidL A ss Z) (ho : (layF Z o).2 = 0) : LaidL A (ss ++ [o]) (layF Z o).1 := by
  induction ss generalizing A with
  | nil => cases h; exact ⟨ho, rfl⟩
  | cons x r ih => exact ⟨h.1, ih h.2⟩
theorem LaidL.grows {A Z : List Nat} {ss : List OpV} (h : LaidL A ss Z) : ∃ R, Z = A ++ R := by
  induction ss generalizing A with
  | nil => exact ⟨[], by rw [List.append_nil]; exact h⟩
  | cons x r ih =>
    obtain ⟨B, hB, _⟩ := lay_grow A x
    obtain ⟨R, hR⟩ := ih h.2
    exact ⟨B ++ R, by rw [hR, hB, List.append_assoc]⟩
theorem lay_refused {A : List Nat} {o : OpV} (h : (layF A o).2 ≠ 0) : (layF A o).1 = A := by
  unfold layF at h ⊢
  by_cases k1 : o.kind = 1
  · rw [if_pos k1] at h; exact absurd rfl h
  rw [if_neg k1] at h ⊢
  by_cases k2 : o.kind = 2
  · rw [if_pos k2] at h; exact absurd rfl h
  rw [if_neg k2] at h ⊢
  by_cases k3 : o.kind = 3
  · rw [if_pos k3] at h; exact absurd rfl h
  rw [if_neg k3] at h ⊢
  by_cases k4 : o.kind = 4
  · rw [if_pos k4] at h; exact absurd rfl h
  rw [if_neg k4] at h ⊢
  by_cases k5 : o.kind = 5
  · rw [if_pos k5] at h; exact absurd rfl h
  rw [if_neg k5] at h ⊢
  by_cases k6 : o.kind = 6
  · rw [if_pos k6] at h ⊢
    by_cases c : o.s.size ≤ 65535
    · rw [if_pos c] at h; exact absurd rfl h
    · rw [if_neg c]
  rw [if_neg k6] at h ⊢
  by_cases k7 : o.kind = 7
  · rw [if_pos k7] at h ⊢
    by_cases c : 1 ≤ o.num ∧ o.num ≤ 4096
    · rw [if_pos c] at h; exact absurd rfl h
    · rw [if_neg c]
  rw [if_neg k7] at h ⊢
  by_cases k8 : o.kind = 8
  · rw [if_pos k8] at h ⊢
    by_cases c : 0 ≤ o.num ∧ o.num ≤ (A.length : Int)
    · rw [if_pos c] at h; exact absurd rfl h
    · rw [if_neg c]
  rw [if_neg k8]
end Go.Proofs.YtlcjdofciogfaaaDoor
