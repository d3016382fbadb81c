/- Rows of lexemes in memory. -/
import Derived.Test.YtlhecgokedckdaaDoorScText2
import Derived.Deep.RegionHeld3
import Derived.Deep.DeepCutAuto
import Derived.Deep.CutBlock
namespace Go.Proofs.YtlhecgokedckdaaDoor
open Go.RowKit Sc
def encT (t : Tok) : List Value := [.int .i64 (t.kind : Int), .int .u64 (t.n : Int), .string (mkS t.s), .int .i64 (t.at_ : Int), .int .i64 (t.end_ : Int)]
def encTs (ts : List Tok) : List Value := ts.flatMap encT
theorem encTs_length (ts : List Tok) : (encTs ts).length = ts.length * 5 := by
  induction ts with
  | nil => rfl
  | cons x xs ih => simp only [encTs, List.flatMap_cons, List.length_append, List.length_cons] at ih ⊢; rw [ih]; simp only [encT, List.length_cons, List.length_nil]; omega
theorem encTs_append (xs ys : List Tok) : encTs (xs ++ ys) = encTs xs ++ encTs ys := by simp [encTs]
theorem encT_one (t : Tok) : ∀ u ∈ encT t, u.oneCell' = true := by
  intro u hu
  simp only [encT, List.mem_cons, List.not_mem_nil, or_false] at hu
  rcases hu with rfl | rfl | rfl | rfl | rfl <;> rfl
theorem encTs_get (ts : List Tok) (j i : Nat) (h : j < ts.length) (hi : i < 5) : (encTs ts)[j * 5 + i]? = (encT ts[j])[i]? := by
  induction ts generalizing j with
  | nil => simp at h
  | cons x xs ih =>
    cases j with
    | zero =>
      rw [show encTs (x :: xs) = encT x ++ encTs xs from rfl, List.getElem?_append_left (by simp [encT]; omega)]
      simp
    | succ j =>
      have := ih j (by simpa using h)
      rw [show encTs (x :: xs) = encT x ++ encTs xs from rfl, List.getElem?_append_right (by simp [encT]; omega)]
      rw [show (j + 1) * 5 + i - (encT x).length = j * 5 + i by simp [encT]; omega, this]
      rfl
theorem info_tok : (Tryd.prog.info? 38).map (fun i => (i.zero, i.size, i.bytes)) = some (some (.agg #[.int .i64 0, .int .u64 0, .string ⟨#[]⟩, .int .i64 0, .int .i64 0]), 5, 48) := by kernel_rfl
/-- a row of lexemes that is owned from base on -/
def OwnT (w : World) (base : Nat) (v : Value) (ts : List Tok) : Prop := w.ownsRow base 38 5 v ts.length (encTs ts)
theorem OwnT.nil (w : World) (base : Nat) : OwnT w base (.slice none 0 0) [] := ⟨rfl, .inl ⟨rfl, rfl⟩⟩
theorem OwnT.lt {w : World} {base : Nat} {v : Value} {ts : List Tok} (h : OwnT w base v ts) : ∀ k, v.ownBlock = some k → base ≤ k ∧ k < w.heap.size := World.ownsRow.lt h
theorem OwnT.keeps {S : Nat → Prop} {w w' : World} {base : Nat} {v : Value} {ts : List Tok} (h : OwnT w base v ts) (hk : Keeps S w w') (hn : ∀ k, v.ownBlock = some k → ¬ S k) : OwnT w' base v ts := by
  refine ⟨h.1, ?_⟩
  rcases h.2 with hv | ⟨g, cap, cur, rfl, hb, hgg, rest⟩
  · exact .inl hv
  · refine .inr ⟨g, cap, cur, rfl, hb, ?_, rest⟩
    rw [hk.block g (Array.getElem?_eq_some_iff.1 hgg).1 (hn g rfl)]
    exact hgg
theorem OwnT.below {w w' : World} {base : Nat} {v : Value} {ts : List Tok} (h : OwnT w base v ts) (hb : Below w.heap.size w w') : OwnT w' base v ts := h.keeps (Keeps.of_below (S := fun _ => False) hb) (fun _ _ e => e)
theorem OwnT.form {w : World} {base : Nat} {v : Value} {ts : List Tok} (h : OwnT w base v ts) : ∃ a c, v = .slice a ts.length c := by
  rcases h.2 with ⟨rfl, h0⟩ | ⟨g, cap, cur, rfl, _⟩
  · exact ⟨none, 0, by rw [h0]⟩
  · exact ⟨_, _, rfl⟩
/-- a lexeme in a block of its own -/
def TokB (w : World) (g : Nat) (t : Tok) : Prop := w.heap[g]? = some (.cells (encT t).toArray 38 (0, 0))
theorem TokB.lt {w : World} {g : Nat} {t : Tok} (h : TokB w g t) : g < w.heap.size := (Array.getElem?_eq_some_iff.1 h).1
theorem TokB.cells {w : World} {g : Nat} {t : Tok} (h : TokB w g t) : w.cell? ⟨g, 0, none⟩ = some (.int .i64 (t.kind : Int)) ∧ w.cell? ⟨g, 1, none⟩ = some (.int .u64 (t.n : Int)) ∧ w.cell? ⟨g, 2, none⟩ = some (.string (mkS t.s)) ∧ w.cell? ⟨g, 3, none⟩ = some (.int .i64 (t.at_ : Int)) ∧ w.cell? ⟨g, 4, none⟩ = some (.int .i64 (t.end_ : Int)) := by
  refine ⟨?_, ?_, ?_, ?_, ?_⟩ <;> rw [cell_of_row w g _ _ _ _ h] <;> rfl
theorem TokB.thawed {w : World} {g : Nat} {t : Tok} (h : TokB w g t) (i : Nat) : w.frozen? ⟨g, i, none⟩ = false := by
  simp [World.frozen?, show w.heap[g]? = _ from h]
theorem TokB.keeps {S : Nat → Prop} {w w' : World} {g : Nat} {t : Tok} (h : TokB w g t) (hk : Keeps S w w') (hn : ¬ S g) : TokB w' g t := (hk.block g h.lt hn).trans h
theorem run_appendT {w : World} {base : Nat} {v : Value} {ts : List Tok} {t : Tok} {g cap : Nat} (ty : TypeId) (hown : OwnT w base v ts) (hg : TokB w g t) (hb : ts.length ≤ 1048576) (hbase : base ≤ w.heap.size) :
    ∃ v' w', (Builtin.append_ #[29, 29] ty #[v, .slice (some ⟨g, 0, none⟩) 1 cap]).run Tryd.prog w = .ok v' w' ∧ OwnT w' base v' (ts ++ [t]) ∧ w.grownBy w' v.ownBlock ∧ (v'.ownBlock = v.ownBlock ∨ v'.ownBlock = some w.heap.size) := by
  obtain ⟨i, hi, hz0, hz1, hz2⟩ := info_parts info_tok
  obtain ⟨h0, h1, h2, h3, h4⟩ := hg.cells
  obtain ⟨v', w', r1, r2, r3, _, r5⟩ := run_append_own_at (P := Tryd.prog) w base 29 ty 38 i (.agg #[.int .i64 0, .int .u64 0, .string ⟨#[]⟩, .int .i64 0, .int .i64 0]) 5 48 Tryd.underlying29 hi hz0 hz1 hz2 rfl (by omega) v ts.length (encTs ts) hown ⟨g, 0, none⟩ 1 cap (encT t) rfl (fun j u hj => by
    rw [Addr.add_lit, Nat.zero_add]
    match j, hj with
    | 0, hj => rw [h0]; exact hj
    | 1, hj => rw [h1]; exact hj
    | 2, hj => rw [h2]; exact hj
    | 3, hj => rw [h3]; exact hj
    | 4, hj => rw [h4]; exact hj) (encT_one t) (by unfold maxLen; omega) (by omega) hbase
  refine ⟨v', w', r1, ?_, r3, r5⟩
  unfold OwnT
  rw [List.length_append, encTs_append, show encTs [t] = encT t from List.append_nil _]
  exact r2
/-- an append of one lexeme as a step of a region that draws -/
theorem step_appendT {w : World} {ops : Array Oper} {o : Oper} {a : Act} {K : Act → World → Prop} {Q : Exit → Act → World → Prop} {E : Prop} (hw : Region.wanted o (yielded ops a.tmps) = true) (s x : Operand)
    (ho : o.op = .call { callee := .builtin .append, args := #[s, x], argTypes := #[29, 29] })
    {base : Nat} {v : Value} {ts : List Tok} (t : Tok) {g cap : Nat} (hs : a.eval s = v) (hown : OwnT w base v ts) (hx : a.eval x = .slice (some ⟨g, 0, none⟩) 1 cap) (hg : TokB w g t) (hb : ts.length ≤ 1048576) (hbase : base ≤ w.heap.size)
    (h : ∀ v' w', OwnT w' base v' (ts ++ [t]) → w.grownBy w' v.ownBlock → (v'.ownBlock = v.ownBlock ∨ v'.ownBlock = some w.heap.size) → K (a.put o.dst v') w') : if Region.wanted o (yielded ops a.tmps) = true then Oper.wp Tryd.prog o a w K Q else E := by
  rw [if_pos hw]
  obtain ⟨v', w', hr, h2, h3, h4⟩ := run_appendT o.type hown hg hb hbase (cap := cap)
  unfold Oper.wp execOp
  simp only [ho, resolve, invoke, builtin, Sem.run_bind, Sem.run_pure, Result.andThen_ok, List.map_toArray, List.map_cons, List.map_nil, hs, hx, hr]
  exact h v' w' h2 h3 h4
end Go.Proofs.YtlhecgokedckdaaDoor
