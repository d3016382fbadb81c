/- Pages: rows of leaves that are owned (written by parts/gen_pgown.py). Own work. -/
import Derived.Test.YtjfpdphedpnelaaPgRs
import Derived.Laws.OwnMore
namespace Go.Proofs.Ytjfpdphedpnelaa
open Go.RowKit Wk
set_option linter.unusedVariables false
def encL (x : L6) : List Value := [.int .u64 (x.v : Int), .int .u64 (x.p : Int), .int .i64 x.n, .bool x.big, .bool x.wr, .bool x.ex]
def encLs (xs : List L6) : List Value := xs.flatMap encL
theorem encLs_length (xs : List L6) : (encLs xs).length = xs.length * 6 := by
  induction xs with
  | nil => rfl
  | cons x xs ih => simp only [encLs, List.flatMap_cons, List.length_append, List.length_cons] at ih ⊢; rw [ih]; simp only [encL, List.length_cons, List.length_nil]; omega
theorem encLs_append (xs ys : List L6) : encLs (xs ++ ys) = encLs xs ++ encLs ys := by simp [encLs]
theorem encL_one (t : L6) : ∀ u ∈ encL t, u.oneCell' = true := by
  intro u hu
  simp only [encL, List.mem_cons, List.not_mem_nil, or_false] at hu
  rcases hu with rfl | rfl | rfl | rfl | rfl | rfl <;> rfl
theorem encLs_get (xs : List L6) (j i : Nat) (h : j < xs.length) (hi : i < 6) : (encLs xs)[j * 6 + i]? = (encL xs[j])[i]? := by
  induction xs generalizing j with
  | nil => simp at h
  | cons x xs ih =>
    cases j with
    | zero =>
      rw [show encLs (x :: xs) = encL x ++ encLs xs from rfl, List.getElem?_append_left (by simp [encL]; omega)]
      simp
    | succ j =>
      have := ih j (by simpa using h)
      rw [show encLs (x :: xs) = encL x ++ encLs xs from rfl, List.getElem?_append_right (by simp [encL]; omega)]
      rw [show (j + 1) * 6 + i - (encL x).length = j * 6 + i by simp [encL]; omega, this]
      rfl
theorem info_leaf : (Try.prog.info? 34).map (fun i => (i.zero, i.size, i.bytes)) = some (some (.agg #[.int .u64 0, .int .u64 0, .int .i64 0, .bool false, .bool false, .bool false]), 6, 32) := by kernel_rfl
/-- a row of runs that is owned -/
def OwnL (w : World) (base : Nat) (v : Value) (xs : List L6) : Prop := w.ownsRow base 34 6 v xs.length (encLs xs)
theorem OwnL.nil (w : World) (base : Nat) : OwnL w base (.slice none 0 0) [] := ⟨rfl, .inl ⟨rfl, rfl⟩⟩
theorem OwnL.lt {w : World} {base : Nat} {v : Value} {xs : List L6} (h : OwnL w base v xs) : ∀ k, v.ownBlock = some k → base ≤ k ∧ k < w.heap.size := World.ownsRow.lt h
theorem OwnL.keeps {S : Nat → Prop} {w w' : World} {base : Nat} {v : Value} {xs : List L6} (h : OwnL w base v xs) (hk : Keeps S w w') (hn : ∀ k, v.ownBlock = some k → ¬ S k) : OwnL w' base v xs := by
  refine ⟨h.1, ?_⟩
  rcases h.2 with hv | ⟨g, cap, cur, rfl, hb, hgg, rest⟩
  · exact .inl hv
  · refine .inr ⟨g, cap, cur, rfl, hb, ?_, rest⟩
    rw [hk.block g (Array.getElem?_eq_some_iff.1 hgg).1 (hn g rfl)]
    exact hgg
theorem OwnL.below {w w' : World} {base : Nat} {v : Value} {xs : List L6} (h : OwnL w base v xs) (hb : Below w.heap.size w w') : OwnL w' base v xs := h.keeps (Keeps.of_below (S := fun _ => False) hb) (fun _ _ e => e)
theorem OwnL.form {w : World} {base : Nat} {v : Value} {xs : List L6} (h : OwnL w base v xs) : ∃ a c, v = .slice a xs.length c := by
  rcases h.2 with ⟨rfl, h0⟩ | ⟨g, cap, cur, rfl, _⟩
  · exact ⟨none, 0, by rw [h0]⟩
  · exact ⟨_, _, rfl⟩
theorem OwnL.lv {w : World} {base : Nat} {v : Value} {xs : List L6} (h : OwnL w base v xs) (hx : ∀ x ∈ xs, L6.ok x) : Lv w v xs := by
  have h' := h
  rcases h.2 with ⟨rfl, h0⟩ | ⟨g, cap, cur, rfl, hb, hg, h1, h2, hs, ht⟩
  · exact ⟨none, 0, by rw [h0], by omega, Nat.zero_le _, hx, fun i hi => by omega⟩
  · have hc : ∀ j i, j < xs.length → i < 6 → ∀ hj : j < xs.length, w.cell? ⟨g, j * 6 + i, none⟩ = (encL xs[j])[i]? := fun j i _ hi hj => by
      rw [World.ownsRow.cellAt h' (j * 6 + i) (by omega)]
      exact encLs_get xs j i hj hi
    refine ⟨_, cap, rfl, h1, h2, hx, fun i hi => ⟨g, 0, rfl, ?_, ?_, ?_, ?_, ?_, ?_⟩⟩
    · rw [Nat.zero_add]; exact hc i 0 hi (by omega) hi
    · rw [Nat.zero_add]; exact hc i 1 hi (by omega) hi
    · rw [Nat.zero_add]; exact hc i 2 hi (by omega) hi
    · rw [Nat.zero_add]; exact hc i 3 hi (by omega) hi
    · rw [Nat.zero_add]; exact hc i 4 hi (by omega) hi
    · rw [Nat.zero_add]; exact hc i 5 hi (by omega) hi
theorem wpList_appendL6 {w : World} {base : Nat} {ops : Array Oper} {rest : List Oper} {o : Oper} {a : Act} {Q : Exit → Act → World → Prop} (hgd : o.guard = none) (s x : Operand)
    (ho : o.op = .call { callee := .builtin .append, args := #[s, x], argTypes := #[22, 22] }) {v : Value} {xs : List L6} {t : L6} {g cap : Nat} (hown : OwnL w base v xs) (hs : a.eval s = v) (hx : a.eval x = .slice (some ⟨g, 0, none⟩) 1 cap) (hg : w.heap[g]? = some (.cells (encL t).toArray 34 (0, 0))) (hb : (xs.length + 1) * 60 ≤ 140737488355328) (hbase : base ≤ w.heap.size)
    (h : ∀ v' w', Hid (OwnL w' base v' (xs ++ [t])) → Hid (w.grownBy w' v.ownBlock) → Hid (v'.ownBlock = v.ownBlock ∨ v'.ownBlock = some w.heap.size) → wpList Try.prog ops Q rest (a.put o.dst v') w') : wpList Try.prog ops Q (o :: rest) a w :=
  wpList_plain hgd fun K hK => by
    obtain ⟨i, hi, hz0, hz1, hz2⟩ := info_parts info_leaf
    obtain ⟨v', w', r1, r2, r3, _, r5⟩ := run_append_own_at (P := Try.prog) w base 22 o.type 34 i (.agg #[.int .u64 0, .int .u64 0, .int .i64 0, .bool false, .bool false, .bool false]) 6 32 Try.underlying22 hi hz0 hz1 hz2 rfl (by omega) v xs.length (encLs xs) hown ⟨g, 0, none⟩ 1 cap (encL t) rfl (fun j u hj => by
      rw [Addr.add_lit, Nat.zero_add, cell_of_row _ _ _ _ _ _ hg, List.getElem?_toArray]
      exact hj) (encL_one t) (by unfold maxLen; omega) (by omega) hbase
    have h2 : OwnL w' base v' (xs ++ [t]) := by
      unfold OwnL
      rw [List.length_append, encLs_append, show encLs [t] = encL t from List.append_nil _]
      exact r2
    unfold Oper.wp execOp
    simp only [ho, resolve, invoke, builtin, Sem.run_bind, Sem.run_pure, Result.andThen_ok, List.map_toArray, List.map_cons, List.map_nil, hs, hx, r1]
    exact hK _ _ (h v' w' h2 r3 r5)
end Go.Proofs.Ytjfpdphedpnelaa
