import Derived.Test.YtgjamnhepbblhaaPk09
import Derived.Laws.OwnMore
import Derived.Maps.AppendAt
import Derived.ArgAppend
/- Pages: rows of leaves that are owned (written by parts/gen_pgown.py). Own work. -/
namespace Go.Proofs.Ytgjamnhepbblhaa
open Go.RowKit Wk
set_option linter.unusedVariables false
def encL (x : L6) : List Value := [.int .u64 (x.v : Int), .int .u64 (x.p : Int), .int .i64 x.n, .bool x.big, .bool x.wr, .bool x.ex]
def encLs (xs : List L6) : List Value := xs.flatMap encL
theorem encLs_length (xs : List L6) : (encLs xs).length = xs.length * 6 := by
  induction xs with
  | nil => rfl
  | cons x xs ih => simp only [encLs, List.flatMap_cons, List.length_append, List.length_cons] at ih ⊢; rw [ih]; simp only [encL, List.length_cons, List.length_nil]; omega
theorem encLs_append (xs ys : List L6) : encLs (xs ++ ys) = encLs xs ++ encLs ys := by simp [encLs]
theorem encL_one (t : L6) : ∀ u ∈ encL t, u.oneCell' = true := by
  intro u hu
  simp only [encL, List.mem_cons, List.not_mem_nil, or_false] at hu
  rcases hu with rfl | rfl | rfl | rfl | rfl | rfl <;> rfl
theorem encLs_get (xs : List L6) (j i : Nat) (h : j < xs.length) (hi : i < 6) : (encLs xs)[j * 6 + i]? = (encL xs[j])[i]? := by
  induction xs generalizing j with
  | nil => simp at h
  | cons x xs ih =>
    cases j with
    | zero =>
      rw [show encLs (x :: xs) = encL x ++ encLs xs from rfl, List.getElem?_append_left (by simp [encL]; omega)]
      simp
    | succ j =>
      have := ih j (by simpa using h)
      rw [show encLs (x :: xs) = encL x ++ encLs xs from rfl, List.getElem?_append_right (by simp [encL]; omega)]
      rw [show (j + 1) * 6 + i - (encL x).length = j * 6 + i by simp [encL]; omega, this]
      rfl
theorem info_leaf : (Try.prog.info? 34).map (fun i => (i.zero, i.size, i.bytes)) = some (some (.agg #[.int .u64 0, .int .u64 0, .int .i64 0, .bool false, .bool false, .bool false]), 6, 32) := by kernel_rfl
/-- a row of runs that is owned -/
def OwnL (w : World) (base : Nat) (v : Value) (xs : List L6) : Prop := w.ownsRow base 34 6 v xs.length (encLs xs)
theorem OwnL.nil (w : World) (base : Nat) : OwnL w base (.slice none 0 0) [] := ⟨rfl, .inl ⟨rfl, rfl⟩⟩
theorem OwnL.lt {w : World} {base : Nat} {v : Value} {xs : List L6} (h : OwnL w base v xs) : ∀ k, v.ownBlock = some k → base ≤ k ∧ k < w.heap.size := World.ownsRow.lt h
theorem OwnL.keeps {S : Nat → Prop} {w w' : World} {base : Nat} {v : Value} {xs : List L6} (h : OwnL w base v xs) (hk : Keeps S w w') (hn : ∀ k, v.ownBlock = some k → ¬ S k) : OwnL w' base v xs := by
  refine ⟨h.1, ?_⟩
  rcases h.2 with hv | ⟨g, cap, cur, rfl, hb, hgg, rest⟩
  · exact .inl hv
  · refine .inr ⟨g, cap, cur, rfl, hb, ?_, rest⟩
    rw [hk.block g (Array.getElem?_eq_some_iff.1 hgg).1 (hn g rfl)]
    exact hgg
theorem OwnL.below {w w' : World} {base : Nat} {v : Value} {xs : List L6} (h : OwnL w base v xs) (hb : Below w.heap.size w w') : OwnL w' base v xs := h.keeps (Keeps.of_below (S := fun _ => False) hb) (fun _ _ e => e)
theorem OwnL.form {w : World} {base : Nat} {v : Value} {xs : List L6} (h : OwnL w base v xs) : ∃ a c, v = .slice a xs.length c := by
  rcases h.2 with ⟨rfl, h0⟩ | ⟨g, cap, cur, rfl, _⟩
  · exact ⟨none, 0, by rw [h0]⟩
  · exact ⟨_, _, rfl⟩
theorem OwnL.lv {w : World} {base : Nat} {v : Value} {xs : List L6} (h : OwnL w base v xs) (hx : ∀ x ∈ xs, L6.ok x) : Lv w v xs := by
  have h' := h
  rcases h.2 with ⟨rfl, h0⟩ | ⟨g, cap, cur, rfl, hb, hg, h1, h2, hs, ht⟩
  · exact ⟨none, 0, by rw [h0], by omega, Nat.zero_le _, hx, fun i hi => by omega⟩
  · have hc : ∀ j i, j < xs.length → i < 6 → ∀ hj : j < xs.length, w.cell? ⟨g, j * 6 + i, none⟩ = (encL xs[j])[i]? := fun j i _ hi hj => by
      rw [World.ownsRow.cellAt h' (j * 6 + i) (by omega)]
      exact encLs_get xs j i hj hi
    refine ⟨_, cap, rfl, h1, h2, hx, fun i hi => ⟨g, 0, rfl, ?_, ?_, ?_, ?_, ?_, ?_⟩⟩
    · rw [Nat.zero_add]; exact hc i 0 hi (by omega) hi
    · rw [Nat.zero_add]; exact hc i 1 hi (by omega) hi
    · rw [Nat.zero_add]; exact hc i 2 hi (by omega) hi
    · rw [Nat.zero_add]; exact hc i 3 hi (by omega) hi
    · rw [Nat.zero_add]; exact hc i 4 hi (by omega) hi
    · rw [Nat.zero_add]; exact hc i 5 hi (by omega) hi
theorem wpList_appendL6 {w : World} {base : Nat} {ops : Array Oper} {rest : List Oper} {o : Oper} {a : Act} {Q : Exit → Act → World → Prop} (hgd : o.guard = none) (s x : Operand)
    (ho : o.op = .call { callee := .builtin .append, args := #[s, x], argTypes := #[22, 22] }) {v : Value} {xs : List L6} {t : L6} {g cap : Nat} (hown : OwnL w base v xs) (hs : a.eval s = v) (hx : a.eval x = .slice (some ⟨g, 0, none⟩) 1 cap) (hg : w.heap[g]? = some (.cells (encL t).toArray 34 (0, 0))) (hb : (xs.length + 1) * 60 ≤ 140737488355328) (hbase : base ≤ w.heap.size)
    (h : ∀ v' w', Hid (OwnL w' base v' (xs ++ [t])) → Hid (w.grownBy w' v.ownBlock) → Hid (v'.ownBlock = v.ownBlock ∨ v'.ownBlock = some w.heap.size) → wpList Try.prog ops Q rest (a.put o.dst v') w') : wpList Try.prog ops Q (o :: rest) a w :=
  wpList_plain hgd fun K hK => by
    obtain ⟨i, hi, hz0, hz1, hz2⟩ := info_parts info_leaf
    obtain ⟨v', w', r1, r2, r3, _, r5⟩ := run_append_own_at (P := Try.prog) w base 22 o.type 34 i (.agg #[.int .u64 0, .int .u64 0, .int .i64 0, .bool false, .bool false, .bool false]) 6 32 Try.underlying22 hi hz0 hz1 hz2 rfl (by omega) v xs.length (encLs xs) hown ⟨g, 0, none⟩ 1 cap (encL t) rfl (fun j u hj => by
      rw [Addr.add_lit, Nat.zero_add, cell_of_row _ _ _ _ _ _ hg, List.getElem?_toArray]
      exact hj) (encL_one t) (by unfold maxLen; omega) (by omega) hbase
    have h2 : OwnL w' base v' (xs ++ [t]) := by
      unfold OwnL
      rw [List.length_append, encLs_append, show encLs [t] = encL t from List.append_nil _]
      exact r2
    unfold Oper.wp execOp
    simp only [ho, resolve, invoke, builtin, Sem.run_bind, Sem.run_pure, Result.andThen_ok, List.map_toArray, List.map_cons, List.map_nil, hs, hx, r1]
    exact hK _ _ (h v' w' h2 r3 r5)
end Go.Proofs.Ytgjamnhepbblhaa
/- Rows of one-cell values at an offset: append, the tail. Own work. -/
namespace Go.Proofs.Ytgjamnhepbblhaa
open Go.RowKit
/-- a row of values of one cell, in a block of its own from an offset on -/
def RowV (w : World) (base : Nat) (e : TypeId) (v : Value) (vs : List Value) : Prop :=
  (v = .slice none 0 0 ∧ vs = []) ∨ ∃ g off cap cur, v = .slice (some ⟨g, off, none⟩) vs.length cap ∧ base ≤ g ∧ w.heap[g]? = some (.cells cur e (0, 0)) ∧ vs.length ≤ cap ∧ cap ≤ maxLen ∧ cur.size = off + cap ∧ (cur.toList.drop off).take vs.length = vs
theorem RowV.nil (w : World) (base : Nat) (e : TypeId) : RowV w base e (.slice none 0 0) [] := .inl ⟨rfl, rfl⟩
theorem RowV.form {w : World} {base : Nat} {e : TypeId} {v : Value} {vs : List Value} (h : RowV w base e v vs) : ∃ a c, v = .slice a vs.length c := by
  rcases h with ⟨rfl, rfl⟩ | ⟨g, off, cap, cur, rfl, _⟩
  · exact ⟨none, 0, rfl⟩
  · exact ⟨_, _, rfl⟩
theorem RowV.lt {w : World} {base : Nat} {e : TypeId} {v : Value} {vs : List Value} (h : RowV w base e v vs) : ∀ k, v.ownBlock = some k → base ≤ k ∧ k < w.heap.size := by
  rcases h with ⟨rfl, rfl⟩ | ⟨g, off, cap, cur, rfl, hb, hg, _⟩
  · intro k hk; cases hk
  · intro k hk
    cases hk
    exact ⟨hb, (Array.getElem?_eq_some_iff.1 hg).1⟩
theorem RowV.keeps {S : Nat → Prop} {w w' : World} {base : Nat} {e : TypeId} {v : Value} {vs : List Value} (h : RowV w base e v vs) (hk : Keeps S w w') (hn : ∀ k, v.ownBlock = some k → ¬ S k) : RowV w' base e v vs := by
  rcases h with h | ⟨g, off, cap, cur, rfl, hb, hg, r⟩
  · exact .inl h
  · exact .inr ⟨g, off, cap, cur, rfl, hb, by rw [hk.block g (Array.getElem?_eq_some_iff.1 hg).1 (hn g rfl)]; exact hg, r⟩
theorem RowV.tag {w : World} {base : Nat} {e : TypeId} {v : Value} {vs : List Value} (h : RowV w base e v vs) : ∀ k, v.ownBlock = some k → ∃ cur, w.heap[k]? = some (.cells cur e (0, 0)) := by
  rcases h with ⟨rfl, rfl⟩ | ⟨g, off, cap, cur, rfl, hb, hg, _⟩
  · intro k hk; cases hk
  · intro k hk
    cases hk
    exact ⟨cur, hg⟩
theorem RowV.cell {w : World} {base : Nat} {e : TypeId} {vs : List Value} {g off n cap : Nat} (h : RowV w base e (.slice (some ⟨g, off, none⟩) n cap) vs) (j : Nat) (hj : j < vs.length) : w.cell? ⟨g, off + j, none⟩ = some vs[j] := by
  rcases h with ⟨h, _⟩ | ⟨g', off', cap', cur, h, hb, hg, hl, hm, hs, ht⟩
  · simp at h
  · simp only [Value.slice.injEq, Option.some.injEq, Addr.mk.injEq, and_true] at h
    obtain ⟨⟨rfl, rfl⟩, rfl, rfl⟩ := h
    rw [cell_of_row _ _ _ _ _ _ hg, ← Array.getElem?_toList]
    have : ((cur.toList.drop off).take vs.length)[j]? = vs[j]? := by rw [ht]
    rw [List.getElem?_take_of_lt hj, List.getElem?_drop] at this
    rw [this, List.getElem?_eq_getElem hj]
theorem RowV.some_of {w : World} {base : Nat} {e : TypeId} {v : Value} {vs : List Value} (h : RowV w base e v vs) (hp : 0 < vs.length) : ∃ g off cap, v = .slice (some ⟨g, off, none⟩) vs.length cap ∧ vs.length ≤ cap := by
  rcases h with ⟨_, rfl⟩ | ⟨g, off, cap, cur, rfl, hb, hg, hl, _⟩
  · simp at hp
  · exact ⟨g, off, cap, rfl, hl⟩
/-- the row without its first -/
theorem RowV.tail {w : World} {base : Nat} {e : TypeId} {x : Value} {vs : List Value} {g off n cap : Nat} (h : RowV w base e (.slice (some ⟨g, off, none⟩) n cap) (x :: vs)) : RowV w base e (.slice (some ⟨g, off + 1, none⟩) vs.length (cap - 1)) vs := by
  rcases h with ⟨h, _⟩ | ⟨g', off', cap', cur, h, hb, hg, hl, hm, hs, ht⟩
  · simp at h
  · simp only [Value.slice.injEq, Option.some.injEq, Addr.mk.injEq, and_true] at h
    obtain ⟨⟨rfl, rfl⟩, rfl, rfl⟩ := h
    simp only [List.length_cons] at hl ht
    refine .inr ⟨g, off + 1, cap - 1, cur, rfl, hb, hg, by omega, by omega, by omega, ?_⟩
    have := congrArg (List.drop 1) ht
    rw [List.drop_take, List.drop_drop] at this
    simpa using this
theorem drop_set_take (l : List Value) (off n : Nat) (x : Value) (h : off + n < l.length) : ((l.set (off + n) x).drop off).take (n + 1) = (l.drop off).take n ++ [x] := by
  rw [List.drop_set, if_neg (by omega), show off + n - off = n by omega, List.take_add_one, List.getElem?_set_self (by simp; omega), List.take_set_of_le (Nat.le_refl _)]
  rfl
/-- append of one value -/
theorem run_appV {w : World} {base : Nat} {t e : TypeId} {v : Value} {vs : List Value} {x : Value} {g cap : Nat} (ty : TypeId) (hu : Try.prog.underlying t = some (.slice e)) (hin : (Try.prog.info? e).map (fun i => (i.zero, i.size, i.bytes)) = some (some (.slice none 0 0), 1, 24)) (hown : RowV w base e v vs) (hx : w.cell? ⟨g, 0, none⟩ = some x) (h1 : x.oneCell' = true) (hb : vs.length ≤ 1048576) (hbase : base ≤ w.heap.size) :
    ∃ v' w', (Builtin.append_ #[t, t] ty #[v, .slice (some ⟨g, 0, none⟩) 1 cap]).run Try.prog w = .ok v' w' ∧ RowV w' base e v' (vs ++ [x]) ∧ w.grownBy w' v.ownBlock ∧ (v'.ownBlock = v.ownBlock ∨ ∃ k, v'.ownBlock = some k ∧ w.heap.size ≤ k) := by
  obtain ⟨i, hi, hz0, hz1, hz2⟩ := info_parts hin
  have hnews : ∀ j u, [x][j]? = some u → w.cell? ((⟨g, 0, none⟩ : Addr).add j) = some u := fun j u hj => by
    rw [Addr.add_lit, Nat.zero_add]
    match j, hj with
    | 0, hj => rw [hx]; exact hj
  have hone : ∀ u ∈ [x], u.oneCell' = true := fun u hu => by obtain rfl := List.mem_singleton.1 hu; exact h1
  have fin : ∀ v' w', w'.ownsRow w.heap.size e 1 v' (vs.length + 1) (vs ++ [x]) → w.grownBy w' none → RowV w' base e v' (vs ++ [x]) ∧ w.grownBy w' v.ownBlock ∧ (v'.ownBlock = v.ownBlock ∨ ∃ k, v'.ownBlock = some k ∧ w.heap.size ≤ k) := fun v' w' ho hg => by
    rcases ho.2 with ⟨_, h0⟩ | ⟨g', cap', cur, rfl, hb', hg', hl, hm, hs, ht⟩
    · omega
    · refine ⟨.inr ⟨g', 0, cap', cur, by simp, Nat.le_trans hbase hb', hg', by simpa using hl, hm, by omega, by simpa using ht⟩, ⟨hg.os, hg.tape, hg.output, hg.size, fun k hk _ => hg.block k hk (fun e => by cases e)⟩, .inr ⟨g', rfl, hb'⟩⟩
  rcases hown with ⟨rfl, rfl⟩ | ⟨b, off, c, cur, rfl, hbb, hg, hl, hm, hs, ht⟩
  · obtain ⟨v', w', r1, r2, r3, _, r5⟩ := run_append_own_at (P := Try.prog) w w.heap.size t ty e i (.slice none 0 0) 1 24 hu hi hz0 hz1 hz2 rfl (by omega) (.slice none 0 0) 0 [] ⟨rfl, .inl ⟨rfl, rfl⟩⟩ ⟨g, 0, none⟩ 1 cap [x] rfl hnews hone (by unfold maxLen; omega) (by omega) (Nat.le_refl _)
    exact ⟨v', w', r1, fin v' w' r2 r3⟩
  · by_cases hr : vs.length + 1 ≤ c
    · have hcell : w.cell? ⟨b, off + vs.length * i.size + 0, none⟩ = cur[off + vs.length]? := by rw [hz1, Nat.mul_one, Nat.add_zero]; exact cell_of_row _ _ _ _ _ _ hg
      have hru := run_append_room_cells (P := Try.prog) w t ty e i hu hi b off vs.length c ⟨g, 0, none⟩ 1 cap [x] (by rw [hz1]; rfl) hnews hone hr (fun j hj => by
        obtain rfl : j = 0 := by simpa using hj
        rw [hcell, Array.getElem?_eq_getElem (by omega)]
        rfl) (fun j _ => by simp [World.frozen?, hg])
      refine ⟨_, _, hru, ?_, ?_, .inl rfl⟩
      · rw [hz1, Nat.mul_one]
        refine .inr ⟨b, off, c, cur.setIfInBounds (off + vs.length) x, by simp, hbb, ?_, by simpa using hr, hm, by simpa using hs, ?_⟩
        · simp [World.setCells, World.setCell, Array.getElem?_modify, hg]
        · rw [Array.toList_setIfInBounds, List.length_append, List.length_singleton, drop_set_take _ _ _ _ (by simp; omega), ht]
      · rw [hz1, Nat.mul_one]
        exact ⟨rfl, rfl, rfl, by simp [World.setCells, World.setCell], fun k hk hne => Below.heap_setCell _ _ _ _ (fun e => hne (by subst e; rfl))⟩
    · obtain ⟨v', w', r1, r2, r3⟩ := run_append_arg_grows (P := Try.prog) w t ty e i (.slice none 0 0) 1 24 hu hi hz0 hz1 hz2 rfl (by omega) ⟨b, off, none⟩ vs.length c vs (by simp) (fun j u hj => by
        rw [Addr.add_lit, cell_of_row _ _ _ _ _ _ hg, ← Array.getElem?_toList]
        have hj' := (List.getElem?_eq_some_iff.1 hj).1
        have : ((cur.toList.drop off).take vs.length)[j]? = vs[j]? := by rw [ht]
        rw [List.getElem?_take_of_lt hj', List.getElem?_drop] at this
        rw [this, hj]) ⟨g, 0, none⟩ 1 cap [x] rfl hnews (by omega) (by unfold maxLen; omega) (by omega)
      exact ⟨v', w', r1, fin v' w' r2 r3⟩
end Go.Proofs.Ytgjamnhepbblhaa
