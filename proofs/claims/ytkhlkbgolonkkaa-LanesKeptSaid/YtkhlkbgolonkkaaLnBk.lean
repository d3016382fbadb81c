/- Lanes: Roomy, Same, Intact of stints. Own work. -/
import Derived.Test.YtkhlkbgolonkkaaLnAt2
import Derived.Laws.CopyOwn
import Derived.Laws.StructEq
namespace Go.Proofs.Ytkhlkbgolonkkaa
open Go.RowKit
def enc2 (x : Int × Int) : List Value := [.int .i64 x.1, .int .i64 x.2]
def enc2s (xs : List (Int × Int)) : List Value := xs.flatMap enc2
theorem enc2s_length (xs : List (Int × Int)) : (enc2s xs).length = xs.length * 2 := by
  induction xs with
  | nil => rfl
  | cons x xs ih => simp only [enc2s, List.flatMap_cons, List.length_append, List.length_cons] at ih ⊢; rw [ih]; simp only [enc2, List.length_cons, List.length_nil]; omega
theorem enc2s_append (xs ys : List (Int × Int)) : enc2s (xs ++ ys) = enc2s xs ++ enc2s ys := by simp [enc2s]
theorem enc2s_one (xs : List (Int × Int)) : ∀ u ∈ enc2s xs, u.oneCell' = true := by
  intro u hu
  obtain ⟨x, _, hx⟩ := List.mem_flatMap.1 hu
  simp only [enc2, List.mem_cons, List.not_mem_nil, or_false] at hx
  rcases hx with rfl | rfl <;> rfl
theorem enc2s_get (xs : List (Int × Int)) (j i : Nat) (h : j < xs.length) (hi : i < 2) : (enc2s xs)[j * 2 + i]? = (enc2 xs[j])[i]? := by
  induction xs generalizing j with
  | nil => simp at h
  | cons x xs ih =>
    cases j with
    | zero =>
      rw [show enc2s (x :: xs) = enc2 x ++ enc2s xs from rfl, List.getElem?_append_left (by simp [enc2]; omega)]
      simp
    | succ j =>
      have := ih j (by simpa using h)
      rw [show enc2s (x :: xs) = enc2 x ++ enc2s xs from rfl, List.getElem?_append_right (by simp [enc2]; omega)]
      rw [show (j + 1) * 2 + i - (enc2 x).length = j * 2 + i by simp [enc2]; omega, this]
      rfl
theorem info_st : (Try.prog.info? 58).map (fun i => (i.zero, i.size, i.bytes)) = some (some (.agg #[.int .i64 0, .int .i64 0]), 2, 16) := by kernel_rfl
/-- a row of stints, known whole -/
def Row2 (w : World) (g : Nat) (L : List (Int × Int)) : Prop := w.heap[g]? = some (.cells (enc2s L).toArray 58 (0, 0))
theorem Row2.lt {w : World} {g : Nat} {L : List (Int × Int)} (h : Row2 w g L) : g < w.heap.size := (Array.getElem?_eq_some_iff.1 h).1
theorem Row2.cell {w : World} {g : Nat} {L : List (Int × Int)} (h : Row2 w g L) (j i : Nat) (hj : j < L.length) (hi : i < 2) : w.cell? ⟨g, j * 2 + i, none⟩ = (enc2 L[j])[i]? := by
  rw [cell_of_row _ _ _ _ _ _ h]
  rw [show ((enc2s L).toArray[j * 2 + i]?) = (enc2s L)[j * 2 + i]? by simp]
  exact enc2s_get L j i hj hi
theorem Row2.below {w w' : World} {g : Nat} {L : List (Int × Int)} (h : Row2 w g L) (hb : Below w.heap.size w w') : Row2 w' g L := (hb.block g h.lt).trans h
theorem Row2.rd {w : World} {g n c : Nat} {L : List (Int × Int)} (h : Row2 w g L) (hn : n ≤ L.length) (hc : n ≤ c) (hm : c ≤ maxLen) (hx : ∀ x ∈ L.take n, -9223372036854775808 ≤ x.1 ∧ x.1 ≤ 9223372036854775807 ∧ -9223372036854775808 ≤ x.2 ∧ x.2 ≤ 9223372036854775807) : Rd2 w (.slice (some ⟨g, 0, none⟩) n c) (L.take n) := by
  have hl : (L.take n).length = n := by rw [List.length_take]; omega
  refine ⟨some ⟨g, 0, none⟩, c, by rw [hl], by rw [hl]; exact hc, hm, hx, fun i hi => ⟨g, 0, rfl, ?_, ?_⟩⟩
  · have := h.cell i 0 (by omega) (by omega)
    rw [Nat.zero_add, List.getElem_take]
    exact this
  · have := h.cell i 1 (by omega) (by omega)
    rw [Nat.zero_add, List.getElem_take]
    exact this
section
variable {P : Program}
/-- copy of things of several cells -/
theorem run_copyS (w : World) (dT sT ty elem : TypeId) (s g o dLen dCap : Nat) (a : Addr) (sLen sCap : Nat) (cur : Array Value) (t : TypeId) (cs : List Value)
    (hu : P.underlying dT = some (.slice elem)) (hs : (P.info? elem).map (·.size) = some s)
    (hg : w.heap[g]? = some (.cells cur t (0, 0))) (hn : cs.length = Nat.min sLen dLen * s)
    (hsrc : ∀ j v, cs[j]? = some v → w.cell? (a.add j) = some v) (hfit : o + cs.length ≤ cur.size) (h1 : ∀ v ∈ cs, v.oneCell' = true) :
    (Builtin.copy_ #[dT, sT] ty #[.slice (some ⟨g, o, none⟩) dLen dCap, .slice (some a) sLen sCap]).run P w =
      .ok (goInt (Nat.min sLen dLen)) (w.setRow g (cur.toList.take o ++ cs ++ cur.toList.drop (o + cs.length)).toArray) := by
  have hl := run_loadCells_list (P := P) w a cs hsrc
  have hst := run_storeCells_at P g o t cs 0 cur w hg (by simpa using hfit) h1
  cases hq : P.info? elem with
  | none => simp [hq] at hs
  | some i =>
    have hi : i.size = s := by simpa [hq] using hs
    simp [Builtin.copy_, run_underlying hu, Builtin.lenOf, Builtin.firstCells, sizeOf, typeInfo, hq, hi, ← hn, hl, hst]
theorem run_copyN (w : World) (dT sT ty elem : TypeId) (a : Addr) (dLen dCap c : Nat) (hu : P.underlying dT = some (.slice elem)) (hs : ((P.info? elem).map (·.size)).isSome = true) :
    (Builtin.copy_ #[dT, sT] ty #[.slice (some a) dLen dCap, .slice none 0 c]).run P w = .ok (goInt 0) w := by
  cases hq : P.info? elem with
  | none => simp [hq] at hs
  | some i => simp [Builtin.copy_, run_underlying hu, Builtin.lenOf, Builtin.firstCells, sizeOf, typeInfo, hq, storeCells]
end
/-- the copy of stints into a row that is known -/
theorem wpList_copy2 {w : World} {ops : Array Oper} {rest : List Oper} {o : Oper} {a : Act} {Q : Exit → Act → World → Prop} (hgd : o.guard = none) (d s : Operand)
    (ho : o.op = .call { callee := .builtin .copy, args := #[d, s], argTypes := #[59, 59] }) {g dCap m : Nat} {v : Value} {xs : List (Int × Int)} (hd : a.eval d = .slice (some ⟨g, 0, none⟩) (xs.length + m) dCap) (hs : a.eval s = v) (hr : Row2 w g (List.replicate (xs.length + m) (0, 0))) (hv : Rd2 w v xs)
    (h : ∀ w', Hid (Row2 w' g (xs ++ List.replicate m (0, 0))) → Hid (Keeps (fun k => k = g) w w') → wpList Try.prog ops Q rest (a.put o.dst (goInt xs.length)) w') : wpList Try.prog ops Q (o :: rest) a w := by
  obtain ⟨i, hi, hz0, hz1, hz2⟩ := info_parts info_st
  have hsz : (Try.prog.info? 58).map (·.size) = some 2 := by rw [hi, Option.map_some, hz1]
  obtain ⟨ao, cap, rfl, h1, h2, h3, h4⟩ := hv
  refine wpList_plain hgd fun K hK => ?_
  by_cases hp : 0 < xs.length
  · obtain ⟨b, of, rfl, _⟩ := h4 0 hp
    have hrun := run_copyS (P := Try.prog) w 59 59 o.type 58 2 g 0 (xs.length + m) dCap ⟨b, of, none⟩ xs.length cap (enc2s (List.replicate (xs.length + m) (0, 0))).toArray 58 (enc2s xs) Try.underlying59 hsz hr (by rw [enc2s_length, show Nat.min xs.length (xs.length + m) = xs.length from Nat.min_eq_left (by omega)]) (fun j u hj => by
      have hjl : j < xs.length * 2 := by have := (List.getElem?_eq_some_iff.1 hj).1; rw [enc2s_length] at this; exact this
      obtain ⟨b', o', e, c0, c1⟩ := h4 (j / 2) (by omega)
      cases e
      rw [Addr.add_lit]
      have hj2 : j = j / 2 * 2 + j % 2 := by omega
      rw [hj2, enc2s_get xs (j / 2) (j % 2) (by omega) (by omega)] at hj
      rcases (by omega : j % 2 = 0 ∨ j % 2 = 1) with e | e
      · rw [e] at hj
        rw [hj2, e, Nat.add_zero, c0]
        exact hj
      · rw [e] at hj
        rw [hj2, e, ← Nat.add_assoc, c1]
        exact hj) (by simp [enc2s_length]; omega) (enc2s_one xs)
    rw [show Nat.min xs.length (xs.length + m) = xs.length from Nat.min_eq_left (by omega)] at hrun
    unfold Oper.wp
    simp only [execOp, ho, resolve, invoke, builtin, Sem.run_bind, Sem.run_pure, List.map_toArray, List.map_cons, List.map_nil, hd, hs, hrun, Result.andThen_ok]
    refine hK _ _ (h _ ?_ ⟨rfl, rfl, rfl, by simp [World.setRow], fun k _ hk => setRow_other w g k _ hk⟩)
    have e : (enc2s (List.replicate (xs.length + m) ((0 : Int), (0 : Int)))).toArray.toList.take 0 ++ enc2s xs ++ (enc2s (List.replicate (xs.length + m) ((0 : Int), (0 : Int)))).toArray.toList.drop (0 + (enc2s xs).length) = enc2s (xs ++ List.replicate m (0, 0)) := by
      rw [← List.replicate_append_replicate, enc2s_append, enc2s_append]
      simp only [List.take_zero, List.nil_append, Nat.zero_add]
      rw [List.drop_append_of_le_length (by rw [enc2s_length, enc2s_length, List.length_replicate]; exact Nat.le_refl _), List.drop_of_length_le (by rw [enc2s_length, enc2s_length, List.length_replicate]; exact Nat.le_refl _), List.nil_append]
    show _ = _
    rw [e]
    exact setRow_heap w g _ _ _ _ hr
  · obtain rfl : xs = [] := List.eq_nil_of_length_eq_zero (by omega)
    have hr' : Row2 w g (List.replicate m (0, 0)) := by
      have := hr
      rw [List.length_nil, Nat.zero_add] at this
      exact this
    have hrun : (Builtin.copy_ #[59, 59] o.type #[.slice (some ⟨g, 0, none⟩) (([] : List (Int × Int)).length + m) dCap, .slice ao ([] : List (Int × Int)).length cap]).run Try.prog w = .ok (goInt 0) w := by
      cases ao with
      | none => exact run_copyN w _ _ _ 58 _ _ _ _ Try.underlying59 (by rw [hsz]; rfl)
      | some ad =>
        have := run_copyS (P := Try.prog) w 59 59 o.type 58 2 g 0 (([] : List (Int × Int)).length + m) dCap ad 0 cap (enc2s (List.replicate m (0, 0))).toArray 58 [] Try.underlying59 hsz hr' (by simp) (fun j u hj => by simp at hj) (by simp) (fun _ h => by cases h)
        rw [show Nat.min 0 (([] : List (Int × Int)).length + m) = 0 from Nat.zero_min _] at this
        have e : ((enc2s (List.replicate m ((0 : Int), (0 : Int)))).toArray.toList.take 0 ++ [] ++ (enc2s (List.replicate m ((0 : Int), (0 : Int)))).toArray.toList.drop (0 + ([] : List Value).length)).toArray = (enc2s (List.replicate m ((0 : Int), (0 : Int)))).toArray := by simp
        rw [e, setRow_self w g _ _ _ hr'] at this
        exact this
    unfold Oper.wp
    simp only [execOp, ho, resolve, invoke, builtin, Sem.run_bind, Sem.run_pure, List.map_toArray, List.map_cons, List.map_nil, hd, hs, hrun, Result.andThen_ok]
    exact hK _ _ (h w (by rw [List.nil_append]; exact hr') (Keeps.refl _ _))
theorem Row2.set {w : World} {g : Nat} {L : List (Int × Int)} (h : Row2 w g L) (j : Nat) (hj : j < L.length) (x : Int × Int) : Row2 ((w.setCell ⟨g, j * 2, none⟩ (.int .i64 x.1)).setCell ⟨g, j * 2 + 1, none⟩ (.int .i64 x.2)) g (L.set j x) := by
  have h0 : w.heap[g]? = some (.cells (enc2s L).toArray 58 (0, 0)) := h
  have e : enc2s (L.set j x) = ((enc2s L).set (j * 2) (.int .i64 x.1)).set (j * 2 + 1) (.int .i64 x.2) := by
    clear h h0
    induction L generalizing j with
    | nil => simp at hj
    | cons y ys ih =>
      cases j with
      | zero => rfl
      | succ j =>
        have := ih j (by simpa using hj)
        rw [List.set_cons_succ, show enc2s (y :: ys.set j x) = enc2 y ++ enc2s (ys.set j x) from rfl, this, show enc2s (y :: ys) = enc2 y ++ enc2s ys from rfl]
        rw [List.set_append_right _ _ (by simp [enc2]; omega), show (j + 1) * 2 - (enc2 y).length = j * 2 by simp [enc2]; omega, List.set_append_right _ _ (by simp [enc2]; omega), show (j + 1) * 2 + 1 - (enc2 y).length = j * 2 + 1 by simp [enc2]; omega]
  unfold Row2
  rw [e]
  simp [World.setCell, Array.getElem?_modify, h0]
end Go.Proofs.Ytkhlkbgolonkkaa
