/- Rows of ranges that are known whole; Roomy, Intact of ranges. Own work. -/
import Derived.Test.YtmaahompmgmkfaaGreatBMach
import Derived.Laws.StructEq
import Derived.Laws.CopyOwn
import Derived.Lib.Hide
namespace Go.Proofs.YtmaahompmgmkfaaGreat
open Go.RowKit Go.Maps Go.Proofs.YtmaahompmgmkfaaGreat.Sp
theorem info_rg : (Tryz.prog.info? 47).map (fun i => (i.zero, i.size, i.bytes)) = some (some (.agg #[.int .u64 0, .int .u64 0]), 2, 16) := by kernel_rfl
/-- a row of ranges, known whole -/
def RowR (w : World) (g : Nat) (L : List Sp) : Prop := w.heap[g]? = some (.cells (U64.encs L).toArray 47 (0, 0))
theorem RowR.lt {w : World} {g : Nat} {L : List Sp} (h : RowR w g L) : g < w.heap.size := (Array.getElem?_eq_some_iff.1 h).1
theorem RowR.cell0 {w : World} {g : Nat} {L : List Sp} (h : RowR w g L) (j : Nat) (hj : j < L.length) : w.cell? ⟨g, j * 2, none⟩ = some (.int .u64 L[j].1) := by
  rw [cell_of_row _ _ _ _ _ _ h, show ((U64.encs L).toArray[j * 2]?) = (U64.encs L)[j * 2]? by simp]
  exact U64.encs_get0 L j hj
theorem RowR.cell1 {w : World} {g : Nat} {L : List Sp} (h : RowR w g L) (j : Nat) (hj : j < L.length) : w.cell? ⟨g, j * 2 + 1, none⟩ = some (.int .u64 L[j].2) := by
  rw [cell_of_row _ _ _ _ _ _ h, show ((U64.encs L).toArray[j * 2 + 1]?) = (U64.encs L)[j * 2 + 1]? by simp]
  exact U64.encs_get1 L j hj
theorem RowR.below {w w' : World} {g : Nat} {L : List Sp} (h : RowR w g L) (hb : Below w.heap.size w w') : RowR w' g L := (hb.block g h.lt).trans h
theorem RowR.keeps {Z : Nat → Prop} {w w' : World} {g : Nat} {L : List Sp} (h : RowR w g L) (hk : Keeps Z w w') (hn : ¬ Z g) : RowR w' g L := (hk.block g h.lt hn).trans h
theorem RowR.sv {w : World} {g n c : Nat} {L : List Sp} (h : RowR w g L) (hn : n ≤ L.length) (hc : n ≤ c) (hm : c ≤ maxLen) : U64.SV w (.slice (some ⟨g, 0, none⟩) n c) (L.take n) := by
  have hl : (L.take n).length = n := by rw [List.length_take]; omega
  refine ⟨some ⟨g, 0, none⟩, c, by rw [hl], by rw [hl]; exact hc, hm, fun e => (by cases e), fun a e => (by cases e; exact ⟨g, 0, rfl, h.lt⟩), fun i hi => ⟨g, 0, rfl, ?_, ?_⟩⟩
  · rw [Nat.zero_add, List.getElem_take]
    exact h.cell0 i (by omega)
  · rw [Nat.zero_add, List.getElem_take]
    exact h.cell1 i (by omega)
section
variable {P : Program}
/-- copy of things of several cells -/
theorem run_copyS (w : World) (dT sT ty elem : TypeId) (s g o dLen dCap : Nat) (a : Addr) (sLen sCap : Nat) (cur : Array Value) (t : TypeId) (cs : List Value)
    (hu : P.underlying dT = some (.slice elem)) (hs : (P.info? elem).map (·.size) = some s)
    (hg : w.heap[g]? = some (.cells cur t (0, 0))) (hn : cs.length = Nat.min sLen dLen * s)
    (hsrc : ∀ j v, cs[j]? = some v → w.cell? (a.add j) = some v) (hfit : o + cs.length ≤ cur.size) (h1 : ∀ v ∈ cs, v.oneCell' = true) :
    (Builtin.copy_ #[dT, sT] ty #[.slice (some ⟨g, o, none⟩) dLen dCap, .slice (some a) sLen sCap]).run P w =
      .ok (goInt (Nat.min sLen dLen)) (w.setRow g (cur.toList.take o ++ cs ++ cur.toList.drop (o + cs.length)).toArray) := by
  have hl := run_loadCells_list (P := P) w a cs hsrc
  have hst := run_storeCells_at P g o t cs 0 cur w hg (by simpa using hfit) h1
  cases hq : P.info? elem with
  | none => simp [hq] at hs
  | some i =>
    have hi : i.size = s := by simpa [hq] using hs
    simp [Builtin.copy_, run_underlying hu, Builtin.lenOf, Builtin.firstCells, sizeOf, typeInfo, hq, hi, ← hn, hl, hst]
theorem run_copyN (w : World) (dT sT ty elem : TypeId) (a : Addr) (dLen dCap c : Nat) (hu : P.underlying dT = some (.slice elem)) (hs : ((P.info? elem).map (·.size)).isSome = true) :
    (Builtin.copy_ #[dT, sT] ty #[.slice (some a) dLen dCap, .slice none 0 c]).run P w = .ok (goInt 0) w := by
  cases hq : P.info? elem with
  | none => simp [hq] at hs
  | some i => simp [Builtin.copy_, run_underlying hu, Builtin.lenOf, Builtin.firstCells, sizeOf, typeInfo, hq, storeCells]
end
/-- the copy of ranges into a row that is known -/
theorem wpList_copyR {w : World} {ops : Array Oper} {rest : List Oper} {o : Oper} {a : Act} {Q : Exit → Act → World → Prop} (hgd : o.guard = none) (d s : Operand)
    (ho : o.op = .call { callee := .builtin .copy, args := #[d, s], argTypes := #[22, 22] }) {g dCap m : Nat} {v : Value} {xs : List Sp} (hd : a.eval d = .slice (some ⟨g, 0, none⟩) (xs.length + m) dCap) (hs : a.eval s = v) (hr : RowR w g (List.replicate (xs.length + m) (0, 0))) (hv : U64.SV w v xs)
    (h : ∀ w', Hid (RowR w' g (xs ++ List.replicate m (0, 0))) → Hid (Keeps (fun k => k = g) w w') → wpList Tryz.prog ops Q rest (a.put o.dst (goInt xs.length)) w') : wpList Tryz.prog ops Q (o :: rest) a w := by
  obtain ⟨i, hi, hz0, hz1, hz2⟩ := info_parts info_rg
  have hsz : (Tryz.prog.info? 47).map (·.size) = some 2 := by rw [hi, Option.map_some, hz1]
  obtain ⟨ao, cap, rfl, h1, h2, h3, h9, h4⟩ := hv
  refine wpList_plain hgd fun K hK => ?_
  by_cases hp : 0 < xs.length
  · obtain ⟨b, of, rfl, _⟩ := h4 0 hp
    have hrun := run_copyS (P := Tryz.prog) w 22 22 o.type 47 2 g 0 (xs.length + m) dCap ⟨b, of, none⟩ xs.length cap (U64.encs (List.replicate (xs.length + m) (0, 0))).toArray 47 (U64.encs xs) Tryz.underlying22 hsz hr (by rw [U64.encs_length, show Nat.min xs.length (xs.length + m) = xs.length from Nat.min_eq_left (by omega)]) (fun j u hj => by
      have hjl : j < xs.length * 2 := by have := (List.getElem?_eq_some_iff.1 hj).1; rw [U64.encs_length] at this; exact this
      obtain ⟨b', o', e, c0, c1⟩ := h4 (j / 2) (by omega)
      cases e
      rw [Addr.add_lit]
      rcases (by omega : j % 2 = 0 ∨ j % 2 = 1) with e | e
      · rw [show j = j / 2 * 2 by omega, U64.encs_get0 xs (j / 2) (by omega)] at hj
        rw [show j = j / 2 * 2 by omega, c0]
        exact hj
      · rw [show j = j / 2 * 2 + 1 by omega, U64.encs_get1 xs (j / 2) (by omega)] at hj
        rw [show j = j / 2 * 2 + 1 by omega, ← Nat.add_assoc, c1]
        exact hj) (by simp [U64.encs_length]; omega) (U64.encs_one xs)
    rw [show Nat.min xs.length (xs.length + m) = xs.length from Nat.min_eq_left (by omega)] at hrun
    unfold Oper.wp
    simp only [execOp, ho, resolve, invoke, builtin, Sem.run_bind, Sem.run_pure, List.map_toArray, List.map_cons, List.map_nil, hd, hs, hrun, Result.andThen_ok]
    refine hK _ _ (h _ ?_ ⟨rfl, rfl, rfl, by simp [World.setRow], fun k _ hk => setRow_other w g k _ hk⟩)
    have e : (U64.encs (List.replicate (xs.length + m) ((0 : Int), (0 : Int)))).toArray.toList.take 0 ++ U64.encs xs ++ (U64.encs (List.replicate (xs.length + m) ((0 : Int), (0 : Int)))).toArray.toList.drop (0 + (U64.encs xs).length) = U64.encs (xs ++ List.replicate m (0, 0)) := by
      rw [← List.replicate_append_replicate, U64.encs_append, U64.encs_append]
      simp only [List.take_zero, List.nil_append, Nat.zero_add]
      rw [List.drop_append_of_le_length (by rw [U64.encs_length, U64.encs_length, List.length_replicate]; exact Nat.le_refl _), List.drop_of_length_le (by rw [U64.encs_length, U64.encs_length, List.length_replicate]; exact Nat.le_refl _), List.nil_append]
    show _ = _
    rw [e]
    exact setRow_heap w g _ _ _ _ hr
  · obtain rfl : xs = [] := List.eq_nil_of_length_eq_zero (by omega)
    have hr' : RowR w g (List.replicate m (0, 0)) := by
      have := hr
      rw [List.length_nil, Nat.zero_add] at this
      exact this
    have hrun : (Builtin.copy_ #[22, 22] o.type #[.slice (some ⟨g, 0, none⟩) (([] : List Sp).length + m) dCap, .slice ao ([] : List Sp).length cap]).run Tryz.prog w = .ok (goInt 0) w := by
      cases ao with
      | none => exact run_copyN w _ _ _ 47 _ _ _ _ Tryz.underlying22 (by rw [hsz]; rfl)
      | some ad =>
        have := run_copyS (P := Tryz.prog) w 22 22 o.type 47 2 g 0 (([] : List Sp).length + m) dCap ad 0 cap (U64.encs (List.replicate m (0, 0))).toArray 47 [] Tryz.underlying22 hsz hr' (by simp) (fun j u hj => by simp at hj) (by simp) (fun _ h => by cases h)
        rw [show Nat.min 0 (([] : List Sp).length + m) = 0 from Nat.zero_min _] at this
        have e : ((U64.encs (List.replicate m ((0 : Int), (0 : Int)))).toArray.toList.take 0 ++ [] ++ (U64.encs (List.replicate m ((0 : Int), (0 : Int)))).toArray.toList.drop (0 + ([] : List Value).length)).toArray = (U64.encs (List.replicate m ((0 : Int), (0 : Int)))).toArray := by simp
        rw [e, setRow_self w g _ _ _ hr'] at this
        exact this
    unfold Oper.wp
    simp only [execOp, ho, resolve, invoke, builtin, Sem.run_bind, Sem.run_pure, List.map_toArray, List.map_cons, List.map_nil, hd, hs, hrun, Result.andThen_ok]
    exact hK _ _ (h w (by rw [List.nil_append]; exact hr') (Keeps.refl _ _))
theorem RowR.set {w : World} {g : Nat} {L : List Sp} (h : RowR w g L) (j : Nat) (hj : j < L.length) (x : Int × Int) : RowR ((w.setCell ⟨g, j * 2, none⟩ (.int .u64 x.1)).setCell ⟨g, j * 2 + 1, none⟩ (.int .u64 x.2)) g (L.set j x) := by
  have h0 : w.heap[g]? = some (.cells (U64.encs L).toArray 47 (0, 0)) := h
  have e : U64.encs (L.set j x) = ((U64.encs L).set (j * 2) (.int .u64 x.1)).set (j * 2 + 1) (.int .u64 x.2) := by
    clear h h0
    induction L generalizing j with
    | nil => simp at hj
    | cons y ys ih =>
      cases j with
      | zero => rfl
      | succ j =>
        have := ih j (by simpa using hj)
        rw [List.set_cons_succ, show U64.encs (y :: ys.set j x) = U64.enc y ++ U64.encs (ys.set j x) from rfl, this, show U64.encs (y :: ys) = U64.enc y ++ U64.encs ys from rfl]
        rw [List.set_append_right _ _ (by simp [U64.enc]; omega), show (j + 1) * 2 - (U64.enc y).length = j * 2 by simp [U64.enc]; omega, List.set_append_right _ _ (by simp [U64.enc]; omega), show (j + 1) * 2 + 1 - (U64.enc y).length = j * 2 + 1 by simp [U64.enc]; omega]
  unfold RowR
  rw [e]
  simp [World.setCell, Array.getElem?_modify, h0]
end Go.Proofs.YtmaahompmgmkfaaGreat
