import Derived.Test.YtfnikcjcgneboaaGreatPk04
import Derived.Laws.StructEq
import Derived.Laws.CopyOwn
import Derived.Lib.Hide
import Derived.Deep.AppendSrc
import Derived.Test.YtfnikcjcgneboaaGreatPk09
import Derived.Deep.QuietTactic
import Derived.BigQuiet
import Derived.RegionTactic
/- Rows of ranges that are known whole; Roomy, Intact of ranges. Own work. -/
namespace Go.Proofs.YtfnikcjcgneboaaGreat
open Go.RowKit Go.Maps Go.Proofs.YtfnikcjcgneboaaGreat.Sp
theorem info_rg : (Tryz.prog.info? 78).map (fun i => (i.zero, i.size, i.bytes)) = some (some (.agg #[.int .u64 0, .int .u64 0]), 2, 16) := by kernel_rfl
/-- a row of ranges, known whole -/
def RowR (w : World) (g : Nat) (L : List Sp) : Prop := w.heap[g]? = some (.cells (U64.encs L).toArray 78 (0, 0))
theorem RowR.lt {w : World} {g : Nat} {L : List Sp} (h : RowR w g L) : g < w.heap.size := (Array.getElem?_eq_some_iff.1 h).1
theorem RowR.cell0 {w : World} {g : Nat} {L : List Sp} (h : RowR w g L) (j : Nat) (hj : j < L.length) : w.cell? ⟨g, j * 2, none⟩ = some (.int .u64 L[j].1) := by
  rw [cell_of_row _ _ _ _ _ _ h, show ((U64.encs L).toArray[j * 2]?) = (U64.encs L)[j * 2]? by simp]
  exact U64.encs_get0 L j hj
theorem RowR.cell1 {w : World} {g : Nat} {L : List Sp} (h : RowR w g L) (j : Nat) (hj : j < L.length) : w.cell? ⟨g, j * 2 + 1, none⟩ = some (.int .u64 L[j].2) := by
  rw [cell_of_row _ _ _ _ _ _ h, show ((U64.encs L).toArray[j * 2 + 1]?) = (U64.encs L)[j * 2 + 1]? by simp]
  exact U64.encs_get1 L j hj
theorem RowR.below {w w' : World} {g : Nat} {L : List Sp} (h : RowR w g L) (hb : Below w.heap.size w w') : RowR w' g L := (hb.block g h.lt).trans h
theorem RowR.keeps {Z : Nat → Prop} {w w' : World} {g : Nat} {L : List Sp} (h : RowR w g L) (hk : Keeps Z w w') (hn : ¬ Z g) : RowR w' g L := (hk.block g h.lt hn).trans h
theorem RowR.sv {w : World} {g n c : Nat} {L : List Sp} (h : RowR w g L) (hn : n ≤ L.length) (hc : n ≤ c) (hm : c ≤ maxLen) : U64.SV w (.slice (some ⟨g, 0, none⟩) n c) (L.take n) := by
  have hl : (L.take n).length = n := by rw [List.length_take]; omega
  refine ⟨some ⟨g, 0, none⟩, c, by rw [hl], by rw [hl]; exact hc, hm, fun e => (by cases e), fun a e => (by cases e; exact ⟨g, 0, rfl, h.lt⟩), fun i hi => ⟨g, 0, rfl, ?_, ?_⟩⟩
  · rw [Nat.zero_add, List.getElem_take]
    exact h.cell0 i (by omega)
  · rw [Nat.zero_add, List.getElem_take]
    exact h.cell1 i (by omega)
section
variable {P : Program}
/-- copy of things of several cells -/
theorem run_copyS (w : World) (dT sT ty elem : TypeId) (s g o dLen dCap : Nat) (a : Addr) (sLen sCap : Nat) (cur : Array Value) (t : TypeId) (cs : List Value)
    (hu : P.underlying dT = some (.slice elem)) (hs : (P.info? elem).map (·.size) = some s)
    (hg : w.heap[g]? = some (.cells cur t (0, 0))) (hn : cs.length = Nat.min sLen dLen * s)
    (hsrc : ∀ j v, cs[j]? = some v → w.cell? (a.add j) = some v) (hfit : o + cs.length ≤ cur.size) (h1 : ∀ v ∈ cs, v.oneCell' = true) :
    (Builtin.copy_ #[dT, sT] ty #[.slice (some ⟨g, o, none⟩) dLen dCap, .slice (some a) sLen sCap]).run P w =
      .ok (goInt (Nat.min sLen dLen)) (w.setRow g (cur.toList.take o ++ cs ++ cur.toList.drop (o + cs.length)).toArray) := by
  have hl := run_loadCells_list (P := P) w a cs hsrc
  have hst := run_storeCells_at P g o t cs 0 cur w hg (by simpa using hfit) h1
  cases hq : P.info? elem with
  | none => simp [hq] at hs
  | some i =>
    have hi : i.size = s := by simpa [hq] using hs
    simp [Builtin.copy_, run_underlying hu, Builtin.lenOf, Builtin.firstCells, sizeOf, typeInfo, hq, hi, ← hn, hl, hst]
theorem run_copyN (w : World) (dT sT ty elem : TypeId) (a : Addr) (dLen dCap c : Nat) (hu : P.underlying dT = some (.slice elem)) (hs : ((P.info? elem).map (·.size)).isSome = true) :
    (Builtin.copy_ #[dT, sT] ty #[.slice (some a) dLen dCap, .slice none 0 c]).run P w = .ok (goInt 0) w := by
  cases hq : P.info? elem with
  | none => simp [hq] at hs
  | some i => simp [Builtin.copy_, run_underlying hu, Builtin.lenOf, Builtin.firstCells, sizeOf, typeInfo, hq, storeCells]
end
/-- the copy of ranges into a row that is known -/
theorem wpList_copyR {w : World} {ops : Array Oper} {rest : List Oper} {o : Oper} {a : Act} {Q : Exit → Act → World → Prop} (hgd : o.guard = none) (d s : Operand)
    (ho : o.op = .call { callee := .builtin .copy, args := #[d, s], argTypes := #[22, 22] }) {g dCap m : Nat} {v : Value} {xs : List Sp} (hd : a.eval d = .slice (some ⟨g, 0, none⟩) (xs.length + m) dCap) (hs : a.eval s = v) (hr : RowR w g (List.replicate (xs.length + m) (0, 0))) (hv : U64.SV w v xs)
    (h : ∀ w', Hid (RowR w' g (xs ++ List.replicate m (0, 0))) → Hid (Keeps (fun k => k = g) w w') → wpList Tryz.prog ops Q rest (a.put o.dst (goInt xs.length)) w') : wpList Tryz.prog ops Q (o :: rest) a w := by
  obtain ⟨i, hi, hz0, hz1, hz2⟩ := info_parts info_rg
  have hsz : (Tryz.prog.info? 78).map (·.size) = some 2 := by rw [hi, Option.map_some, hz1]
  obtain ⟨ao, cap, rfl, h1, h2, h3, h9, h4⟩ := hv
  refine wpList_plain hgd fun K hK => ?_
  by_cases hp : 0 < xs.length
  · obtain ⟨b, of, rfl, _⟩ := h4 0 hp
    have hrun := run_copyS (P := Tryz.prog) w 22 22 o.type 78 2 g 0 (xs.length + m) dCap ⟨b, of, none⟩ xs.length cap (U64.encs (List.replicate (xs.length + m) (0, 0))).toArray 78 (U64.encs xs) Tryz.underlying22 hsz hr (by rw [U64.encs_length, show Nat.min xs.length (xs.length + m) = xs.length from Nat.min_eq_left (by omega)]) (fun j u hj => by
      have hjl : j < xs.length * 2 := by have := (List.getElem?_eq_some_iff.1 hj).1; rw [U64.encs_length] at this; exact this
      obtain ⟨b', o', e, c0, c1⟩ := h4 (j / 2) (by omega)
      cases e
      rw [Addr.add_lit]
      rcases (by omega : j % 2 = 0 ∨ j % 2 = 1) with e | e
      · rw [show j = j / 2 * 2 by omega, U64.encs_get0 xs (j / 2) (by omega)] at hj
        rw [show j = j / 2 * 2 by omega, c0]
        exact hj
      · rw [show j = j / 2 * 2 + 1 by omega, U64.encs_get1 xs (j / 2) (by omega)] at hj
        rw [show j = j / 2 * 2 + 1 by omega, ← Nat.add_assoc, c1]
        exact hj) (by simp [U64.encs_length]; omega) (U64.encs_one xs)
    rw [show Nat.min xs.length (xs.length + m) = xs.length from Nat.min_eq_left (by omega)] at hrun
    unfold Oper.wp
    simp only [execOp, ho, resolve, invoke, builtin, Sem.run_bind, Sem.run_pure, List.map_toArray, List.map_cons, List.map_nil, hd, hs, hrun, Result.andThen_ok]
    refine hK _ _ (h _ ?_ ⟨rfl, rfl, rfl, by simp [World.setRow], fun k _ hk => setRow_other w g k _ hk⟩)
    have e : (U64.encs (List.replicate (xs.length + m) ((0 : Int), (0 : Int)))).toArray.toList.take 0 ++ U64.encs xs ++ (U64.encs (List.replicate (xs.length + m) ((0 : Int), (0 : Int)))).toArray.toList.drop (0 + (U64.encs xs).length) = U64.encs (xs ++ List.replicate m (0, 0)) := by
      rw [← List.replicate_append_replicate, U64.encs_append, U64.encs_append]
      simp only [List.take_zero, List.nil_append, Nat.zero_add]
      rw [List.drop_append_of_le_length (by rw [U64.encs_length, U64.encs_length, List.length_replicate]; exact Nat.le_refl _), List.drop_of_length_le (by rw [U64.encs_length, U64.encs_length, List.length_replicate]; exact Nat.le_refl _), List.nil_append]
    show _ = _
    rw [e]
    exact setRow_heap w g _ _ _ _ hr
  · obtain rfl : xs = [] := List.eq_nil_of_length_eq_zero (by omega)
    have hr' : RowR w g (List.replicate m (0, 0)) := by
      have := hr
      rw [List.length_nil, Nat.zero_add] at this
      exact this
    have hrun : (Builtin.copy_ #[22, 22] o.type #[.slice (some ⟨g, 0, none⟩) (([] : List Sp).length + m) dCap, .slice ao ([] : List Sp).length cap]).run Tryz.prog w = .ok (goInt 0) w := by
      cases ao with
      | none => exact run_copyN w _ _ _ 78 _ _ _ _ Tryz.underlying22 (by rw [hsz]; rfl)
      | some ad =>
        have := run_copyS (P := Tryz.prog) w 22 22 o.type 78 2 g 0 (([] : List Sp).length + m) dCap ad 0 cap (U64.encs (List.replicate m (0, 0))).toArray 78 [] Tryz.underlying22 hsz hr' (by simp) (fun j u hj => by simp at hj) (by simp) (fun _ h => by cases h)
        rw [show Nat.min 0 (([] : List Sp).length + m) = 0 from Nat.zero_min _] at this
        have e : ((U64.encs (List.replicate m ((0 : Int), (0 : Int)))).toArray.toList.take 0 ++ [] ++ (U64.encs (List.replicate m ((0 : Int), (0 : Int)))).toArray.toList.drop (0 + ([] : List Value).length)).toArray = (U64.encs (List.replicate m ((0 : Int), (0 : Int)))).toArray := by simp
        rw [e, setRow_self w g _ _ _ hr'] at this
        exact this
    unfold Oper.wp
    simp only [execOp, ho, resolve, invoke, builtin, Sem.run_bind, Sem.run_pure, List.map_toArray, List.map_cons, List.map_nil, hd, hs, hrun, Result.andThen_ok]
    exact hK _ _ (h w (by rw [List.nil_append]; exact hr') (Keeps.refl _ _))
theorem RowR.set {w : World} {g : Nat} {L : List Sp} (h : RowR w g L) (j : Nat) (hj : j < L.length) (x : Int × Int) : RowR ((w.setCell ⟨g, j * 2, none⟩ (.int .u64 x.1)).setCell ⟨g, j * 2 + 1, none⟩ (.int .u64 x.2)) g (L.set j x) := by
  have h0 : w.heap[g]? = some (.cells (U64.encs L).toArray 78 (0, 0)) := h
  have e : U64.encs (L.set j x) = ((U64.encs L).set (j * 2) (.int .u64 x.1)).set (j * 2 + 1) (.int .u64 x.2) := by
    clear h h0
    induction L generalizing j with
    | nil => simp at hj
    | cons y ys ih =>
      cases j with
      | zero => rfl
      | succ j =>
        have := ih j (by simpa using hj)
        rw [List.set_cons_succ, show U64.encs (y :: ys.set j x) = U64.enc y ++ U64.encs (ys.set j x) from rfl, this, show U64.encs (y :: ys) = U64.enc y ++ U64.encs ys from rfl]
        rw [List.set_append_right _ _ (by simp [U64.enc]; omega), show (j + 1) * 2 - (U64.enc y).length = j * 2 by simp [U64.enc]; omega, List.set_append_right _ _ (by simp [U64.enc]; omega), show (j + 1) * 2 + 1 - (U64.enc y).length = j * 2 + 1 by simp [U64.enc]; omega]
  unfold RowR
  rw [e]
  simp [World.setCell, Array.getElem?_modify, h0]
end Go.Proofs.YtfnikcjcgneboaaGreat
/- Ranges that are laid behind one another: append of ranges; bulkheadref3.All. Own work. -/
namespace Go.Proofs.YtfnikcjcgneboaaGreat
open Go.RowKit Go.Maps Go.Proofs.YtfnikcjcgneboaaGreat.Sp
/-- a row of ranges that is owned from base on -/
def OwnRg (w : World) (base : Nat) (v : Value) (xs : List Sp) : Prop := w.ownsRow base 78 2 v xs.length (U64.encs xs)
theorem OwnRg.sv {w : World} {base : Nat} {v : Value} {xs : List Sp} (h : OwnRg w base v xs) : U64.SV w v xs := by
  rcases h.2 with ⟨rfl, h0⟩ | ⟨g, cap, cur, rfl, hb, hg, hnc, hcm, hcs, ht⟩
  · obtain rfl := List.eq_nil_of_length_eq_zero h0
    exact U64.SV.nil w
  · refine ⟨_, cap, rfl, hnc, hcm, fun e => (by cases e), fun a e => (by cases e; exact ⟨g, 0, rfl, (Array.getElem?_eq_some_iff.1 hg).1⟩), fun j hj => ⟨g, 0, rfl, ?_, ?_⟩⟩
    · rw [Nat.zero_add, cell_of_row w g (j * 2) _ _ _ hg, ← Array.getElem?_toList, ← U64.encs_get0 xs j hj, ← ht, List.getElem?_take_of_lt (by omega)]
    · rw [Nat.zero_add, cell_of_row w g (j * 2 + 1) _ _ _ hg, ← Array.getElem?_toList, ← U64.encs_get1 xs j hj, ← ht, List.getElem?_take_of_lt (by omega)]
theorem OwnRg.nil (w : World) (base : Nat) : OwnRg w base (.slice none 0 0) [] := ⟨rfl, .inl ⟨rfl, rfl⟩⟩
theorem OwnRg.form {w : World} {base : Nat} {v : Value} {xs : List Sp} (h : OwnRg w base v xs) : ∃ a c, v = .slice a xs.length c ∧ ∀ j, v.ownBlock = some j → base ≤ j := by
  rcases h.2 with ⟨rfl, h0⟩ | ⟨g, cap, cur, rfl, hb, _⟩
  · exact ⟨none, 0, by rw [h0], fun j e => by cases e⟩
  · exact ⟨_, cap, rfl, fun j e => by cases e; exact hb⟩
theorem sv_cells {w : World} {b o : Nat} {n c : Nat} {xs : List Sp} (h : U64.SV w (.slice (some ⟨b, o, none⟩) n c) xs) (j : Nat) (u : Value) (hj : (U64.encs xs)[j]? = some u) : w.cell? (Addr.add ⟨b, o, none⟩ j) = some u := by
  obtain ⟨ao, cap, e, h1, h2, h3, h9, h4⟩ := h
  have hjl : j < xs.length * 2 := by have := (List.getElem?_eq_some_iff.1 hj).1; rw [U64.encs_length] at this; exact this
  obtain ⟨b', o', e', c0, c1⟩ := h4 (j / 2) (by omega)
  rw [e'] at e
  cases e
  rw [Addr.add_lit]
  rcases (by omega : j % 2 = 0 ∨ j % 2 = 1) with e | e
  · rw [show j = j / 2 * 2 by omega, U64.encs_get0 xs (j / 2) (by omega)] at hj
    rw [show j = j / 2 * 2 by omega, c0]
    exact hj
  · rw [show j = j / 2 * 2 + 1 by omega, U64.encs_get1 xs (j / 2) (by omega)] at hj
    rw [show j = j / 2 * 2 + 1 by omega, ← Nat.add_assoc, c1]
    exact hj
/-- ranges are laid behind a row that is owned -/
theorem run_appR {w : World} {base : Nat} {v l : Value} {xs ys : List Sp} (ty : TypeId) (hv : OwnRg w base v xs) (hl : U64.SV w l ys) (hlen : xs.length + ys.length ≤ 8796093022208) (hbase : base ≤ w.heap.size) :
    ∃ v' w', (Builtin.append_ #[22, 22] ty #[v, l]).run Tryz.prog w = .ok v' w' ∧ OwnRg w' base v' (xs ++ ys) ∧ w.grownBy w' v.ownBlock := by
  obtain ⟨i, hi, hz0, hz1, hz2⟩ := info_parts info_rg
  have hl' := hl
  obtain ⟨ao, cap, rfl, h1, h2, h3, h9, h4⟩ := hl'
  cases ao with
  | none =>
    obtain ⟨rfl, rfl⟩ := h3 rfl
    rw [List.append_nil]
    rcases id hv.2 with ⟨rfl, h0⟩ | ⟨g, cap, cur, rfl, hb, hg, hnc, hcm, hcs, ht⟩
    · refine ⟨.slice none 0 0, w, ?_, hv, ⟨rfl, rfl, rfl, Nat.le_refl _, fun _ _ _ => rfl⟩⟩
      simp [Builtin.append_, run_underlying Tryz.underlying22, sizeOf, typeInfo, hi, Builtin.lenOf, Builtin.firstCells]
    · refine ⟨_, w, ?_, hv, ⟨rfl, rfl, rfl, Nat.le_refl _, fun _ _ _ => rfl⟩⟩
      have := run_append_room_src (P := Tryz.prog) w 22 22 ty 78 i Tryz.underlying22 hi g 0 xs.length cap (.slice none 0 0) 0 [] (Src.ofNil w Tryz.underlying22 0) (by omega) (fun j hj => absurd hj (by simp)) (fun j hj => absurd hj (by simp))
      exact this
  | some a =>
    obtain ⟨b, o, rfl, hlt⟩ := h9 a rfl
    obtain ⟨v', w', r1, r2, r3, _⟩ := run_append_own_at (P := Tryz.prog) w base 22 ty 78 i _ 2 _ Tryz.underlying22 hi hz0 hz1 hz2 rfl (by omega) v xs.length (U64.encs xs) hv ⟨b, o, none⟩ ys.length cap (U64.encs ys) (by rw [U64.encs_length]) (fun j u hj => sv_cells hl j u hj) (U64.encs_one ys) (by unfold maxLen; omega) (by omega) hbase
    refine ⟨v', w', r1, ?_, r3⟩
    unfold OwnRg
    rw [List.length_append, U64.encs_append]
    exact r2
theorem wpList_appR {w : World} {base : Nat} {ops : Array Oper} {rest : List Oper} {o : Oper} {a : Act} {Q : Exit → Act → World → Prop} (hgd : o.guard = none) (s x : Operand)
    (ho : o.op = .call { callee := .builtin .append, args := #[s, x], argTypes := #[22, 22] }) {v l : Value} {xs ys : List Sp} (hs : a.eval s = v) (hx : a.eval x = l) (hv : OwnRg w base v xs) (hl : U64.SV w l ys) (hlen : xs.length + ys.length ≤ 8796093022208) (hbase : base ≤ w.heap.size)
    (h : ∀ va vn vc w', Hid (OwnRg w' base (.slice va vn vc) (xs ++ ys)) → Hid (w.grownBy w' v.ownBlock) → wpList Tryz.prog ops Q rest (a.put o.dst (.slice va vn vc)) w') : wpList Tryz.prog ops Q (o :: rest) a w := by
  refine wpList_plain hgd fun K hK => ?_
  obtain ⟨v', w', hr, h2, h3⟩ := run_appR o.type hv hl hlen hbase
  obtain ⟨va, vc, rfl, _⟩ := h2.form
  unfold Oper.wp
  simp only [execOp, ho, resolve, invoke, builtin, Sem.run_bind, Sem.run_pure, List.map_toArray, List.map_cons, List.map_nil, hs, hx, hr, Result.andThen_ok]
  exact hK _ _ (h va _ vc w' h2 h3)
set_option maxRecDepth 100000 in
set_option maxHeartbeats 2000000 in
theorem all_any {w : World} {vr vd : Value} {rs ds : List Sp} (hr : U64.SV w vr rs) (hd : U64.SV w vd ds) (hl : rs.length + ds.length ≤ 8796093022208) :
    Calls Tryz.prog 23 #[.agg #[vr, vd]] w fun e w' => ∃ a n c, e = .returned (.slice a n c) ∧ Hid (Below w.heap.size w w') ∧ Hid (U64.SV w' (.slice a n c) (rs ++ ds)) ∧ Hid (∀ j, (Value.slice a n c).ownBlock = some j → w.heap.size ≤ j) := by
  have HB0 : Hid (Below w.heap.size w (w.alloc (Obj.cells #[vr, vd] 24))) := (Below.refl _ _).alloc (Nat.le_refl _) _
  have HR1 : Hid (U64.SV (w.alloc (Obj.cells #[vr, vd] 24)) vr rs) := hr.below HB0.out (Nat.le_refl _)
  have HD1 : Hid (U64.SV (w.alloc (Obj.cells #[vr, vd] 24)) vd ds) := hd.below HB0.out (Nat.le_refl _)
  have HX : Hid ((w.alloc (Obj.cells #[vr, vd] 24)).cell? ⟨w.heap.size, 1, none⟩ = some vd) := (U64.new2 rfl vr vd _).2
  clear hr hd
  go_enter Tryz.func23, Tryz.ntmps23
  go_wp2_with (refine wpList_appR rfl (.const (.slice none 0 0)) (.tmp 5) rfl (base := w.heap.size) rfl rfl (OwnRg.nil _ _) HR1.out (by simp; omega) (by simp) ?_)
  intro a1 n1 c1 w1 HO1 HG1
  have HB1 : Hid (Below (w.heap.size + 1) (w.alloc (Obj.cells #[vr, vd] 24)) w1) := below_grown HG1.out (by simp) (fun k e => by cases e)
  have x1 : w1.cell? ⟨w.heap.size, 1, none⟩ = some vd := (HB1.out.cell (p := ⟨w.heap.size, 1, none⟩) (Nat.lt_succ_self _)).trans HX.out
  have HD2 : Hid (U64.SV w1 vd ds) := HD1.out.below HB1.out (by simp)
  have HO2 : Hid (OwnRg w1 w.heap.size (.slice a1 n1 c1) rs) := HO1.out
  have HZ1 : Hid (w.heap.size ≤ w1.heap.size) := Nat.le_trans (by simp) HG1.out.size
  have HBw : Hid (Below w.heap.size w w1) := HB0.out.trans (HB1.out.mono (Nat.le_succ _))
  clear HO1 HG1 HR1 HD1 HX HB0 HB1
  go_wp2_with (refine wpList_appR rfl (.tmp 7) (.tmp 9) rfl (base := w.heap.size) rfl rfl HO2.out HD2.out (by omega) HZ1.out ?_)
  intro a2 n2 c2 w2 HO3 HG2
  have HB2 : Hid (Below w.heap.size w w2) := HBw.out.grown HG2.out HZ1.out (fun k e => by obtain ⟨_, _, _, h⟩ := HO2.out.form; exact h k e)
  clear HG2
  go_wp2_with fail
  go_ret
  exact ⟨a2, n2, c2, rfl, HB2, HO3.out.sv, fun j e => by obtain ⟨_, _, _, h⟩ := HO3.out.form; exact h j e⟩
/-- have two ranges no byte in common? -/
def apartB (a s b t : Int) : Bool := decide (a + s ≤ b ∨ b + t ≤ a)
set_option maxHeartbeats 1000000 in
theorem apart_any {a s b t : Int} (w : World) (ha : 0 ≤ a ∧ 0 ≤ s ∧ a + s ≤ 4294967296) (hb : 0 ≤ b ∧ 0 ≤ t ∧ b + t ≤ 4294967296) :
    Calls Tryz.prog 24 #[.agg #[.int .u64 a, .int .u64 s], .agg #[.int .u64 b, .int .u64 t]] w fun e w' => e = .returned (.bool (apartB a s b t)) ∧ Hid (Below w.heap.size w w') := by
  obtain ⟨a0, a1, a2⟩ := ha
  obtain ⟨b0, b1, b2⟩ := hb
  have HB : Hid (∀ X Y, Below w.heap.size w ((w.alloc X).alloc Y)) := fun X Y => ((Below.refl _ _).alloc (Nat.le_refl _) _).alloc (by simp) _
  by_cases h1 : a + s ≤ b
  · have HE : Hid (apartB a s b t = true) := decide_eq_true (.inl h1)
    go_enter Tryz.func24, Tryz.ntmps24
    go_wp2
    go_ret
    exact ⟨by rw [HE.out]; rfl, HB.out _ _⟩
  · by_cases h2 : b + t ≤ a
    · have HE : Hid (apartB a s b t = true) := decide_eq_true (.inr h2)
      go_enter Tryz.func24, Tryz.ntmps24
      go_wp2
      go_ret
      exact ⟨by rw [HE.out]; rfl, HB.out _ _⟩
    · have HE : Hid (apartB a s b t = false) := decide_eq_false (by omega)
      go_enter Tryz.func24, Tryz.ntmps24
      go_wp2
      go_ret
      exact ⟨by rw [HE.out]; rfl, HB.out _ _⟩
end Go.Proofs.YtfnikcjcgneboaaGreat
/- The document's own machine (bulkheadref3): Where, Off. Own work. -/
namespace Go.Proofs.YtfnikcjcgneboaaGreat
open Go.RowKit Go.Maps Go.Proofs.YtfnikcjcgneboaaGreat.Sp
/-- a machine of the document's own in its block -/
def RBox (w : World) (m : Nat) (vr vd vp : Value) (L S X : Nat) : Prop := w.heap[m]? = some (.cells #[vr, vd, vp, .int .i64 (L : Int), .int .i64 (S : Int), .int .i64 (X : Int)] 49 (0, 0))
theorem RBox.cells {w : World} {m : Nat} {vr vd vp : Value} {L S X : Nat} (h : RBox w m vr vd vp L S X) : w.cell? ⟨m, 0, none⟩ = some vr ∧ w.cell? ⟨m, 1, none⟩ = some vd ∧ w.cell? ⟨m, 2, none⟩ = some vp ∧ w.cell? ⟨m, 3, none⟩ = some (.int .i64 (L : Int)) ∧ w.cell? ⟨m, 4, none⟩ = some (.int .i64 (S : Int)) ∧ w.cell? ⟨m, 5, none⟩ = some (.int .i64 (X : Int)) := by
  refine ⟨?_, ?_, ?_, ?_, ?_, ?_⟩ <;> rw [cell_of_row w m _ _ _ _ h] <;> rfl
theorem RBox.thawed {w : World} {m : Nat} {vr vd vp : Value} {L S X : Nat} (h : RBox w m vr vd vp L S X) (i : Nat) : w.frozen? ⟨m, i, none⟩ = false := by simp [World.frozen?, show w.heap[m]? = _ from h]
theorem RBox.lt {w : World} {m : Nat} {vr vd vp : Value} {L S X : Nat} (h : RBox w m vr vd vp L S X) : m < w.heap.size := (Array.getElem?_eq_some_iff.1 h).1
theorem RBox.below {w w' : World} {m : Nat} {vr vd vp : Value} {L S X : Nat} (h : RBox w m vr vd vp L S X) (hb : Below w.heap.size w w') : RBox w' m vr vd vp L S X := (hb.block m h.lt).trans h
theorem RBox.keeps {Z : Nat → Prop} {w w' : World} {m : Nat} {vr vd vp : Value} {L S X : Nat} (h : RBox w m vr vd vp L S X) (hk : Keeps Z w w') (hn : ¬ Z m) : RBox w' m vr vd vp L S X := (hk.block m h.lt hn).trans h
/-- is the address in the range? -/
abbrev inR (a : Int) (x : Sp) : Prop := x.1 ≤ a ∧ a < x.1 + x.2
theorem OffR.unique {rs : List Sp} {a n : Nat} {x y : Int} {b c : Bool} (h : OffR rs a n x b) (k : OffR rs a n y c) : x = y ∧ b = c := by
  cases b <;> cases c
  · exact ⟨(h.2 rfl).1.trans (k.2 rfl).1.symm, rfl⟩
  · obtain ⟨i, hi, _, _, hn, _⟩ := k.1 rfl
    exact absurd ((h.2 rfl).2 i hi) hn
  · obtain ⟨i, hi, _, _, hn, _⟩ := h.1 rfl
    exact absurd ((k.2 rfl).2 i hi) hn
  · obtain ⟨i, hi, e1, _, hn, ha⟩ := h.1 rfl
    obtain ⟨j, hj, e2, _, hm, hb⟩ := k.1 rfl
    refine ⟨?_, rfl⟩
    rcases Nat.lt_trichotomy i j with h1 | h1 | h1
    · exact absurd (hb i h1) hn
    · rw [e1, e2, h1]
    · exact absurd (ha j h1) hm
/-- how Off's inner loop stands: how many bytes of one ground there are from an address on -/
def StepR (L : List Sp) (a : Int) (k : Nat) (step : Int) : Prop :=
  (step = 0 ∧ ∀ x ∈ L.take k, ¬ inR a x) ∨ (0 < step ∧ step ≤ 4294967296 ∧ a ≤ 4294967296 ∧ ∃ x ∈ L, x.1 ≤ a ∧ a + step = x.1 + x.2)
theorem StepR.on {L : List Sp} {a step : Int} {k : Nat} (h : StepR L a k step) (h0 : step ≠ 0) (j : Int) (h1 : 0 ≤ j) (h2 : j < step) : On L (a + j) := by
  rcases h with ⟨h, _⟩ | ⟨_, _, _, x, hx, h3, h4⟩
  · exact absurd h h0
  · exact ⟨x, hx, by omega, by omega⟩
/-- what Off answers -/
def OffE (LL : List Sp) (a n : Nat) (e : Ending) : Prop := ∃ x b, e = .returned (.tuple #[.int .u64 x, .bool b]) ∧ OffR LL a n x b
set_option maxRecDepth 100000 in
set_option maxHeartbeats 8000000 in
theorem roff_any {w : World} {m : Nat} {vr vd vp : Value} {rs ds : List Sp} {L S X a n : Nat} (h : RBox w m vr vd vp L S X) (hr : U64.SV w vr rs) (hd : U64.SV w vd ds) (hs : Sane (rs ++ ds)) (hl : rs.length + ds.length ≤ 64) (ha : a ≤ 18446744073709551615) (hn : n ≤ 9223372036854775807) :
    Calls Tryz.prog 64 #[.pointer (some ⟨m, 0, none⟩), .int .u64 (a : Int), .int .i64 (n : Int)] w fun e w' => OffE (rs ++ ds) a n e ∧ Below w.heap.size w w' := by
  have HAl : Hid (Calls Tryz.prog 23 #[.agg #[vr, vd]] w fun e w' => ∃ a n c, e = .returned (.slice a n c) ∧ Hid (Below w.heap.size w w') ∧ Hid (U64.SV w' (.slice a n c) (rs ++ ds)) ∧ Hid (∀ j, (Value.slice a n c).ownBlock = some j → w.heap.size ≤ j)) := all_any hr hd (by omega)
  have HS : Hid (Sane (rs ++ ds)) := hs
  obtain ⟨c0, c1, _, _, _, _⟩ := h.cells
  have hl2 : (rs ++ ds).length ≤ 64 := by rw [List.length_append]; exact hl
  generalize rs ++ ds = LL at *
  clear h hr hd hs hl
  go_enter Tryz.func64, Tryz.ntmps64
  go_wp2_with fail
  refine HAl.out.mono ?_
  rintro e w1 ⟨al, nl, cl, rfl, HB1, HS1, _⟩
  obtain ⟨al', cl', ev, hcl, hml, _⟩ := id HS1.out
  simp only [Value.slice.injEq] at ev
  obtain ⟨rfl, hnl, rfl⟩ := ev
  have HN : Hid (nl = LL.length) := hnl
  have hn40 : nl ≤ 64 := by rw [hnl]; exact hl2
  have hcl' : nl ≤ cl := by rw [hnl]; exact hcl
  unfold maxLen at hml
  clear hnl hcl HAl c0 c1 hl2
  go_wp2_with fail
  go_loopw [1, 2] (fun av nv wr => ∃ i q : Nat, ∃ ai ni : Int, i + q = n ∧ ai = (a : Int) + i ∧ ni = (q : Int) ∧ av = .int .u64 ai ∧ nv = .int .i64 ni ∧ 0 ≤ ai ∧ ai ≤ 18446744073709551615 ∧ Hid (∀ j : Nat, j < i → On LL ((a : Int) + j)) ∧ Hid (Below w1.heap.size w1 wr)) (fun _ nv _ => (intOf nv).toNat)
  case atStart => exact ⟨0, n, a, n, by omega, by omega, rfl, rfl, rfl, by omega, by omega, fun j hj => absurd hj (Nat.not_lt_zero _), Below.refl _ _⟩
  case round =>
    obtain ⟨i, q, ai, ni, hiq, hai, hni, rfl, rfl, ha0, ha1, HO, HB⟩ := hrel
    obtain ⟨wA, hwA⟩ : ∃ wA, wA = wr := ⟨_, rfl⟩
    subst hwA
    have HBe : Hid (Below w.heap.size w wA) := HB1.out.trans (HB.out.mono HB1.out.size)
    have HAi : Hid (ai = (a : Int) + i) := hai
    have HNi : Hid (ni = (q : Int)) := hni
    have hn0 : 0 ≤ ni := by omega
    have hn1 : ni ≤ 9223372036854775807 := by omega
    clear hai hni
    by_cases hq : 0 < ni
    · go_wp2_with fail
      go_loopw [10, 9] (fun kv sv wi => ∃ k : Nat, ∃ step : Int, k ≤ nl ∧ kv = .int .i64 (k : Int) ∧ sv = .int .u64 step ∧ 0 ≤ step ∧ step ≤ 4294967296 ∧ Hid (StepR LL ai k step) ∧ Hid (Below wA.heap.size wA wi)) (fun kv _ _ => nl - (intOf kv).toNat)
      case atStart => exact ⟨0, 0, Nat.zero_le _, rfl, rfl, by omega, by omega, .inl ⟨rfl, fun x hx => by simp at hx⟩, Below.refl _ _⟩
      case round =>
        obtain ⟨k, step, hk, rfl, rfl, st0, st1, HSt, HBi⟩ := hrel
        by_cases hlt : k < nl
        · have hkL : k < LL.length := by rw [← HN.out]; exact hlt
          have hsan := HS.out LL[k] (List.getElem_mem _)
          have HTk : Hid (LL.take (k + 1) = LL.take k ++ [LL[k]]) := List.take_succ_eq_append_getElem hkL
          have HMem : Hid (LL[k] ∈ LL) := List.getElem_mem _
          obtain ⟨_, _, e, _, _, _, _, h5⟩ := (HS1.out.below HB.out (Nat.le_refl _)).below HBi.out (Nat.le_refl _)
          simp only [Value.slice.injEq] at e
          obtain ⟨rfl, hzz, rfl⟩ := e
          clear hzz
          obtain ⟨g, off, rfl, d0, d1⟩ := h5 k hkL
          clear h5
          generalize LL[k] = xx at *
          obtain ⟨b, s⟩ := xx
          simp only at d0 d1 hsan
          obtain ⟨b0, b1, b2⟩ := hsan
          have jk : (k : Int) < (nl : Int) := by omega
          have HBn : Hid (Below wA.heap.size wA wr.drew) := HBi.out.drew
          by_cases q1 : b ≤ ai
          · have q1d : decide (b ≤ ai) = true := decide_eq_true q1
            by_cases q2 : ai - b < s
            · have q2d : decide (ai - b < s) = true := decide_eq_true q2
              have HSn : Hid (StepR LL ai (k + 1) (s - (ai - b))) := .inr ⟨by omega, by omega, by omega, (b, s), HMem.out, q1, by show ai + (s - (ai - b)) = b + s; omega⟩
              have u0 : 0 ≤ s - (ai - b) := by omega
              have u1 : s - (ai - b) ≤ 4294967296 := by omega
              clear HSt HTk HMem
              go_wp2_with fail
              go_quiet (fail)
              go_wp2_with fail
              go_quiet (fail)
              go_wp2_with fail
              go_roundw
              case rel => exact ⟨k + 1, s - (ai - b), by omega, by go_num, rfl, u0, u1, HSn, by first | exact U64.below_drewN' HBi.out _ | exact U64.below_drewN' (U64.below_drewN' HBi.out _) _⟩
              case measure => simp [intOf]; omega
            · have q2d : decide (ai - b < s) = false := decide_eq_false q2
              have HSn : Hid (StepR LL ai (k + 1) step) := HSt.out.imp (fun ⟨h1, h2⟩ => ⟨h1, fun x hx => by
                rw [HTk.out] at hx
                rcases List.mem_append.1 hx with hx | hx
                · exact h2 x hx
                · rw [List.mem_singleton.1 hx]; unfold inR; simp only; omega⟩) id
              clear HSt HTk HMem
              go_wp2_with fail
              go_quiet (fail)
              go_wp2_with fail
              go_roundw
              case rel => exact ⟨k + 1, step, by omega, by go_num, rfl, st0, st1, HSn, by first | exact U64.below_drewN' HBi.out _ | exact U64.below_drewN' (U64.below_drewN' HBi.out _) _⟩
              case measure => simp [intOf]; omega
          · have q1d : decide (b ≤ ai) = false := decide_eq_false q1
            have HSn : Hid (StepR LL ai (k + 1) step) := HSt.out.imp (fun ⟨h1, h2⟩ => ⟨h1, fun x hx => by
                rw [HTk.out] at hx
                rcases List.mem_append.1 hx with hx | hx
                · exact h2 x hx
                · rw [List.mem_singleton.1 hx]; unfold inR; simp only; omega⟩) id
            clear HSt HTk HMem
            go_wp2_with fail
            go_quiet (fail)
            go_wp2_with fail
            go_roundw
            case rel => exact ⟨k + 1, step, by omega, by go_num, rfl, st0, st1, HSn, by first | exact U64.below_drewN' HBi.out _ | exact U64.below_drewN' (U64.below_drewN' HBi.out _) _⟩
            case measure => simp [intOf]; omega
        · obtain rfl : k = nl := by omega
          have HBf : Hid (Below w.heap.size w wr) := HBe.out.trans (HBi.out.mono HBe.out.size)
          have HBg : Hid (Below w1.heap.size w1 wr) := HB.out.trans (HBi.out.mono HB.out.size)
          by_cases s0 : step = 0
          · have HR : Hid (OffR LL a n ai true) := by
              refine ⟨fun _ => ⟨i, by have := HNi.out; omega, HAi.out, by have := HAi.out; omega, ?_, HO.out⟩, fun h => by cases h⟩
              rintro ⟨x, hx, h1, h2⟩
              rcases HSt.out with ⟨_, h3⟩ | ⟨h3, _⟩
              · refine h3 x (by rw [HN.out, List.take_length]; exact hx) ⟨?_, ?_⟩
                · have := HAi.out; omega
                · have := HAi.out; omega
              · omega
            subst s0
            clear HSt
            go_wp2_with fail
            go_ret2
            exact ⟨⟨ai, true, rfl, HR.out⟩, HBf.out⟩
          · have HOn := Lib.hid (HSt.out.on s0)
            have HAl : Hid (ai ≤ 4294967296) := by
              rcases HSt.out with ⟨h3, _⟩ | ⟨_, _, h3, _⟩
              · exact absurd h3 s0
              · exact h3
            by_cases hle : ni ≤ step
            · have HR : Hid (OffR LL a n 0 false) := by
                refine ⟨fun h => (by cases h), fun _ => ⟨rfl, fun j hj => ?_⟩⟩
                by_cases hji : j < i
                · exact HO.out j hji
                · have := HOn.out ((j : Int) - i) (by omega) (by have := HNi.out; omega)
                  rw [HAi.out] at this
                  rw [show (a : Int) + j = (a : Int) + i + ((j : Int) - i) by omega]
                  exact this
              clear HSt HAl
              go_wp2_with fail
              go_ret2
              exact ⟨⟨0, false, rfl, HR.out⟩, HBf.out⟩
            · have hal := HAl.out
              have HR : Hid (∀ j : Nat, j < i + step.toNat → On LL ((a : Int) + j)) := fun j hj => by
                by_cases hji : j < i
                · exact HO.out j hji
                · have := HOn.out ((j : Int) - i) (by omega) (by omega)
                  rw [HAi.out] at this
                  rw [show (a : Int) + j = (a : Int) + i + ((j : Int) - i) by omega]
                  exact this
              clear HSt HAl HOn
              go_wp2_with fail
              go_roundw
              case rel => exact ⟨i + step.toNat, q - step.toNat, ai + step, ni - step, by have := HNi.out; omega, by have := HAi.out; omega, by have := HNi.out; omega, rfl, rfl, by omega, by omega, HR, HBg⟩
              case measure => simp [intOf]; omega
    · have HR : Hid (OffR LL a n 0 false) := ⟨fun h => (by cases h), fun _ => ⟨rfl, fun j hj => HO.out j (by have := HNi.out; omega)⟩⟩
      go_wp2_with fail
      go_ret2
      exact ⟨⟨0, false, rfl, HR.out⟩, HBe.out⟩
end Go.Proofs.YtfnikcjcgneboaaGreat
