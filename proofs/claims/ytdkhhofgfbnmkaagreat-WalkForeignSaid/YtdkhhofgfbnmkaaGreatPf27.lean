import Derived.Test.YtdkhhofgfbnmkaaGreatPf05
import Derived.Test.YtdkhhofgfbnmkaaGreatPf26
import Derived.Test.YtdkhhofgfbnmkaaGreatPf04
import Derived.Laws.StructEq
import Derived.Laws.CopyOwn
import Derived.Lib.Hide
import Derived.Deep.AppendSrc
/- The script that comes in. Own work. -/
namespace Go.Proofs.YtdkhhofgfbnmkaaGreat
open Go.RowKit Go.ChangeShapes Go.WideShapes Go.Proofs.YtdkhhofgfbnmkaaGreat.Sp
theorem five_is {α : Type} {cs : List α} {x0 x1 x2 x3 x4 : α} (h : cs.length = 5) (h0 : (cs.drop 0).take 1 = [x0]) (h1 : (cs.drop 1).take 1 = [x1]) (h2 : (cs.drop 2).take 1 = [x2]) (h3 : (cs.drop 3).take 1 = [x3]) (h4 : (cs.drop 4).take 1 = [x4]) : cs = [x0, x1, x2, x3, x4] := by
  match cs, h with
  | [a, b, c, d, e], _ => simp_all
section
variable {H : Type} {enc : TypeId × Value → H} {W : World} {base : Nat} {held : Bool}
set_option maxRecDepth 100000 in
theorem oslice_place {r : Reach} {b : Nat} {a : Addr} {len cap : Nat} (h : Cell.okWide Tryz.prog W r b 26 (.slice (some a) len cap)) : a.spot = none ∧ a.block < W.heap.size := by
  simp only [Cell.okWide, Cell.ok, Tryz.underlying26, World.has] at h
  obtain ⟨_, _, _, h1, row, cells, h2, _⟩ := h
  refine ⟨h1, ?_⟩
  unfold World.shape? at h2
  by_cases hlt : a.block < W.heap.size
  · exact hlt
  · rw [Array.getElem?_eq_none (by omega)] at h2
    simp at h2
theorem op1_opened {fuel : Nat} {cs : List Value} {x : DataW H × List MemPlace} (h : DataW.trod enc Tryz.prog W base (fun _ => true) held fuel 36 cs = some x) :
    ∃ y : Op5, cs = [.int .i64 y.1, .int .u64 (y.2.1 : Int), .int .u64 (y.2.2.1 : Int), .int .u64 (y.2.2.2.1 : Int), .int .i64 y.2.2.2.2] ∧ y.2.1 ≤ 18446744073709551615 ∧ y.2.2.1 ≤ 18446744073709551615 ∧ y.2.2.2.1 ≤ 18446744073709551615 := by
  obtain ⟨xs, n, _, _, hl, hlen, hf⟩ := DataW.trod_struct Tryz.underlying36 h
  have hlen2 : xs.length = 5 := hlen
  obtain ⟨y0, e0⟩ : ∃ y, xs[0]? = some y := ⟨xs[0], List.getElem?_eq_getElem (by omega)⟩
  obtain ⟨y1, e1⟩ : ∃ y, xs[1]? = some y := ⟨xs[1], List.getElem?_eq_getElem (by omega)⟩
  obtain ⟨y2, e2⟩ : ∃ y, xs[2]? = some y := ⟨xs[2], List.getElem?_eq_getElem (by omega)⟩
  obtain ⟨y3, e3⟩ : ∃ y, xs[3]? = some y := ⟨xs[3], List.getElem?_eq_getElem (by omega)⟩
  obtain ⟨y4, e4⟩ : ∃ y, xs[4]? = some y := ⟨xs[4], List.getElem?_eq_getElem (by omega)⟩
  obtain ⟨a, ha, _, wa⟩ := DataW.trod_int Tryz.underlying3 ((hf 0 _ rfl).trans e0)
  obtain ⟨b, hb, _, wb⟩ := DataW.trod_int Tryz.underlying34 ((hf 1 _ rfl).trans e1)
  obtain ⟨c, hc, _, wc⟩ := DataW.trod_int Tryz.underlying34 ((hf 2 _ rfl).trans e2)
  obtain ⟨d, hd, _, wd⟩ := DataW.trod_int Tryz.underlying34 ((hf 3 _ rfl).trans e3)
  obtain ⟨e, he, _, we⟩ := DataW.trod_int Tryz.underlying3 ((hf 4 _ rfl).trans e4)
  have c6 : Tryz.prog.cellsOf 34 = 1 := by kernel_rfl
  have c3 : Tryz.prog.cellsOf 3 = 1 := by kernel_rfl
  have cS : Tryz.prog.cellsOf 36 = 5 := by kernel_rfl
  change List.take (Tryz.prog.cellsOf 3) (List.drop 0 cs) = _ at ha
  change List.take (Tryz.prog.cellsOf 34) (List.drop 1 cs) = _ at hb
  change List.take (Tryz.prog.cellsOf 34) (List.drop 2 cs) = _ at hc
  change List.take (Tryz.prog.cellsOf 34) (List.drop 3 cs) = _ at hd
  change List.take (Tryz.prog.cellsOf 3) (List.drop 4 cs) = _ at he
  rw [c6] at hb hc hd
  rw [c3] at ha he
  have bb := u64_in wb
  have bc := u64_in wc
  have bd := u64_in wd
  obtain ⟨b, rfl⟩ : ∃ n : Nat, b = (n : Int) := ⟨b.toNat, by omega⟩
  obtain ⟨c, rfl⟩ : ∃ n : Nat, c = (n : Int) := ⟨c.toNat, by omega⟩
  obtain ⟨d, rfl⟩ : ∃ n : Nat, d = (n : Int) := ⟨d.toNat, by omega⟩
  exact ⟨(a, b, c, d, e), five_is (by rw [hl, cS]) ha hb hc hd he, by dsimp only; omega, by dsimp only; omega, by dsimp only; omega⟩
set_option maxRecDepth 100000 in
theorem ops_opened {fuel : Nat} {cs : List Value} {x : DataW H × List MemPlace} (hok : ∀ v, cs = [v] → ∃ (r : Reach) (b : Nat), Cell.okWide Tryz.prog W r b 26 v) (h : DataW.trod enc Tryz.prog W base (fun _ => true) held fuel 26 cs = some x) : ∃ v os, cs = [v] ∧ OpsAt W.heap.size W v os ∧ (∀ o ∈ os, o.2.1 ≤ 18446744073709551615 ∧ o.2.2.1 ≤ 18446744073709551615 ∧ o.2.2.2.1 ≤ 18446744073709551615) ∧ (os.length = 0 ∨ ∃ el sp, x.1 = .slice el sp ∧ os.length = el.length) := by
  rcases Go.Deep.open_slice Tryz.underlying26 h with ⟨rfl, _⟩ | ⟨a, len, cap, m, n, D, Pl, rfl, _, hl, hm, hmm, rfl, hx⟩
  · exact ⟨_, [], rfl, ⟨none, 0, rfl, Nat.le_refl _, Nat.zero_le _, fun j h => by simp at h⟩, fun _ h => (by cases h), .inl rfl⟩
  · have cS : Tryz.prog.cellsOf 36 = 5 := by kernel_rfl
    rw [cS] at hx
    have hmc : m = cap := by simpa using hmm
    obtain ⟨r, b0, hc0⟩ := hok _ rfl
    obtain ⟨hsp, hlt⟩ := oslice_place hc0
    haveI : Inhabited Op5 := ⟨(0, 0, 0, 0, 0)⟩
    obtain ⟨F, hF⟩ := Go.Deep.choose_lt (α := Op5) (n := len) (p := fun i y => (y.2.1 ≤ 18446744073709551615 ∧ y.2.2.1 ≤ 18446744073709551615 ∧ y.2.2.2.1 ≤ 18446744073709551615) ∧ ∀ j v, ([.int .i64 y.1, .int .u64 (y.2.1 : Int), .int .u64 (y.2.2.1 : Int), .int .u64 (y.2.2.2.1 : Int), .int .i64 y.2.2.2.2] : List Value)[j]? = some v → W.cell? ((a.add (i * 5)).add j) = some v) (fun i hi => by
      obtain ⟨cs', h1, h2⟩ := hx i (by omega)
      obtain ⟨y, rfl, hb⟩ := op1_opened h2
      obtain ⟨_, _, hc⟩ := World.cells?_some h1
      refine ⟨y, hb, fun j v hj => ?_⟩
      rw [hc j (by have := (List.getElem?_eq_some_iff.1 hj).1; simpa using this)]
      exact hj)
    obtain ⟨b, o, sp⟩ := a
    simp only at hsp hlt
    subst hsp
    refine ⟨_, (List.range len).map F, rfl, ⟨some ⟨b, o, none⟩, cap, by simp, by simpa using hl, hm, fun i hi => ?_⟩, fun y hy => ?_, .inr ⟨_, _, rfl, by simp⟩⟩
    · have hi' : i < len := by simpa using hi
      obtain ⟨_, hc⟩ := hF i hi'
      have hget : ((List.range len).map F)[i] = F i := by simp
      rw [hget]
      simp only [Go.WideShapes.add_plain] at hc
      exact ⟨b, o, rfl, hlt, hc 0 _ rfl, hc 1 _ rfl, hc 2 _ rfl, hc 3 _ rfl, hc 4 _ rfl⟩
    · obtain ⟨i, hi, rfl⟩ := List.mem_map.1 hy
      exact (hF i (by simpa using hi)).1
end
end Go.Proofs.YtdkhhofgfbnmkaaGreat
/- Rows of ranges that are known whole; Roomy, Intact of ranges. Own work. -/
namespace Go.Proofs.YtdkhhofgfbnmkaaGreat
open Go.RowKit Go.Maps Go.Proofs.YtdkhhofgfbnmkaaGreat.Sp
theorem info_rg : (Tryz.prog.info? 65).map (fun i => (i.zero, i.size, i.bytes)) = some (some (.agg #[.int .u64 0, .int .u64 0]), 2, 16) := by kernel_rfl
/-- a row of ranges, known whole -/
def RowR (w : World) (g : Nat) (L : List Sp) : Prop := w.heap[g]? = some (.cells (U64.encs L).toArray 65 (0, 0))
theorem RowR.lt {w : World} {g : Nat} {L : List Sp} (h : RowR w g L) : g < w.heap.size := (Array.getElem?_eq_some_iff.1 h).1
theorem RowR.cell0 {w : World} {g : Nat} {L : List Sp} (h : RowR w g L) (j : Nat) (hj : j < L.length) : w.cell? ⟨g, j * 2, none⟩ = some (.int .u64 L[j].1) := by
  rw [cell_of_row _ _ _ _ _ _ h, show ((U64.encs L).toArray[j * 2]?) = (U64.encs L)[j * 2]? by simp]
  exact U64.encs_get0 L j hj
theorem RowR.cell1 {w : World} {g : Nat} {L : List Sp} (h : RowR w g L) (j : Nat) (hj : j < L.length) : w.cell? ⟨g, j * 2 + 1, none⟩ = some (.int .u64 L[j].2) := by
  rw [cell_of_row _ _ _ _ _ _ h, show ((U64.encs L).toArray[j * 2 + 1]?) = (U64.encs L)[j * 2 + 1]? by simp]
  exact U64.encs_get1 L j hj
theorem RowR.below {w w' : World} {g : Nat} {L : List Sp} (h : RowR w g L) (hb : Below w.heap.size w w') : RowR w' g L := (hb.block g h.lt).trans h
theorem RowR.keeps {Z : Nat → Prop} {w w' : World} {g : Nat} {L : List Sp} (h : RowR w g L) (hk : Keeps Z w w') (hn : ¬ Z g) : RowR w' g L := (hk.block g h.lt hn).trans h
theorem RowR.sv {w : World} {g n c : Nat} {L : List Sp} (h : RowR w g L) (hn : n ≤ L.length) (hc : n ≤ c) (hm : c ≤ maxLen) : U64.SV w (.slice (some ⟨g, 0, none⟩) n c) (L.take n) := by
  have hl : (L.take n).length = n := by rw [List.length_take]; omega
  refine ⟨some ⟨g, 0, none⟩, c, by rw [hl], by rw [hl]; exact hc, hm, fun e => (by cases e), fun a e => (by cases e; exact ⟨g, 0, rfl, h.lt⟩), fun i hi => ⟨g, 0, rfl, ?_, ?_⟩⟩
  · rw [Nat.zero_add, List.getElem_take]
    exact h.cell0 i (by omega)
  · rw [Nat.zero_add, List.getElem_take]
    exact h.cell1 i (by omega)
section
variable {P : Program}
/-- copy of things of several cells -/
theorem run_copyS (w : World) (dT sT ty elem : TypeId) (s g o dLen dCap : Nat) (a : Addr) (sLen sCap : Nat) (cur : Array Value) (t : TypeId) (cs : List Value)
    (hu : P.underlying dT = some (.slice elem)) (hs : (P.info? elem).map (·.size) = some s)
    (hg : w.heap[g]? = some (.cells cur t (0, 0))) (hn : cs.length = Nat.min sLen dLen * s)
    (hsrc : ∀ j v, cs[j]? = some v → w.cell? (a.add j) = some v) (hfit : o + cs.length ≤ cur.size) (h1 : ∀ v ∈ cs, v.oneCell' = true) :
    (Builtin.copy_ #[dT, sT] ty #[.slice (some ⟨g, o, none⟩) dLen dCap, .slice (some a) sLen sCap]).run P w =
      .ok (goInt (Nat.min sLen dLen)) (w.setRow g (cur.toList.take o ++ cs ++ cur.toList.drop (o + cs.length)).toArray) := by
  have hl := run_loadCells_list (P := P) w a cs hsrc
  have hst := run_storeCells_at P g o t cs 0 cur w hg (by simpa using hfit) h1
  cases hq : P.info? elem with
  | none => simp [hq] at hs
  | some i =>
    have hi : i.size = s := by simpa [hq] using hs
    simp [Builtin.copy_, run_underlying hu, Builtin.lenOf, Builtin.firstCells, sizeOf, typeInfo, hq, hi, ← hn, hl, hst]
theorem run_copyN (w : World) (dT sT ty elem : TypeId) (a : Addr) (dLen dCap c : Nat) (hu : P.underlying dT = some (.slice elem)) (hs : ((P.info? elem).map (·.size)).isSome = true) :
    (Builtin.copy_ #[dT, sT] ty #[.slice (some a) dLen dCap, .slice none 0 c]).run P w = .ok (goInt 0) w := by
  cases hq : P.info? elem with
  | none => simp [hq] at hs
  | some i => simp [Builtin.copy_, run_underlying hu, Builtin.lenOf, Builtin.firstCells, sizeOf, typeInfo, hq, storeCells]
end
/-- the copy of ranges into a row that is known -/
theorem wpList_copyR {w : World} {ops : Array Oper} {rest : List Oper} {o : Oper} {a : Act} {Q : Exit → Act → World → Prop} (hgd : o.guard = none) (d s : Operand)
    (ho : o.op = .call { callee := .builtin .copy, args := #[d, s], argTypes := #[22, 22] }) {g dCap m : Nat} {v : Value} {xs : List Sp} (hd : a.eval d = .slice (some ⟨g, 0, none⟩) (xs.length + m) dCap) (hs : a.eval s = v) (hr : RowR w g (List.replicate (xs.length + m) (0, 0))) (hv : U64.SV w v xs)
    (h : ∀ w', Hid (RowR w' g (xs ++ List.replicate m (0, 0))) → Hid (Keeps (fun k => k = g) w w') → wpList Tryz.prog ops Q rest (a.put o.dst (goInt xs.length)) w') : wpList Tryz.prog ops Q (o :: rest) a w := by
  obtain ⟨i, hi, hz0, hz1, hz2⟩ := info_parts info_rg
  have hsz : (Tryz.prog.info? 65).map (·.size) = some 2 := by rw [hi, Option.map_some, hz1]
  obtain ⟨ao, cap, rfl, h1, h2, h3, h9, h4⟩ := hv
  refine wpList_plain hgd fun K hK => ?_
  by_cases hp : 0 < xs.length
  · obtain ⟨b, of, rfl, _⟩ := h4 0 hp
    have hrun := run_copyS (P := Tryz.prog) w 22 22 o.type 65 2 g 0 (xs.length + m) dCap ⟨b, of, none⟩ xs.length cap (U64.encs (List.replicate (xs.length + m) (0, 0))).toArray 65 (U64.encs xs) Tryz.underlying22 hsz hr (by rw [U64.encs_length, show Nat.min xs.length (xs.length + m) = xs.length from Nat.min_eq_left (by omega)]) (fun j u hj => by
      have hjl : j < xs.length * 2 := by have := (List.getElem?_eq_some_iff.1 hj).1; rw [U64.encs_length] at this; exact this
      obtain ⟨b', o', e, c0, c1⟩ := h4 (j / 2) (by omega)
      cases e
      rw [Addr.add_lit]
      rcases (by omega : j % 2 = 0 ∨ j % 2 = 1) with e | e
      · rw [show j = j / 2 * 2 by omega, U64.encs_get0 xs (j / 2) (by omega)] at hj
        rw [show j = j / 2 * 2 by omega, c0]
        exact hj
      · rw [show j = j / 2 * 2 + 1 by omega, U64.encs_get1 xs (j / 2) (by omega)] at hj
        rw [show j = j / 2 * 2 + 1 by omega, ← Nat.add_assoc, c1]
        exact hj) (by simp [U64.encs_length]; omega) (U64.encs_one xs)
    rw [show Nat.min xs.length (xs.length + m) = xs.length from Nat.min_eq_left (by omega)] at hrun
    unfold Oper.wp
    simp only [execOp, ho, resolve, invoke, builtin, Sem.run_bind, Sem.run_pure, List.map_toArray, List.map_cons, List.map_nil, hd, hs, hrun, Result.andThen_ok]
    refine hK _ _ (h _ ?_ ⟨rfl, rfl, rfl, by simp [World.setRow], fun k _ hk => setRow_other w g k _ hk⟩)
    have e : (U64.encs (List.replicate (xs.length + m) ((0 : Int), (0 : Int)))).toArray.toList.take 0 ++ U64.encs xs ++ (U64.encs (List.replicate (xs.length + m) ((0 : Int), (0 : Int)))).toArray.toList.drop (0 + (U64.encs xs).length) = U64.encs (xs ++ List.replicate m (0, 0)) := by
      rw [← List.replicate_append_replicate, U64.encs_append, U64.encs_append]
      simp only [List.take_zero, List.nil_append, Nat.zero_add]
      rw [List.drop_append_of_le_length (by rw [U64.encs_length, U64.encs_length, List.length_replicate]; exact Nat.le_refl _), List.drop_of_length_le (by rw [U64.encs_length, U64.encs_length, List.length_replicate]; exact Nat.le_refl _), List.nil_append]
    show _ = _
    rw [e]
    exact setRow_heap w g _ _ _ _ hr
  · obtain rfl : xs = [] := List.eq_nil_of_length_eq_zero (by omega)
    have hr' : RowR w g (List.replicate m (0, 0)) := by
      have := hr
      rw [List.length_nil, Nat.zero_add] at this
      exact this
    have hrun : (Builtin.copy_ #[22, 22] o.type #[.slice (some ⟨g, 0, none⟩) (([] : List Sp).length + m) dCap, .slice ao ([] : List Sp).length cap]).run Tryz.prog w = .ok (goInt 0) w := by
      cases ao with
      | none => exact run_copyN w _ _ _ 65 _ _ _ _ Tryz.underlying22 (by rw [hsz]; rfl)
      | some ad =>
        have := run_copyS (P := Tryz.prog) w 22 22 o.type 65 2 g 0 (([] : List Sp).length + m) dCap ad 0 cap (U64.encs (List.replicate m (0, 0))).toArray 65 [] Tryz.underlying22 hsz hr' (by simp) (fun j u hj => by simp at hj) (by simp) (fun _ h => by cases h)
        rw [show Nat.min 0 (([] : List Sp).length + m) = 0 from Nat.zero_min _] at this
        have e : ((U64.encs (List.replicate m ((0 : Int), (0 : Int)))).toArray.toList.take 0 ++ [] ++ (U64.encs (List.replicate m ((0 : Int), (0 : Int)))).toArray.toList.drop (0 + ([] : List Value).length)).toArray = (U64.encs (List.replicate m ((0 : Int), (0 : Int)))).toArray := by simp
        rw [e, setRow_self w g _ _ _ hr'] at this
        exact this
    unfold Oper.wp
    simp only [execOp, ho, resolve, invoke, builtin, Sem.run_bind, Sem.run_pure, List.map_toArray, List.map_cons, List.map_nil, hd, hs, hrun, Result.andThen_ok]
    exact hK _ _ (h w (by rw [List.nil_append]; exact hr') (Keeps.refl _ _))
theorem RowR.set {w : World} {g : Nat} {L : List Sp} (h : RowR w g L) (j : Nat) (hj : j < L.length) (x : Int × Int) : RowR ((w.setCell ⟨g, j * 2, none⟩ (.int .u64 x.1)).setCell ⟨g, j * 2 + 1, none⟩ (.int .u64 x.2)) g (L.set j x) := by
  have h0 : w.heap[g]? = some (.cells (U64.encs L).toArray 65 (0, 0)) := h
  have e : U64.encs (L.set j x) = ((U64.encs L).set (j * 2) (.int .u64 x.1)).set (j * 2 + 1) (.int .u64 x.2) := by
    clear h h0
    induction L generalizing j with
    | nil => simp at hj
    | cons y ys ih =>
      cases j with
      | zero => rfl
      | succ j =>
        have := ih j (by simpa using hj)
        rw [List.set_cons_succ, show U64.encs (y :: ys.set j x) = U64.enc y ++ U64.encs (ys.set j x) from rfl, this, show U64.encs (y :: ys) = U64.enc y ++ U64.encs ys from rfl]
        rw [List.set_append_right _ _ (by simp [U64.enc]; omega), show (j + 1) * 2 - (U64.enc y).length = j * 2 by simp [U64.enc]; omega, List.set_append_right _ _ (by simp [U64.enc]; omega), show (j + 1) * 2 + 1 - (U64.enc y).length = j * 2 + 1 by simp [U64.enc]; omega]
  unfold RowR
  rw [e]
  simp [World.setCell, Array.getElem?_modify, h0]
end Go.Proofs.YtdkhhofgfbnmkaaGreat
/- Ranges that are laid behind one another: append of ranges; bulkheadref3.All. Own work. -/
namespace Go.Proofs.YtdkhhofgfbnmkaaGreat
open Go.RowKit Go.Maps Go.Proofs.YtdkhhofgfbnmkaaGreat.Sp
/-- a row of ranges that is owned from base on -/
def OwnRg (w : World) (base : Nat) (v : Value) (xs : List Sp) : Prop := w.ownsRow base 65 2 v xs.length (U64.encs xs)
theorem OwnRg.sv {w : World} {base : Nat} {v : Value} {xs : List Sp} (h : OwnRg w base v xs) : U64.SV w v xs := by
  rcases h.2 with ⟨rfl, h0⟩ | ⟨g, cap, cur, rfl, hb, hg, hnc, hcm, hcs, ht⟩
  · obtain rfl := List.eq_nil_of_length_eq_zero h0
    exact U64.SV.nil w
  · refine ⟨_, cap, rfl, hnc, hcm, fun e => (by cases e), fun a e => (by cases e; exact ⟨g, 0, rfl, (Array.getElem?_eq_some_iff.1 hg).1⟩), fun j hj => ⟨g, 0, rfl, ?_, ?_⟩⟩
    · rw [Nat.zero_add, cell_of_row w g (j * 2) _ _ _ hg, ← Array.getElem?_toList, ← U64.encs_get0 xs j hj, ← ht, List.getElem?_take_of_lt (by omega)]
    · rw [Nat.zero_add, cell_of_row w g (j * 2 + 1) _ _ _ hg, ← Array.getElem?_toList, ← U64.encs_get1 xs j hj, ← ht, List.getElem?_take_of_lt (by omega)]
theorem OwnRg.nil (w : World) (base : Nat) : OwnRg w base (.slice none 0 0) [] := ⟨rfl, .inl ⟨rfl, rfl⟩⟩
theorem OwnRg.form {w : World} {base : Nat} {v : Value} {xs : List Sp} (h : OwnRg w base v xs) : ∃ a c, v = .slice a xs.length c ∧ ∀ j, v.ownBlock = some j → base ≤ j := by
  rcases h.2 with ⟨rfl, h0⟩ | ⟨g, cap, cur, rfl, hb, _⟩
  · exact ⟨none, 0, by rw [h0], fun j e => by cases e⟩
  · exact ⟨_, cap, rfl, fun j e => by cases e; exact hb⟩
theorem sv_cells {w : World} {b o : Nat} {n c : Nat} {xs : List Sp} (h : U64.SV w (.slice (some ⟨b, o, none⟩) n c) xs) (j : Nat) (u : Value) (hj : (U64.encs xs)[j]? = some u) : w.cell? (Addr.add ⟨b, o, none⟩ j) = some u := by
  obtain ⟨ao, cap, e, h1, h2, h3, h9, h4⟩ := h
  have hjl : j < xs.length * 2 := by have := (List.getElem?_eq_some_iff.1 hj).1; rw [U64.encs_length] at this; exact this
  obtain ⟨b', o', e', c0, c1⟩ := h4 (j / 2) (by omega)
  rw [e'] at e
  cases e
  rw [Addr.add_lit]
  rcases (by omega : j % 2 = 0 ∨ j % 2 = 1) with e | e
  · rw [show j = j / 2 * 2 by omega, U64.encs_get0 xs (j / 2) (by omega)] at hj
    rw [show j = j / 2 * 2 by omega, c0]
    exact hj
  · rw [show j = j / 2 * 2 + 1 by omega, U64.encs_get1 xs (j / 2) (by omega)] at hj
    rw [show j = j / 2 * 2 + 1 by omega, ← Nat.add_assoc, c1]
    exact hj
/-- ranges are laid behind a row that is owned -/
theorem run_appR {w : World} {base : Nat} {v l : Value} {xs ys : List Sp} (ty : TypeId) (hv : OwnRg w base v xs) (hl : U64.SV w l ys) (hlen : xs.length + ys.length ≤ 8796093022208) (hbase : base ≤ w.heap.size) :
    ∃ v' w', (Builtin.append_ #[22, 22] ty #[v, l]).run Tryz.prog w = .ok v' w' ∧ OwnRg w' base v' (xs ++ ys) ∧ w.grownBy w' v.ownBlock := by
  obtain ⟨i, hi, hz0, hz1, hz2⟩ := info_parts info_rg
  have hl' := hl
  obtain ⟨ao, cap, rfl, h1, h2, h3, h9, h4⟩ := hl'
  cases ao with
  | none =>
    obtain ⟨rfl, rfl⟩ := h3 rfl
    rw [List.append_nil]
    rcases id hv.2 with ⟨rfl, h0⟩ | ⟨g, cap, cur, rfl, hb, hg, hnc, hcm, hcs, ht⟩
    · refine ⟨.slice none 0 0, w, ?_, hv, ⟨rfl, rfl, rfl, Nat.le_refl _, fun _ _ _ => rfl⟩⟩
      simp [Builtin.append_, run_underlying Tryz.underlying22, sizeOf, typeInfo, hi, Builtin.lenOf, Builtin.firstCells]
    · refine ⟨_, w, ?_, hv, ⟨rfl, rfl, rfl, Nat.le_refl _, fun _ _ _ => rfl⟩⟩
      have := run_append_room_src (P := Tryz.prog) w 22 22 ty 65 i Tryz.underlying22 hi g 0 xs.length cap (.slice none 0 0) 0 [] (Src.ofNil w Tryz.underlying22 0) (by omega) (fun j hj => absurd hj (by simp)) (fun j hj => absurd hj (by simp))
      exact this
  | some a =>
    obtain ⟨b, o, rfl, hlt⟩ := h9 a rfl
    obtain ⟨v', w', r1, r2, r3, _⟩ := run_append_own_at (P := Tryz.prog) w base 22 ty 65 i _ 2 _ Tryz.underlying22 hi hz0 hz1 hz2 rfl (by omega) v xs.length (U64.encs xs) hv ⟨b, o, none⟩ ys.length cap (U64.encs ys) (by rw [U64.encs_length]) (fun j u hj => sv_cells hl j u hj) (U64.encs_one ys) (by unfold maxLen; omega) (by omega) hbase
    refine ⟨v', w', r1, ?_, r3⟩
    unfold OwnRg
    rw [List.length_append, U64.encs_append]
    exact r2
theorem wpList_appR {w : World} {base : Nat} {ops : Array Oper} {rest : List Oper} {o : Oper} {a : Act} {Q : Exit → Act → World → Prop} (hgd : o.guard = none) (s x : Operand)
    (ho : o.op = .call { callee := .builtin .append, args := #[s, x], argTypes := #[22, 22] }) {v l : Value} {xs ys : List Sp} (hs : a.eval s = v) (hx : a.eval x = l) (hv : OwnRg w base v xs) (hl : U64.SV w l ys) (hlen : xs.length + ys.length ≤ 8796093022208) (hbase : base ≤ w.heap.size)
    (h : ∀ va vn vc w', Hid (OwnRg w' base (.slice va vn vc) (xs ++ ys)) → Hid (w.grownBy w' v.ownBlock) → wpList Tryz.prog ops Q rest (a.put o.dst (.slice va vn vc)) w') : wpList Tryz.prog ops Q (o :: rest) a w := by
  refine wpList_plain hgd fun K hK => ?_
  obtain ⟨v', w', hr, h2, h3⟩ := run_appR o.type hv hl hlen hbase
  obtain ⟨va, vc, rfl, _⟩ := h2.form
  unfold Oper.wp
  simp only [execOp, ho, resolve, invoke, builtin, Sem.run_bind, Sem.run_pure, List.map_toArray, List.map_cons, List.map_nil, hs, hx, hr, Result.andThen_ok]
  exact hK _ _ (h va _ vc w' h2 h3)
set_option maxRecDepth 100000 in
set_option maxHeartbeats 2000000 in
theorem all_any {w : World} {vr vd : Value} {rs ds : List Sp} (hr : U64.SV w vr rs) (hd : U64.SV w vd ds) (hl : rs.length + ds.length ≤ 8796093022208) :
    Calls Tryz.prog 18 #[.agg #[vr, vd]] w fun e w' => ∃ a n c, e = .returned (.slice a n c) ∧ Hid (Below w.heap.size w w') ∧ Hid (U64.SV w' (.slice a n c) (rs ++ ds)) ∧ Hid (∀ j, (Value.slice a n c).ownBlock = some j → w.heap.size ≤ j) := by
  have HB0 : Hid (Below w.heap.size w (w.alloc (Obj.cells #[vr, vd] 24))) := (Below.refl _ _).alloc (Nat.le_refl _) _
  have HR1 : Hid (U64.SV (w.alloc (Obj.cells #[vr, vd] 24)) vr rs) := hr.below HB0.out (Nat.le_refl _)
  have HD1 : Hid (U64.SV (w.alloc (Obj.cells #[vr, vd] 24)) vd ds) := hd.below HB0.out (Nat.le_refl _)
  have HX : Hid ((w.alloc (Obj.cells #[vr, vd] 24)).cell? ⟨w.heap.size, 1, none⟩ = some vd) := (U64.new2 rfl vr vd _).2
  clear hr hd
  go_enter Tryz.func18, Tryz.ntmps18
  go_wp2_with (refine wpList_appR rfl (.const (.slice none 0 0)) (.tmp 5) rfl (base := w.heap.size) rfl rfl (OwnRg.nil _ _) HR1.out (by simp; omega) (by simp) ?_)
  intro a1 n1 c1 w1 HO1 HG1
  have HB1 : Hid (Below (w.heap.size + 1) (w.alloc (Obj.cells #[vr, vd] 24)) w1) := below_grown HG1.out (by simp) (fun k e => by cases e)
  have x1 : w1.cell? ⟨w.heap.size, 1, none⟩ = some vd := (HB1.out.cell (p := ⟨w.heap.size, 1, none⟩) (Nat.lt_succ_self _)).trans HX.out
  have HD2 : Hid (U64.SV w1 vd ds) := HD1.out.below HB1.out (by simp)
  have HO2 : Hid (OwnRg w1 w.heap.size (.slice a1 n1 c1) rs) := HO1.out
  have HZ1 : Hid (w.heap.size ≤ w1.heap.size) := Nat.le_trans (by simp) HG1.out.size
  have HBw : Hid (Below w.heap.size w w1) := HB0.out.trans (HB1.out.mono (Nat.le_succ _))
  clear HO1 HG1 HR1 HD1 HX HB0 HB1
  go_wp2_with (refine wpList_appR rfl (.tmp 7) (.tmp 9) rfl (base := w.heap.size) rfl rfl HO2.out HD2.out (by omega) HZ1.out ?_)
  intro a2 n2 c2 w2 HO3 HG2
  have HB2 : Hid (Below w.heap.size w w2) := HBw.out.grown HG2.out HZ1.out (fun k e => by obtain ⟨_, _, _, h⟩ := HO2.out.form; exact h k e)
  clear HG2
  go_wp2_with fail
  go_ret
  exact ⟨a2, n2, c2, rfl, HB2, HO3.out.sv, fun j e => by obtain ⟨_, _, _, h⟩ := HO3.out.form; exact h j e⟩
/-- have two ranges no byte in common? -/
def apartB (a s b t : Int) : Bool := decide (a + s ≤ b ∨ b + t ≤ a)
set_option maxHeartbeats 1000000 in
theorem apart_any {a s b t : Int} (w : World) (ha : 0 ≤ a ∧ 0 ≤ s ∧ a + s ≤ 4294967296) (hb : 0 ≤ b ∧ 0 ≤ t ∧ b + t ≤ 4294967296) :
    Calls Tryz.prog 19 #[.agg #[.int .u64 a, .int .u64 s], .agg #[.int .u64 b, .int .u64 t]] w fun e w' => e = .returned (.bool (apartB a s b t)) ∧ Hid (Below w.heap.size w w') := by
  obtain ⟨a0, a1, a2⟩ := ha
  obtain ⟨b0, b1, b2⟩ := hb
  have HB : Hid (∀ X Y, Below w.heap.size w ((w.alloc X).alloc Y)) := fun X Y => ((Below.refl _ _).alloc (Nat.le_refl _) _).alloc (by simp) _
  by_cases h1 : a + s ≤ b
  · have HE : Hid (apartB a s b t = true) := decide_eq_true (.inl h1)
    go_enter Tryz.func19, Tryz.ntmps19
    go_wp2
    go_ret
    exact ⟨by rw [HE.out]; rfl, HB.out _ _⟩
  · by_cases h2 : b + t ≤ a
    · have HE : Hid (apartB a s b t = true) := decide_eq_true (.inr h2)
      go_enter Tryz.func19, Tryz.ntmps19
      go_wp2
      go_ret
      exact ⟨by rw [HE.out]; rfl, HB.out _ _⟩
    · have HE : Hid (apartB a s b t = false) := decide_eq_false (by omega)
      go_enter Tryz.func19, Tryz.ntmps19
      go_wp2
      go_ret
      exact ⟨by rw [HE.out]; rfl, HB.out _ _⟩
end Go.Proofs.YtdkhhofgfbnmkaaGreat
