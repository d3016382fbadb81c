import Derived.Test.YtmfkggngjeolcaaGreatDoorPk28
import Derived.Test.YtmfkggngjeolcaaGreatDoorPk36
import Derived.Test.YtmfkggngjeolcaaGreatDoorPk29
import Derived.Test.YtmfkggngjeolcaaGreatDoorPk31
/- Bundle, the document's own Twin: an image in memory of its own: what stands where. Own work. -/
namespace Go.Proofs.YtmfkggngjeolcaaGreatDoor
open Go.RowKit Bn Dc
set_option linter.unusedVariables false
set_option linter.unusedSimpArgs false
def idxT : Nat → Nat
  | 7 => 11
  | k => k + 1
/-- a row of the twin's -/
def rowT (I : Im) : Nat → World → Value → Prop
  | 0, w, v => OwnG 64 2 rgE w 0 v I.rams
  | 1, w, v => OwnG 64 2 rgE w 0 v I.devs
  | 2, w, v => OwnG 66 6 tnE w 0 v I.subs
  | 3, w, v => OwnG 68 1 poE w 0 v I.ports
  | 4, w, v => OwnG 70 4 gdE w 0 v I.regs
  | 5, w, v => OwnG 72 5 lkE w 0 v I.chs
  | 6, w, v => OwnG 72 5 lkE w 0 v I.irqs
  | _, w, v => OwnG 80 512 tbE w 0 v I.tabs
/-- what may be written beside the twin's rows: its own block, plans -/
def TwS (w : World) (k : Nat) : Prop := Tagd w 33 k ∨ Tagd w 78 k ∨ Tagd w 75 k ∨ Tagd w 74 k
theorem OwnG.tw {β : Type} {t : TypeId} {k : Nat} {enc : β → List Value} {w w' : World} {v : Value} {xs : List β} (h : OwnG t k enc w 0 v xs) (hk : Keeps (TwS w) w w') (h1 : t ≠ 33) (h2 : t ≠ 78) (h3 : t ≠ 75) (h4 : t ≠ 74) : OwnG t k enc w' 0 v xs := by
  refine h.keeps hk (fun j e => ?_)
  obtain ⟨_, _, _, _, _, hj⟩ := h.form
  obtain ⟨_, _, ht⟩ := hj j e
  rintro (e | e | e | e)
  · exact h1 (tag_same ht e)
  · exact h2 (tag_same ht e)
  · exact h3 (tag_same ht e)
  · exact h4 (tag_same ht e)
theorem rowT.tw {I : Im} {j : Nat} {w w' : World} {v : Value} (h : rowT I j w v) (hk : Keeps (TwS w) w w') : rowT I j w' v := by
  match j with
  | 0 => exact OwnG.tw (t := 64) h hk (by decide) (by decide) (by decide) (by decide)
  | 1 => exact OwnG.tw (t := 64) h hk (by decide) (by decide) (by decide) (by decide)
  | 2 => exact OwnG.tw (t := 66) h hk (by decide) (by decide) (by decide) (by decide)
  | 3 => exact OwnG.tw (t := 68) h hk (by decide) (by decide) (by decide) (by decide)
  | 4 => exact OwnG.tw (t := 70) h hk (by decide) (by decide) (by decide) (by decide)
  | 5 => exact OwnG.tw (t := 72) h hk (by decide) (by decide) (by decide) (by decide)
  | 6 => exact OwnG.tw (t := 72) h hk (by decide) (by decide) (by decide) (by decide)
  | k + 7 => exact OwnG.tw (t := 80) h hk (by decide) (by decide) (by decide) (by decide)
/-- where the twin stands, behind n rows -/
structure Tw (I : Im) (im : List Value) (w0 : World) (B ob n : Nat) (om : List Value) (w : World) : Prop where
  blk : w.heap[ob]? = some (.cells om.toArray 33 (0, 0))
  len : om.length = 12
  one : ∀ v ∈ om, v.oneCell' = true
  hB : B ≤ ob
  hw : B ≤ w0.heap.size
  fr : Below B w0 w
  rows : ∀ j, j < n → ∃ v, om[idxT j]? = some v ∧ rowT I j w v
  same : om[0]? = im[0]? ∧ om[9]? = im[9]? ∧ om[10]? = im[10]?
section
variable {I : Im} {im : List Value} {w0 : World} {B ob n : Nat} {om : List Value} {w w' : World}
theorem Tw.lt (h : Tw I im w0 B ob n om w) : ob < w.heap.size := (Array.getElem?_eq_some_iff.1 h.blk).1
theorem Tw.le (h : Tw I im w0 B ob n om w) : B ≤ w.heap.size := by have := h.lt; have := h.hB; omega
theorem Tw.below (h : Tw I im w0 B ob n om w) (hb : Below w.heap.size w w') : Tw I im w0 B ob n om w' :=
  ⟨(hb.block ob h.lt).trans h.blk, h.len, h.one, h.hB, h.hw, h.fr.trans (hb.mono h.le), fun j hj => by
    obtain ⟨v, h1, h2⟩ := h.rows j hj
    exact ⟨v, h1, h2.tw (Keeps.of_below hb)⟩, h.same⟩
theorem Tw.cell (h : Tw I im w0 B ob n om w) (i : Nat) : w.cell? ⟨ob, i, none⟩ = om[i]? := box_cell h.blk i
theorem Tw.free (h : Tw I im w0 B ob n om w) (i : Nat) : w.frozen? ⟨ob, i, none⟩ = false := box_free h.blk i
theorem idx_ne {j n : Nat} (h : j < n) (hn : n ≤ 7) : idxT j ≠ idxT n := by
  have : ∀ n, n ≤ 7 → ∀ j, j < n → idxT j ≠ idxT n := by decide
  exact this n hn j h
theorem idx_in {j : Nat} (h : j ≤ 7) : idxT j < 12 ∧ idxT j ≠ 0 ∧ idxT j ≠ 9 ∧ idxT j ≠ 10 ∧ idxT j ≠ 8 := by
  have : ∀ j, j ≤ 7 → idxT j < 12 ∧ idxT j ≠ 0 ∧ idxT j ≠ 9 ∧ idxT j ≠ 10 ∧ idxT j ≠ 8 := by decide
  exact this j h
/-- a cell of the twin's is written -/
theorem Tw.put (h : Tw I im w0 B ob n om w) {i : Nat} {u : Value} (hu : u.oneCell' = true) (h0 : i ≠ 0) (h9 : i ≠ 9) (h10 : i ≠ 10) {m : Nat} (hm : m ≤ n) (hi : ∀ j, j < m → idxT j ≠ i) : Tw I im w0 B ob m (om.set i u) (w.setCell ⟨ob, i, none⟩ u) := by
  have hk : Keeps (TwS w) w (w.setCell ⟨ob, i, none⟩ u) := Keeps.mono (Keeps.setCell w ob i u) (fun k _ e => by subst e; exact .inl ⟨_, h.blk⟩)
  refine ⟨box_set h.blk i u, by rw [List.length_set]; exact h.len, fun v hv => ?_, h.hB, h.hw, h.fr.setCell (p := ⟨ob, i, none⟩) h.hB _, fun j hj => ?_, ?_⟩
  · rcases List.mem_or_eq_of_mem_set hv with e | e
    · exact h.one v e
    · rw [e]; exact hu
  · obtain ⟨v, h1, h2⟩ := h.rows j (Nat.lt_of_lt_of_le hj hm)
    exact ⟨v, by rw [List.getElem?_set_ne (fun e => hi j hj e.symm)]; exact h1, h2.tw hk⟩
  · rw [List.getElem?_set_ne (by omega), List.getElem?_set_ne (by omega), List.getElem?_set_ne (by omega)]
    exact h.same
theorem Tw.next (h : Tw I im w0 B ob n om w) (hn : n ≤ 7) {u : Value} (hu : u.oneCell' = true) (hr : rowT I n w u) : Tw I im w0 B ob (n + 1) (om.set (idxT n) u) (w.setCell ⟨ob, idxT n, none⟩ u) := by
  have hx := idx_in hn
  have h1 := h.put hu (i := idxT n) hx.2.1 hx.2.2.1 hx.2.2.2.1 (Nat.le_refl n) (fun j hj => idx_ne hj hn)
  have hk : Keeps (TwS w) w (w.setCell ⟨ob, idxT n, none⟩ u) := Keeps.mono (Keeps.setCell w ob _ u) (fun k _ e => by subst e; exact .inl ⟨_, h.blk⟩)
  refine ⟨h1.blk, h1.len, h1.one, h1.hB, h1.hw, h1.fr, fun j hj => ?_, h1.same⟩
  by_cases e : j = n
  · subst e
    exact ⟨u, List.getElem?_set_self (by rw [h.len]; exact hx.1), hr.tw hk⟩
  · exact h1.rows j (by omega)
end
theorem rowG_tb {w : World} {v : Value} {fs : List (Nat → Nat)} (h : RowG 512 tbE w v fs) : TbG w v fs := by
  obtain ⟨ao, cap, rfl, h1, h2, h3⟩ := h
  refine ⟨ao, cap, rfl, h1, h2, fun i hi => ?_⟩
  obtain ⟨b, o, rfl, _, hc⟩ := h3 i hi
  refine ⟨b, o, rfl, fun p hp => (hc p hp).trans ?_⟩
  unfold tbE
  rw [Array.getElem?_toList, tabV_get _ hp]
/-- the whole twin -/
theorem Tw.imA {I : Im} {im : List Value} {w0 : World} {B ob : Nat} {om : List Value} {w : World} (h : Tw I im w0 B ob 8 om w) {w9 : World} (h0 : ImA w9 im I) {v : Value} (hp : om[8]? = some v) (hr : PlO w v I.plans) : ImA w om I := by
  obtain ⟨e0, e9, e10⟩ := h.same
  obtain ⟨b1, ⟨_, _, _, c2⟩, ⟨_, _, _, c3⟩, ⟨_, _, _, c4⟩, ⟨_, _, _, c5⟩, ⟨_, _, _, c6⟩, ⟨_, _, _, c7⟩, ⟨_, _, _, c8⟩, ⟨_, _, _, c9⟩, b10, b11, ⟨_, _, _, c12⟩, _, _⟩ := h0
  obtain ⟨v0, g0, r0⟩ := h.rows 0 (by decide)
  obtain ⟨v1, g1, r1⟩ := h.rows 1 (by decide)
  obtain ⟨v2, g2, r2⟩ := h.rows 2 (by decide)
  obtain ⟨v3, g3, r3⟩ := h.rows 3 (by decide)
  obtain ⟨v4, g4, r4⟩ := h.rows 4 (by decide)
  obtain ⟨v5, g5, r5⟩ := h.rows 5 (by decide)
  obtain ⟨v6, g6, r6⟩ := h.rows 6 (by decide)
  obtain ⟨v7, g7, r7⟩ := h.rows 7 (by decide)
  exact ⟨⟨e0.trans b1.1, b1.2⟩, ⟨v0, g0, OwnG.rowG (t := 64) r0 rg_ok, c2⟩, ⟨v1, g1, OwnG.rowG (t := 64) r1 rg_ok, c3⟩, ⟨v2, g2, OwnG.rowG (t := 66) r2 tn_ok, c4⟩, ⟨v3, g3, OwnG.rowG (t := 68) r3 po_ok, c5⟩, ⟨v4, g4, OwnG.rowG (t := 70) r4 gd_ok, c6⟩, ⟨v5, g5, OwnG.rowG (t := 72) r5 lk_ok, c7⟩, ⟨v6, g6, OwnG.rowG (t := 72) r6 lk_ok, c8⟩, ⟨v, hp, hr.plG, c9⟩, ⟨e9.trans b10.1, b10.2⟩, ⟨e10.trans b11.1, b11.2⟩, ⟨v7, g7, rowG_tb (OwnG.rowG (t := 80) r7 tb_ok), c12⟩, h.len, by
    rw [Array.all_eq_true_iff_forall_mem]
    intro x hx
    exact h.one x (by simpa using hx)⟩
end Go.Proofs.YtmfkggngjeolcaaGreatDoor
/- Bundle, the document's own Twin: its plans, where they stand. Own work. -/
namespace Go.Proofs.YtmfkggngjeolcaaGreatDoor
open Go.RowKit Bn Dc
set_option linter.unusedVariables false
set_option linter.unusedSimpArgs false
/-- one thing behind a row, as a step of a region that draws -/
theorem step_appG1 {β : Type} {enc : β → List Value} {w : World} {base : Nat} {ops : Array Oper} {o : Oper} {a : Act} {K : Act → World → Prop} {Q : Exit → Act → World → Prop} {E : Prop} (hw : Region.wanted o (yielded ops a.tmps) = true) (tS tE : TypeId) (s y : Operand)
    (ho : o.op = .call { callee := .builtin .append, args := #[s, y], argTypes := #[tS, tS] }) (k b : Nat) (z : Value) (hu : Tryz.prog.underlying tS = some (.slice tE)) (hi : (Tryz.prog.info? tE).map (fun i => (i.zero, i.size, i.bytes)) = some (some z, k, b)) (hk : 0 < k) (hzs : z.cells.size = k) (hb : b ≤ 4096) (he : EncOk k enc)
    {v : Value} {xs : List β} {x : β} {g cap : Nat} (hs : a.eval s = v) (hv : OwnG tE k enc w base v xs) (hy : a.eval y = .slice (some ⟨g, 0, none⟩) 1 cap) (hx : w.heap[g]? = some (.cells (enc x).toArray tE (0, 0))) (hlen : xs.length ≤ 4194304) (hbase : base ≤ w.heap.size)
    (h : ∀ va vc w', Hid (OwnG tE k enc w' base (.slice va (xs.length + 1) vc) (xs ++ [x])) → Hid (w.grownBy w' v.ownBlock) → K (a.put o.dst (.slice va (xs.length + 1) vc)) w') : if Region.wanted o (yielded ops a.tmps) = true then Oper.wp Tryz.prog o a w K Q else E := by
  rw [if_pos hw]
  have hx2 : RowG k enc w (.slice (some ⟨g, 0, none⟩) 1 cap) [x] ∨ True := .inr trivial
  clear hx2
  obtain ⟨i, hi, hz0, hz1, hz2⟩ := info_parts hi
  have hby : (xs.length + 1) * b ≤ 140737488355328 := by
    have : (xs.length + 1) * b ≤ 4194305 * 4096 := Nat.mul_le_mul (by omega) hb
    omega
  obtain ⟨v', w', r1, r2, r3, _⟩ := run_append_own_at (P := Tryz.prog) w base tS o.type tE i z k b hu hi hz0 hz1 hz2 hzs hk v xs.length (encs enc xs) hv ⟨g, 0, none⟩ 1 cap (enc x) (by rw [he.len]; omega) (fun j u hj => by
    rw [Addr.add_lit, Nat.zero_add, cell_of_row _ _ _ _ _ _ hx, ← Array.getElem?_toList]
    exact hj) (he.one x) (by unfold maxLen; omega) hby hbase
  have h2 : OwnG tE k enc w' base v' (xs ++ [x]) := by
    unfold OwnG
    rw [List.length_append, encs_snoc]
    exact r2
  obtain ⟨va, vc, rfl, _⟩ := h2.form
  rw [List.length_append] at h2 r1
  unfold Oper.wp execOp
  simp only [ho, resolve, invoke, builtin, Sem.run_bind, Sem.run_pure, Result.andThen_ok, List.map_toArray, List.map_cons, List.map_nil, hs, hy, r1]
  exact h va vc w' h2 r3
def PlT (B : Nat) (W : World) (v : Value) (ps : List Sc) : Prop := ∃ us : List (Int × SlV), OwnG 78 2 scE W B v us ∧ T2 (ScO W) us ps
theorem ScO.rz {W W' : World} {x : Int × SlV} {y : Sc} {u : TypeId} (h : ScO W x y) (hf : Rz u W W') (h1 : 75 ≠ u) (h2 : 74 ≠ u) : ScO W' x y := ⟨h.1, h.2.rz hf h1 h2⟩
theorem PlT.below {B : Nat} {W W' : World} {v : Value} {ps : List Sc} (h : PlT B W v ps) (hb : Below W.heap.size W W') : PlT B W' v ps := by
  obtain ⟨us, ho, ht⟩ := h
  exact ⟨us, ho.below hb, ht.imp (fun x y h => h.rz (u := 33) (Rz.of_below hb) (by decide) (by decide))⟩
/-- the twin's own block is written -/
theorem PlT.set {B : Nat} {W : World} {v : Value} {ps : List Sc} (h : PlT B W v ps) {ob i : Nat} {u : Value} (ht : Tagd W 33 ob) : PlT B (W.setCell ⟨ob, i, none⟩ u) v ps := by
  have hk : Keeps (fun k => k = ob) W (W.setCell ⟨ob, i, none⟩ u) := Keeps.setCell W ob i u
  obtain ⟨us, ho, hT⟩ := h
  refine ⟨us, ho.keeps hk (fun j e e2 => ?_), hT.imp (fun x y h => h.rz (u := 33) (Keeps.mono hk (fun k _ e => by subst e; exact .inr (.inr ht))) (by decide) (by decide))⟩
  obtain ⟨_, _, _, _, _, hj⟩ := ho.form
  have h3 := (hj j e).2.2
  subst e2
  exact absurd (tag_same h3 ht) (by decide)
/-- one plan more -/
theorem PlT.snoc {B : Nat} {W W' : World} {v v' : Value} {us : List (Int × SlV)} {ps : List Sc} {x : Int × SlV} {p : Sc} (ho : OwnG 78 2 scE W B v us) (hT : T2 (ScO W) us ps) (hx : ScO W x p) (hg : W.grownBy W' v.ownBlock) (ho' : OwnG 78 2 scE W' B v' (us ++ [x])) : PlT B W' v' (ps ++ [p]) := by
  have hf : Rz 78 W W' := Rz.grown hg (fun k e => by
    obtain ⟨_, _, _, _, _, hj⟩ := ho.form
    exact (hj k e).2.2)
  exact ⟨us ++ [x], ho', T2.snoc (hx.rz hf (by decide) (by decide)) (hT.imp (fun x y h => h.rz hf (by decide) (by decide)))⟩
theorem PlT.nil (B : Nat) (W : World) : PlT B W (.slice none 0 0) [] := ⟨[], OwnG.nil _ _ _ _ _, .nil⟩
theorem LaO.below {W W' : World} {v : SlV} {ls : List (List (Int × Int))} (h : LaO W v ls) (hb : Below W.heap.size W W') : LaO W' v ls := h.rz (u := 33) (Rz.of_below hb) (by decide) (by decide)
/-- lanes in the making: the row from base on -/
def LaT (B : Nat) (W : World) (v : SlV) (ls : List (List (Int × Int))) : Prop := ∃ us : List SlV, OwnG 75 1 slE W B (slE1 v) us ∧ T2 (fun u l => OwnG 74 2 stE W 0 (slE1 u) l) us ls
theorem LaT.laO {B : Nat} {W : World} {v : SlV} {ls : List (List (Int × Int))} (h : LaT B W v ls) : LaO W v ls := by
  obtain ⟨us, ho, hT⟩ := h
  exact ⟨us, ho.zero, hT⟩
theorem LaT.nil (B : Nat) (W : World) : LaT B W ⟨none, 0, 0⟩ [] := ⟨[], OwnG.nil _ _ _ _ _, .nil⟩
/-- one lane more, and a box of plans written -/
theorem LaT.snoc {B : Nat} {W W' : World} {v v' : SlV} {us : List SlV} {ls : List (List (Int × Int))} {x : SlV} {l : List (Int × Int)} (ho : OwnG 75 1 slE W B (slE1 v) us) (hT : T2 (fun u l => OwnG 74 2 stE W 0 (slE1 u) l) us ls) (hx : OwnG 74 2 stE W 0 (slE1 x) l) (hg : W.grownBy W' (slE1 v).ownBlock) (ho' : OwnG 75 1 slE W' B (slE1 v') (us ++ [x])) : LaT B W' v' (ls ++ [l]) := by
  have hf : Rz 75 W W' := Rz.grown hg (fun k e => by
    obtain ⟨_, _, _, _, _, hj⟩ := ho.form
    exact (hj k e).2.2)
  exact ⟨us ++ [x], ho', T2.snoc (r := fun u l => OwnG 74 2 stE W' 0 (slE1 u) l) (hx.rz hf (by decide) (by decide) (by decide)) (hT.imp (fun x y h => h.rz hf (by decide) (by decide) (by decide)))⟩
theorem LaT.set {B : Nat} {W : World} {v : SlV} {ls : List (List (Int × Int))} (h : LaT B W v ls) {m i : Nat} {u : Value} (ht : Tagd W 78 m) : LaT B (W.setCell ⟨m, i, none⟩ u) v ls := by
  have hf : Rz 78 W (W.setCell ⟨m, i, none⟩ u) := Keeps.mono (Keeps.setCell W m i u) (fun k _ e => by subst e; exact .inr (.inr ht))
  obtain ⟨us, ho, hT⟩ := h
  exact ⟨us, ho.rz hf (by decide) (by decide) (by decide), hT.imp (fun x y h => h.rz hf (by decide) (by decide) (by decide))⟩
theorem Tw.grown {I : Im} {im : List Value} {w0 : World} {B ob n : Nat} {om : List Value} {w w' : World} {row : Option Nat} (h : Tw I im w0 B ob n om w) (hg : w.grownBy w' row) (hr : ∀ k, row = some k → B ≤ k ∧ Tagd w 78 k) : Tw I im w0 B ob n om w' := by
  have hne : some ob ≠ row := fun e => by
    have h1 := (hr ob e.symm).2
    exact absurd (tag_same h1 ⟨_, h.blk⟩) (by decide)
  have hk : Keeps (TwS w) w w' := ⟨hg.os, hg.tape, hg.output, hg.size, fun i hi hn => hg.block i hi (fun e => hn (.inr (.inl (hr i e.symm).2)))⟩
  exact ⟨(hg.block ob h.lt hne).trans h.blk, h.len, h.one, h.hB, h.hw, h.fr.grown hg h.le (fun k e => (hr k e).1), fun j hj => by
    obtain ⟨v, h1, h2⟩ := h.rows j hj
    exact ⟨v, h1, h2.tw hk⟩, h.same⟩
/-- what may be written beside a twin: images, rows of rows of bytes, books of bytes -/
def TwK (w : World) (k : Nat) : Prop := Tagd w 33 k ∨ Tagd w 43 k ∨ Tagd w 37 k
theorem OwnG.twk {β : Type} {t : TypeId} {k : Nat} {enc : β → List Value} {w w' : World} {base : Nat} {v : Value} {xs : List β} (h : OwnG t k enc w base v xs) (hk : Keeps (TwK w) w w') (h1 : t ≠ 33) (h2 : t ≠ 43) (h3 : t ≠ 37) : OwnG t k enc w' base v xs := by
  refine h.keeps hk (fun j e => ?_)
  obtain ⟨_, _, _, _, _, hj⟩ := h.form
  obtain ⟨_, _, ht⟩ := hj j e
  rintro (e | e | e)
  · exact h1 (tag_same ht e)
  · exact h2 (tag_same ht e)
  · exact h3 (tag_same ht e)
theorem rowT.twk {I : Im} {j : Nat} {w w' : World} {v : Value} (h : rowT I j w v) (hk : Keeps (TwK w) w w') : rowT I j w' v := by
  match j with
  | 0 => exact OwnG.twk (t := 64) h hk (by decide) (by decide) (by decide)
  | 1 => exact OwnG.twk (t := 64) h hk (by decide) (by decide) (by decide)
  | 2 => exact OwnG.twk (t := 66) h hk (by decide) (by decide) (by decide)
  | 3 => exact OwnG.twk (t := 68) h hk (by decide) (by decide) (by decide)
  | 4 => exact OwnG.twk (t := 70) h hk (by decide) (by decide) (by decide)
  | 5 => exact OwnG.twk (t := 72) h hk (by decide) (by decide) (by decide)
  | 6 => exact OwnG.twk (t := 72) h hk (by decide) (by decide) (by decide)
  | k + 7 => exact OwnG.twk (t := 80) h hk (by decide) (by decide) (by decide)
theorem LaO.twk {W W' : World} {v : SlV} {ls : List (List (Int × Int))} (h : LaO W v ls) (hk : Keeps (TwK W) W W') : LaO W' v ls := by
  obtain ⟨us, ho, ht⟩ := h
  exact ⟨us, OwnG.twk ho hk (by decide) (by decide) (by decide), ht.imp (fun x y h => OwnG.twk h hk (by decide) (by decide) (by decide))⟩
theorem ScO.twk {W W' : World} {x : Int × SlV} {y : Sc} (h : ScO W x y) (hk : Keeps (TwK W) W W') : ScO W' x y := ⟨h.1, h.2.twk hk⟩
/-- the whole twin, behind a store of a block of images -/
theorem Tw.imAk {I : Im} {im : List Value} {w0 : World} {B ob : Nat} {om : List Value} {w w' : World} (h : Tw I im w0 B ob 8 om w) (hk : Keeps (TwK w) w w') {w9 : World} (h0 : ImA w9 im I) {v : Value} (hp : om[8]? = some v) {B2 : Nat} (hr : PlT B2 w v I.plans) : ImA w' om I := by
  have hr2 : PlO w' v I.plans := by
    obtain ⟨us, ho, hT⟩ := hr
    exact ⟨us, OwnG.twk ho.zero hk (by decide) (by decide) (by decide), hT.imp (fun x y h => h.twk hk)⟩
  obtain ⟨e0, e9, e10⟩ := h.same
  obtain ⟨b1, ⟨_, _, _, c2⟩, ⟨_, _, _, c3⟩, ⟨_, _, _, c4⟩, ⟨_, _, _, c5⟩, ⟨_, _, _, c6⟩, ⟨_, _, _, c7⟩, ⟨_, _, _, c8⟩, ⟨_, _, _, c9⟩, b10, b11, ⟨_, _, _, c12⟩, _, _⟩ := h0
  have R : ∀ j, j < 8 → ∃ v, om[idxT j]? = some v ∧ rowT I j w' v := fun j hj => by
    obtain ⟨v, h1, h2⟩ := h.rows j hj
    exact ⟨v, h1, h2.twk hk⟩
  obtain ⟨v0, g0, r0⟩ := R 0 (by decide)
  obtain ⟨v1, g1, r1⟩ := R 1 (by decide)
  obtain ⟨v2, g2, r2⟩ := R 2 (by decide)
  obtain ⟨v3, g3, r3⟩ := R 3 (by decide)
  obtain ⟨v4, g4, r4⟩ := R 4 (by decide)
  obtain ⟨v5, g5, r5⟩ := R 5 (by decide)
  obtain ⟨v6, g6, r6⟩ := R 6 (by decide)
  obtain ⟨v7, g7, r7⟩ := R 7 (by decide)
  exact ⟨⟨e0.trans b1.1, b1.2⟩, ⟨v0, g0, OwnG.rowG (t := 64) r0 rg_ok, c2⟩, ⟨v1, g1, OwnG.rowG (t := 64) r1 rg_ok, c3⟩, ⟨v2, g2, OwnG.rowG (t := 66) r2 tn_ok, c4⟩, ⟨v3, g3, OwnG.rowG (t := 68) r3 po_ok, c5⟩, ⟨v4, g4, OwnG.rowG (t := 70) r4 gd_ok, c6⟩, ⟨v5, g5, OwnG.rowG (t := 72) r5 lk_ok, c7⟩, ⟨v6, g6, OwnG.rowG (t := 72) r6 lk_ok, c8⟩, ⟨v, hp, hr2.plG, c9⟩, ⟨e9.trans b10.1, b10.2⟩, ⟨e10.trans b11.1, b11.2⟩, ⟨v7, g7, rowG_tb (OwnG.rowG (t := 80) r7 tb_ok), c12⟩, h.len, by
    rw [Array.all_eq_true_iff_forall_mem]
    intro x hx
    exact h.one x (by simpa using hx)⟩
theorem keeps_setRow (w : World) (b : Nat) (c : Array Value) : Keeps (fun k => k = b) w (w.setRow b c) := by
  refine ⟨rfl, rfl, rfl, by simp [World.setRow], fun k _ hk => ?_⟩
  simp only [World.setRow, Array.getElem?_modify]
  rw [if_neg (fun e => hk e.symm)]
theorem TwK.setRow {w : World} {b : Nat} {c0 c : Array Value} (h : w.heap[b]? = some (.cells c0 33 (0, 0))) {W : World} (hW : Keeps (TwK (w.setRow b c)) (w.setRow b c) W) : Keeps (TwK w) w W := by
  have h1 : Keeps (TwK w) w (w.setRow b c) := (keeps_setRow w b c).mono (fun k _ e => by subst e; exact .inl ⟨_, h⟩)
  refine h1.trans hW (fun i hi hs => ?_)
  by_cases e : i = b
  · subst e; exact .inl ⟨_, h⟩
  · have e2 := (keeps_setRow w b c).block i hi e
    unfold TwK Tagd at hs ⊢
    rwa [e2] at hs
end Go.Proofs.YtmfkggngjeolcaaGreatDoor
/- Bundle, the document's own Twin: walked (written by parts/gen_ektwn.py). Own work. -/
namespace Go.Proofs.YtmfkggngjeolcaaGreatDoor
open Go.RowKit Bn Dc
set_option linter.unusedVariables false
set_option linter.unusedSimpArgs false
theorem infoTb : (Tryz.prog.info? 80).map (fun i => (i.zero, i.size, i.bytes)) = some (some (.agg (tabV fun _ => 0)), 512, 4096) := by kernel_rfl
theorem row_set {w : World} {b : Nat} {c c' : Array Value} {t : TypeId} (h : w.heap[b]? = some (.cells c t (0, 0))) : (w.setRow b c').heap[b]? = some (.cells c' t (0, 0)) := by simp [World.setRow, Array.getElem?_modify, h]
set_option maxRecDepth 100000 in
set_option maxHeartbeats 16000000 in
theorem twinX {w : World} {im : List Value} {I : Im} (h : ImA w im I) (hc : cntI I < 4000000) : Calls Tryz.prog 15 #[.agg im.toArray] w fun e w' => ∃ om, e = .returned (.agg om.toArray) ∧ (∀ W, Keeps (TwK w') w' W → ImA W om I) ∧ Below w.heap.size w w' := by
  have hcnt := hc
  have hrl : ∀ xs : List Gd, xs.length ≤ rsz xs := fun xs => by
    induction xs with
    | nil => exact Nat.le_refl _
    | cons g gs ih => rw [rsz, List.length_cons]; omega
  have hrl1 := hrl I.regs
  unfold cntI at hcnt
  have HCn : Hid (memI I + I.regs.length < 4000000) := show _ < _ by omega
  have hps : plsz I.plans < 4000000 := by omega
  have hp1 : ∀ (ps : List Sc), ∀ p ∈ ps, lsz p.lanes ≤ plsz ps := fun ps => by
    induction ps with
    | nil => intro p hp; cases hp
    | cons q qs ih =>
      intro p hp
      rw [plsz]
      rcases List.mem_cons.1 hp with rfl | e
      · omega
      · have := ih p e; omega
  have hp2 : ∀ (ls : List (List (Int × Int))), ls.length ≤ lsz ls ∧ ∀ l ∈ ls, l.length ≤ lsz ls := fun ls => by
    induction ls with
    | nil => exact ⟨Nat.le_refl _, fun l hl => by cases hl⟩
    | cons q qs ih =>
      rw [lsz, List.length_cons]
      refine ⟨by omega, fun l hl => ?_⟩
      rcases List.mem_cons.1 hl with rfl | e
      · omega
      · have := ih.2 l e; omega
  have HLk : Hid (∀ p ∈ I.plans, p.lanes.length ≤ 4000000) := fun p hp => by have := hp1 _ p hp; have := (hp2 p.lanes).1; omega
  have HLl : Hid (∀ p ∈ I.plans, ∀ l ∈ p.lanes, l.length ≤ 4000000) := fun p hp l hl => by have := hp1 _ p hp; have := (hp2 p.lanes).2 l hl; omega
  clear hps hp1 hp2
  clear hrl hrl1 hcnt hc
  have hlen := h.len
  have HIA := Lib.hid h
  have HIn := Lib.hid (info_im hlen)
  have HIn0 := Lib.hid (info_im (im := im0) rfl)
  have HOne := Lib.hid h.one
  have s1 : (w.alloc (.cells im.toArray 33)).heap.size = w.heap.size + 1 := by simp
  have s2 : ((w.alloc (.cells im.toArray 33)).alloc (.cells im0.toArray 33)).heap.size = w.heap.size + 2 := by simp
  have hb1 : Below w.heap.size w ((w.alloc (.cells im.toArray 33)).alloc (.cells im0.toArray 33)) := ((Below.refl _ _).alloc (Nat.le_refl _) _).alloc (by simp) _
  have hbx : ((w.alloc (.cells im.toArray 33)).alloc (.cells im0.toArray 33)).heap[w.heap.size]? = some (.cells im.toArray 33 (0, 0)) := by
    rw [Below.heap_alloc _ _ _ (by rw [s1]; omega)]
    exact heap_alloc_new w _
  have hrs : ((w.alloc (.cells im.toArray 33)).alloc (.cells im0.toArray 33)).heap[w.heap.size + 1]? = some (.cells im0.toArray 33 (0, 0)) := by
    have := heap_alloc_new (w.alloc (.cells im.toArray 33)) (.cells im0.toArray 33)
    rwa [s1] at this
  have HB1 := Lib.hid hb1
  have HBx := Lib.hid hbx
  have HRs := Lib.hid hrs
  have HS2 := Lib.hid s2
  have HL := Lib.hid hlen
  clear h hlen s1 s2 hb1 hbx hrs
  go_enter Tryz.func15, Tryz.ntmps15
  go_upto_region 1 with fail
  show Code.wp _ _ _ _ ((w.alloc (.cells im.toArray 33)).alloc (.cells im0.toArray 33))
  generalize ((w.alloc (.cells im.toArray 33)).alloc (.cells im0.toArray 33)) = W2 at *
  have hz3 : (W2.alloc (.cells im0.toArray 33)).heap[W2.heap.size]? = some (.cells im0.toArray 33 (0, 0)) := heap_alloc_new W2 _
  have HZ3 := Lib.hid hz3
  have HT0 : Hid (Tw I im ((W2.alloc (.cells im0.toArray 33)).setRow W2.heap.size im.toArray) W2.heap.size W2.heap.size 0 im ((W2.alloc (.cells im0.toArray 33)).setRow W2.heap.size im.toArray)) := Lib.hid
    ⟨row_set hz3, HL.out, fun v hv => (Array.all_eq_true_iff_forall_mem.1 HOne.out) v (by simpa using hv), Nat.le_refl _, by simp [World.setRow], Below.refl _ _, fun j hj => absurd hj (Nat.not_lt_zero _), rfl, rfl, rfl⟩
  have HB3 : Hid (Below W2.heap.size W2 ((W2.alloc (.cells im0.toArray 33)).setRow W2.heap.size im.toArray)) := Lib.hid (((Below.refl _ _).alloc (Nat.le_refl _) _).trans (below_setRow _ _ _ _ (Nat.le_refl _)))
  clear hz3
  go_upto_region 2 with (first
    | (refine wpList_load_arr rfl 33 (.tmp 1) rfl (b := w.heap.size) (g := im.toArray) rfl HBx.out Tryz.underlying33 rfl HIn.out ?_)
    | (refine wpList_store_arr rfl 33 (.tmp 3) (.tmp 7) rfl (b := W2.heap.size) (Z := im0.toArray) (g := im.toArray) rfl rfl rfl HZ3.out HIn.out (by rw [List.size_toArray, List.size_toArray, HL.out]; rfl) HOne.out ?_))
  show Code.wp _ _ _ _ ((W2.alloc (.cells im0.toArray 33)).setRow W2.heap.size im.toArray)
  generalize ((W2.alloc (.cells im0.toArray 33)).setRow W2.heap.size im.toArray) = W3 at *
  obtain ⟨b1, ⟨u1, d1, r1, _⟩, ⟨u2, d2, r2, _⟩, ⟨u3, d3, r3, _⟩, ⟨u4, d4, r4, _⟩, ⟨u5, d5, r5, _⟩, ⟨u6, d6, r6, _⟩, ⟨u7, d7, r7, _⟩, ⟨u8, d8, r8, o8⟩, b10, b11, ⟨u11, d11, r11, _⟩, _, _⟩ := HIA.out
  have HR1 : Hid (∀ W, Below w.heap.size w W → RowG 2 rgE W u1 I.rams) := fun W hW => r1.below hW
  have HR2 : Hid (∀ W, Below w.heap.size w W → RowG 2 rgE W u2 I.devs) := fun W hW => r2.below hW
  have HR3 : Hid (∀ W, Below w.heap.size w W → RowG 6 tnE W u3 I.subs) := fun W hW => r3.below hW
  have HR4 : Hid (∀ W, Below w.heap.size w W → RowG 1 poE W u4 I.ports) := fun W hW => r4.below hW
  have HR5 : Hid (∀ W, Below w.heap.size w W → RowG 4 gdE W u5 I.regs) := fun W hW => r5.below hW
  have HR6 : Hid (∀ W, Below w.heap.size w W → RowG 5 lkE W u6 I.chs) := fun W hW => r6.below hW
  have HR7 : Hid (∀ W, Below w.heap.size w W → RowG 5 lkE W u7 I.irqs) := fun W hW => r7.below hW
  have HR11 : Hid (∀ W, Below w.heap.size w W → RowG 512 tbE W u11 I.tabs) := fun W hW => (r11.below hW).rowG
  have HPl : Hid (PlG w u8 I.plans) := r8
  have HD : Hid (im[1]? = some u1 ∧ im[2]? = some u2 ∧ im[3]? = some u3 ∧ im[4]? = some u4 ∧ im[5]? = some u5 ∧ im[6]? = some u6 ∧ im[7]? = some u7 ∧ im[8]? = some u8 ∧ im[11]? = some u11) := ⟨d1, d2, d3, d4, d5, d6, d7, d8, d11⟩
  have HBox : Hid (∀ n om W, Tw I im W3 W2.heap.size W2.heap.size n om W → Below w.heap.size w W ∧ W.cell? ⟨w.heap.size, 1, none⟩ = some u1 ∧ W.cell? ⟨w.heap.size, 2, none⟩ = some u2 ∧ W.cell? ⟨w.heap.size, 3, none⟩ = some u3 ∧ W.cell? ⟨w.heap.size, 4, none⟩ = some u4 ∧ W.cell? ⟨w.heap.size, 5, none⟩ = some u5 ∧ W.cell? ⟨w.heap.size, 6, none⟩ = some u6 ∧ W.cell? ⟨w.heap.size, 7, none⟩ = some u7 ∧ W.cell? ⟨w.heap.size, 8, none⟩ = some u8 ∧ W.cell? ⟨w.heap.size, 11, none⟩ = some u11) := fun n om W hW => by
    have hb : Below W2.heap.size W2 W := HB3.out.trans (hW.fr.mono (Nat.le_refl _))
    have h9 := (hb.block w.heap.size (by rw [HS2.out]; omega)).trans HBx.out
    exact ⟨HB1.out.trans (hb.mono (by rw [HS2.out]; omega)), (box_cell h9 1).trans d1, (box_cell h9 2).trans d2, (box_cell h9 3).trans d3, (box_cell h9 4).trans d4, (box_cell h9 5).trans d5, (box_cell h9 6).trans d6, (box_cell h9 7).trans d7, (box_cell h9 8).trans d8, (box_cell h9 11).trans d11⟩
  clear r1 r2 r3 r4 r5 r6 r7 r8 r11 o8 b1 b10 b11 d1 d2 d3 d4 d5 d6 d7 d8 d11
  clear HZ3

  obtain ⟨hbw0, e1, e2, e3, e4, e5, e6, e7, e8, e11⟩ := HBox.out _ _ _ HT0.out
  have HRw0 := Lib.hid (HR1.out _ hbw0)
  clear hbw0
  go_upto_region 3 with (at_builtin; refine wpList_appN (enc := rgE) rfl 23 64 (.const (.slice none 0 0)) (.tmp 10) rfl 2 16 _ Tryz.underlying23 infoRg (by decide) (by first | rfl | simp [tabV_size, Value.cells]) (by decide) rg_ok rfl (ys := I.rams) (by rfl) HRw0.out (by have := HCn.out; unfold memI at this; omega) ?_; intro va0 vc0 w0 HN0 HB0w; have HX0 := Lib.hid (HT0.out.below HB0w.out); have k0 := HX0.out.free 1; obtain ⟨y0, l0⟩ : ∃ y, w0.cell? ⟨W2.heap.size, 1, none⟩ = some y := ⟨_, (HX0.out.cell 1).trans (List.getElem?_eq_getElem (by rw [HX0.out.len]; decide))⟩)
  have HT1 : Hid (Tw I im W3 W2.heap.size W2.heap.size 1 ((im).set 1 (.slice va0 I.rams.length vc0)) (w0.setCell ⟨W2.heap.size, 1, none⟩ (.slice va0 I.rams.length vc0))) := Lib.hid (HX0.out.next (n := 0) (by decide) rfl (show rowT I 0 _ _ from OwnG.zero HN0.out))
  obtain ⟨o0, ho0⟩ : ∃ o, (im).set 1 (.slice va0 I.rams.length vc0) = o := ⟨_, rfl⟩
  rw [ho0] at HT1
  generalize w0.setCell ⟨W2.heap.size, 1, none⟩ (.slice va0 I.rams.length vc0) = X0 at HT1 ⊢
  clear k0 l0 HX0 HN0 HB0w HRw0 HT0 e1 e2 e3 e4 e5 e6 e7 e8 e11
  obtain ⟨hbw1, e1, e2, e3, e4, e5, e6, e7, e8, e11⟩ := HBox.out _ _ _ HT1.out
  have HRw1 := Lib.hid (HR2.out _ hbw1)
  clear hbw1
  go_upto_region 4 with (at_builtin; refine wpList_appN (enc := rgE) rfl 23 64 (.const (.slice none 0 0)) (.tmp 16) rfl 2 16 _ Tryz.underlying23 infoRg (by decide) (by first | rfl | simp [tabV_size, Value.cells]) (by decide) rg_ok rfl (ys := I.devs) (by rfl) HRw1.out (by have := HCn.out; unfold memI at this; omega) ?_; intro va1 vc1 w1 HN1 HB1w; have HX1 := Lib.hid (HT1.out.below HB1w.out); have k1 := HX1.out.free 2; obtain ⟨y1, l1⟩ : ∃ y, w1.cell? ⟨W2.heap.size, 2, none⟩ = some y := ⟨_, (HX1.out.cell 2).trans (List.getElem?_eq_getElem (by rw [HX1.out.len]; decide))⟩)
  have HT2 : Hid (Tw I im W3 W2.heap.size W2.heap.size 2 ((o0).set 2 (.slice va1 I.devs.length vc1)) (w1.setCell ⟨W2.heap.size, 2, none⟩ (.slice va1 I.devs.length vc1))) := Lib.hid (HX1.out.next (n := 1) (by decide) rfl (show rowT I 1 _ _ from OwnG.zero HN1.out))
  obtain ⟨o1, ho1⟩ : ∃ o, (o0).set 2 (.slice va1 I.devs.length vc1) = o := ⟨_, rfl⟩
  rw [ho1] at HT2
  generalize w1.setCell ⟨W2.heap.size, 2, none⟩ (.slice va1 I.devs.length vc1) = X1 at HT2 ⊢
  clear k1 l1 HX1 HN1 HB1w HRw1 HT1 e1 e2 e3 e4 e5 e6 e7 e8 e11
  obtain ⟨hbw2, e1, e2, e3, e4, e5, e6, e7, e8, e11⟩ := HBox.out _ _ _ HT2.out
  have HRw2 := Lib.hid (HR3.out _ hbw2)
  clear hbw2
  go_upto_region 5 with (at_builtin; refine wpList_appN (enc := tnE) rfl 26 66 (.const (.slice none 0 0)) (.tmp 21) rfl 6 48 _ Tryz.underlying26 infoTn (by decide) (by first | rfl | simp [tabV_size, Value.cells]) (by decide) tn_ok rfl (ys := I.subs) (by rfl) HRw2.out (by have := HCn.out; unfold memI at this; omega) ?_; intro va2 vc2 w2 HN2 HB2w; have HX2 := Lib.hid (HT2.out.below HB2w.out); have k2 := HX2.out.free 3; obtain ⟨y2, l2⟩ : ∃ y, w2.cell? ⟨W2.heap.size, 3, none⟩ = some y := ⟨_, (HX2.out.cell 3).trans (List.getElem?_eq_getElem (by rw [HX2.out.len]; decide))⟩)
  have HT3 : Hid (Tw I im W3 W2.heap.size W2.heap.size 3 ((o1).set 3 (.slice va2 I.subs.length vc2)) (w2.setCell ⟨W2.heap.size, 3, none⟩ (.slice va2 I.subs.length vc2))) := Lib.hid (HX2.out.next (n := 2) (by decide) rfl (show rowT I 2 _ _ from OwnG.zero HN2.out))
  obtain ⟨o2, ho2⟩ : ∃ o, (o1).set 3 (.slice va2 I.subs.length vc2) = o := ⟨_, rfl⟩
  rw [ho2] at HT3
  generalize w2.setCell ⟨W2.heap.size, 3, none⟩ (.slice va2 I.subs.length vc2) = X2 at HT3 ⊢
  clear k2 l2 HX2 HN2 HB2w HRw2 HT2 e1 e2 e3 e4 e5 e6 e7 e8 e11
  obtain ⟨hbw3, e1, e2, e3, e4, e5, e6, e7, e8, e11⟩ := HBox.out _ _ _ HT3.out
  have HRw3 := Lib.hid (HR4.out _ hbw3)
  clear hbw3
  go_upto_region 6 with (at_builtin; refine wpList_appN (enc := poE) rfl 27 68 (.const (.slice none 0 0)) (.tmp 25) rfl 1 8 _ Tryz.underlying27 infoPo (by decide) (by first | rfl | simp [tabV_size, Value.cells]) (by decide) po_ok rfl (ys := I.ports) (by rfl) HRw3.out (by have := HCn.out; unfold memI at this; omega) ?_; intro va3 vc3 w3 HN3 HB3w; have HX3 := Lib.hid (HT3.out.below HB3w.out); have k3 := HX3.out.free 4; obtain ⟨y3, l3⟩ : ∃ y, w3.cell? ⟨W2.heap.size, 4, none⟩ = some y := ⟨_, (HX3.out.cell 4).trans (List.getElem?_eq_getElem (by rw [HX3.out.len]; decide))⟩)
  have HT4 : Hid (Tw I im W3 W2.heap.size W2.heap.size 4 ((o2).set 4 (.slice va3 I.ports.length vc3)) (w3.setCell ⟨W2.heap.size, 4, none⟩ (.slice va3 I.ports.length vc3))) := Lib.hid (HX3.out.next (n := 3) (by decide) rfl (show rowT I 3 _ _ from OwnG.zero HN3.out))
  obtain ⟨o3, ho3⟩ : ∃ o, (o2).set 4 (.slice va3 I.ports.length vc3) = o := ⟨_, rfl⟩
  rw [ho3] at HT4
  generalize w3.setCell ⟨W2.heap.size, 4, none⟩ (.slice va3 I.ports.length vc3) = X3 at HT4 ⊢
  clear k3 l3 HX3 HN3 HB3w HRw3 HT3 e1 e2 e3 e4 e5 e6 e7 e8 e11
  obtain ⟨hbw4, e1, e2, e3, e4, e5, e6, e7, e8, e11⟩ := HBox.out _ _ _ HT4.out
  have HRw4 := Lib.hid (HR5.out _ hbw4)
  clear hbw4
  go_upto_region 7 with (at_builtin; refine wpList_appN (enc := gdE) rfl 28 70 (.const (.slice none 0 0)) (.tmp 29) rfl 4 40 _ Tryz.underlying28 infoGd (by decide) (by first | rfl | simp [tabV_size, Value.cells]) (by decide) gd_ok rfl (ys := I.regs) (by rfl) HRw4.out (by have := HCn.out; unfold memI at this; omega) ?_; intro va4 vc4 w4 HN4 HB4w; have HX4 := Lib.hid (HT4.out.below HB4w.out); have k4 := HX4.out.free 5; obtain ⟨y4, l4⟩ : ∃ y, w4.cell? ⟨W2.heap.size, 5, none⟩ = some y := ⟨_, (HX4.out.cell 5).trans (List.getElem?_eq_getElem (by rw [HX4.out.len]; decide))⟩)
  have HT5 : Hid (Tw I im W3 W2.heap.size W2.heap.size 5 ((o3).set 5 (.slice va4 I.regs.length vc4)) (w4.setCell ⟨W2.heap.size, 5, none⟩ (.slice va4 I.regs.length vc4))) := Lib.hid (HX4.out.next (n := 4) (by decide) rfl (show rowT I 4 _ _ from OwnG.zero HN4.out))
  obtain ⟨o4, ho4⟩ : ∃ o, (o3).set 5 (.slice va4 I.regs.length vc4) = o := ⟨_, rfl⟩
  rw [ho4] at HT5
  generalize w4.setCell ⟨W2.heap.size, 5, none⟩ (.slice va4 I.regs.length vc4) = X4 at HT5 ⊢
  clear k4 l4 HX4 HN4 HB4w HRw4 HT4 e1 e2 e3 e4 e5 e6 e7 e8 e11
  obtain ⟨hbw5, e1, e2, e3, e4, e5, e6, e7, e8, e11⟩ := HBox.out _ _ _ HT5.out
  have HRw5 := Lib.hid (HR6.out _ hbw5)
  clear hbw5
  go_upto_region 8 with (at_builtin; refine wpList_appN (enc := lkE) rfl 29 72 (.const (.slice none 0 0)) (.tmp 33) rfl 5 40 _ Tryz.underlying29 infoCh (by decide) (by first | rfl | simp [tabV_size, Value.cells]) (by decide) lk_ok rfl (ys := I.chs) (by rfl) HRw5.out (by have := HCn.out; unfold memI at this; omega) ?_; intro va5 vc5 w5 HN5 HB5w; have HX5 := Lib.hid (HT5.out.below HB5w.out); have k5 := HX5.out.free 6; obtain ⟨y5, l5⟩ : ∃ y, w5.cell? ⟨W2.heap.size, 6, none⟩ = some y := ⟨_, (HX5.out.cell 6).trans (List.getElem?_eq_getElem (by rw [HX5.out.len]; decide))⟩)
  have HT6 : Hid (Tw I im W3 W2.heap.size W2.heap.size 6 ((o4).set 6 (.slice va5 I.chs.length vc5)) (w5.setCell ⟨W2.heap.size, 6, none⟩ (.slice va5 I.chs.length vc5))) := Lib.hid (HX5.out.next (n := 5) (by decide) rfl (show rowT I 5 _ _ from OwnG.zero HN5.out))
  obtain ⟨o5, ho5⟩ : ∃ o, (o4).set 6 (.slice va5 I.chs.length vc5) = o := ⟨_, rfl⟩
  rw [ho5] at HT6
  generalize w5.setCell ⟨W2.heap.size, 6, none⟩ (.slice va5 I.chs.length vc5) = X5 at HT6 ⊢
  clear k5 l5 HX5 HN5 HB5w HRw5 HT5 e1 e2 e3 e4 e5 e6 e7 e8 e11
  obtain ⟨hbw6, e1, e2, e3, e4, e5, e6, e7, e8, e11⟩ := HBox.out _ _ _ HT6.out
  have HRw6 := Lib.hid (HR7.out _ hbw6)
  clear hbw6
  go_upto_region 9 with (at_builtin; refine wpList_appN (enc := lkE) rfl 29 72 (.const (.slice none 0 0)) (.tmp 37) rfl 5 40 _ Tryz.underlying29 infoCh (by decide) (by first | rfl | simp [tabV_size, Value.cells]) (by decide) lk_ok rfl (ys := I.irqs) (by rfl) HRw6.out (by have := HCn.out; unfold memI at this; omega) ?_; intro va6 vc6 w6 HN6 HB6w; have HX6 := Lib.hid (HT6.out.below HB6w.out); have k6 := HX6.out.free 7; obtain ⟨y6, l6⟩ : ∃ y, w6.cell? ⟨W2.heap.size, 7, none⟩ = some y := ⟨_, (HX6.out.cell 7).trans (List.getElem?_eq_getElem (by rw [HX6.out.len]; decide))⟩)
  have HT7 : Hid (Tw I im W3 W2.heap.size W2.heap.size 7 ((o5).set 7 (.slice va6 I.irqs.length vc6)) (w6.setCell ⟨W2.heap.size, 7, none⟩ (.slice va6 I.irqs.length vc6))) := Lib.hid (HX6.out.next (n := 6) (by decide) rfl (show rowT I 6 _ _ from OwnG.zero HN6.out))
  obtain ⟨o6, ho6⟩ : ∃ o, (o5).set 7 (.slice va6 I.irqs.length vc6) = o := ⟨_, rfl⟩
  rw [ho6] at HT7
  generalize w6.setCell ⟨W2.heap.size, 7, none⟩ (.slice va6 I.irqs.length vc6) = X6 at HT7 ⊢
  clear k6 l6 HX6 HN6 HB6w HRw6 HT6 e1 e2 e3 e4 e5 e6 e7 e8 e11
  obtain ⟨hbw7, e1, e2, e3, e4, e5, e6, e7, e8, e11⟩ := HBox.out _ _ _ HT7.out
  have HRw7 := Lib.hid (HR11.out _ hbw7)
  clear hbw7
  go_upto_region 10 with (at_builtin; refine wpList_appN (enc := tbE) rfl 31 80 (.const (.slice none 0 0)) (.tmp 41) rfl 512 4096 _ Tryz.underlying31 infoTb (by decide) (by first | rfl | simp [tabV_size, Value.cells]) (by decide) tb_ok rfl (ys := I.tabs) (by rfl) HRw7.out (by have := HCn.out; unfold memI at this; omega) ?_; intro va7 vc7 w7 HN7 HB7w; have HX7 := Lib.hid (HT7.out.below HB7w.out); have k7 := HX7.out.free 11; obtain ⟨y7, l7⟩ : ∃ y, w7.cell? ⟨W2.heap.size, 11, none⟩ = some y := ⟨_, (HX7.out.cell 11).trans (List.getElem?_eq_getElem (by rw [HX7.out.len]; decide))⟩)
  have HT8 : Hid (Tw I im W3 W2.heap.size W2.heap.size 8 ((o6).set 11 (.slice va7 I.tabs.length vc7)) (w7.setCell ⟨W2.heap.size, 11, none⟩ (.slice va7 I.tabs.length vc7))) := Lib.hid (HX7.out.next (n := 7) (by decide) rfl (show rowT I 7 _ _ from OwnG.zero HN7.out))
  obtain ⟨o7, ho7⟩ : ∃ o, (o6).set 11 (.slice va7 I.tabs.length vc7) = o := ⟨_, rfl⟩
  rw [ho7] at HT8
  generalize w7.setCell ⟨W2.heap.size, 11, none⟩ (.slice va7 I.tabs.length vc7) = X7 at HT8 ⊢
  clear k7 l7 HX7 HN7 HB7w HRw7 HT7 e1 e2 e3 e4 e5 e6 e7 e8 e11
  have hk8 := HT8.out.free 8
  obtain ⟨y8, l8⟩ : ∃ y, X7.cell? ⟨W2.heap.size, 8, none⟩ = some y := ⟨_, (HT8.out.cell 8).trans (List.getElem?_eq_getElem (by rw [HT8.out.len]; decide))⟩
  have HT9 : Hid (Tw I im W3 W2.heap.size W2.heap.size 8 (o7.set 8 (.slice none 0 0)) (X7.setCell ⟨W2.heap.size, 8, none⟩ (.slice none 0 0))) := Lib.hid (HT8.out.put rfl (by decide) (by decide) (by decide) (Nat.le_refl _) (fun j hj => (idx_in (by omega)).2.2.2.2))
  have HO9 : Hid ((o7.set 8 (.slice none 0 0))[8]? = some (slE1 ⟨none, 0, 0⟩)) := Lib.hid (List.getElem?_set_self (by rw [HT8.out.len]; decide))
  have HP9 : Hid (PlT W2.heap.size (X7.setCell ⟨W2.heap.size, 8, none⟩ (.slice none 0 0)) (slE1 ⟨none, 0, 0⟩) (I.plans.take 0)) := PlT.nil _ _
  obtain ⟨ao, cap, rfl, q1, q2, q3⟩ := HPl.out
  have HRz : Hid (∀ i (h : i < I.plans.length), ∃ b o u, ao = some ⟨b, o, none⟩ ∧ w.cell? ⟨b, o + i * 2, none⟩ = some (.int .i64 I.plans[i].maj) ∧ w.cell? ⟨b, o + i * 2 + 1, none⟩ = some u ∧ LnG w u I.plans[i].lanes) := q3
  unfold maxLen at q2
  clear q3 HPl HT8
  have hnl : I.plans.length ≤ 4000000 := by have := HCn.out; unfold memI at this; omega
  obtain ⟨n, hn⟩ : ∃ n, I.plans.length = n := ⟨_, rfl⟩
  have HN := Lib.hid hn
  rw [hn] at q1 HBox hnl
  clear hn
  go_upto_region 11 with fail
  generalize X7.setCell ⟨W2.heap.size, 8, none⟩ (.slice none 0 0) = X9 at *
  generalize o7.set 8 (.slice none 0 0) = o9 at *
  clear hk8 l8
  go_wp2_with fail
  go_loopw [4] (fun jv wr => ∃ (j : Nat) (om : List Value) (x : SlV), j ≤ n ∧ jv = .int .i64 (j : Int) ∧ Hid (Tw I im W3 W2.heap.size W2.heap.size 8 om wr) ∧ Hid (om[8]? = some (slE1 x)) ∧ Hid (PlT W2.heap.size wr (slE1 x) (I.plans.take j))) (fun jv _ => n - (intOf jv).toNat)
  case atStart => exact ⟨0, o9, ⟨none, 0, 0⟩, Nat.zero_le _, rfl, HT9, HO9, HP9⟩
  case round =>
    clear HT9 HO9 HP9
    obtain ⟨j, om, x, hj, rfl, HT, HO, HP⟩ := hrel
    obtain ⟨hbw, _, _, _, _, _, _, _, e8, _⟩ := HBox.out _ _ _ HT.out
    have HBw := Lib.hid hbw
    clear hbw
    by_cases hjn : j < n
    · have ji : (j : Int) < (n : Int) := by omega
      have hjx : j < I.plans.length := by rw [HN.out]; exact hjn
      have hw1 : IntKind.i64.wrap ((j : Int) + 1) = ((j + 1 : Nat) : Int) := by rw [IntKind.wrap_i64]; omega
      obtain ⟨b, of, u, rfl, z0, z1, zL⟩ := HRz.out j hjx
      obtain ⟨la, lc, rfl, g1, g2, g3⟩ := zL
      have HLn : Hid (∀ k (h : k < I.plans[j].lanes.length), ∃ b o u, la = some ⟨b, o, none⟩ ∧ w.cell? ⟨b, o + k, none⟩ = some u ∧ RowG 2 stE w u I.plans[j].lanes[k]) := g3
      have HC0 : Hid (w.cell? ⟨b, of + j * 2, none⟩ = some (.int .i64 I.plans[j].maj) ∧ w.cell? ⟨b, of + j * 2 + 1, none⟩ = some (.slice la I.plans[j].lanes.length lc)) := ⟨z0, z1⟩
      have HTk : Hid (I.plans.take (j + 1) = I.plans.take j ++ [I.plans[j]]) := List.take_succ_eq_append_getElem hjx
      have HLm : Hid (∀ l ∈ I.plans[j].lanes, l.length ≤ 4000000) := HLl.out _ (List.getElem_mem _)
      have HLr : Hid (I.plans[j].lanes.length ≤ 4000000) := HLk.out _ (List.getElem_mem _)
      clear g3 z0 z1 HRz
      unfold maxLen at g2
      have HTl : Hid ((I.plans.take j).length = j) := show _ = _ by rw [List.length_take]; omega
      generalize I.plans.take j = tk at *
      generalize hpp : I.plans[j] = p at *
      obtain ⟨x0, ls⟩ := p
      simp only at HLn HC0 g1 HLm HLr
      obtain ⟨r, hr⟩ : ∃ r, ls.length = r := ⟨_, rfl⟩
      have HR := Lib.hid hr
      rw [hr] at g1 HC0 HLr
      clear hr hpp
      obtain ⟨WA, hWA⟩ : ∃ x, x = wr := ⟨_, rfl⟩
      subst hWA
      have d0 := cell_low HBw.out HC0.out.1
      obtain ⟨WB, hWB⟩ : ∃ W, W = WA.alloc (.cells #[.int .i64 x0, .slice none 0 0] 78) := ⟨_, rfl⟩
      have HB1w : Hid (Below WA.heap.size WA WB) := by rw [hWB]; exact Lib.hid ((Below.refl _ _).alloc (Nat.le_refl _) _)
      have HPb : Hid (WB.heap[WA.heap.size]? = some (.cells ([.int .i64 x0, slE1 ⟨none, 0, 0⟩] : List Value).toArray 78 (0, 0))) := by rw [hWB]; exact Lib.hid (heap_alloc_new WA _)
      have HL0 : Hid (LaT (WA.heap.size + 1) WB ⟨none, 0, 0⟩ (ls.take 0)) := LaT.nil _ _
      have HWs : Hid (WA.heap.size + 1 ≤ WB.heap.size) := by rw [hWB]; exact Lib.hid (by simp)
      subst hWB
      go_upto_region 15 with fail
      generalize WA.alloc (.cells #[.int .i64 x0, .slice none 0 0] 78) = WB at *
      clear d0 e8
      go_wp2_with fail
      go_loopw [6] (fun kv wr => ∃ (k : Nat) (y : SlV), k ≤ r ∧ kv = .int .i64 (k : Int) ∧ Hid (wr.heap[WA.heap.size]? = some (.cells ([.int .i64 x0, slE1 y] : List Value).toArray 78 (0, 0))) ∧ Hid (LaT (WA.heap.size + 1) wr y (ls.take k)) ∧ Hid (Below WA.heap.size WA wr) ∧ Hid (WA.heap.size + 1 ≤ wr.heap.size)) (fun kv _ => r - (intOf kv).toNat)
      case atStart => exact ⟨0, ⟨none, 0, 0⟩, Nat.zero_le _, rfl, HPb, HL0, HB1w, HWs⟩
      case round =>
        clear HPb HL0 HB1w HWs
        obtain ⟨k, y, hk, rfl, HPb, HLa, HB2, HWs⟩ := hrel
        have HTc := Lib.hid (HT.out.below HB2.out)
        obtain ⟨hbw2, _, _, _, _, _, _, _, e8, _⟩ := HBox.out _ _ _ HTc.out
        have HBw2 := Lib.hid hbw2
        clear hbw2
        have d1 := cell_low HBw2.out HC0.out.2
        by_cases hkr : k < r
        · have jk : (k : Int) < (r : Int) := by omega
          have hkx : k < ls.length := by rw [HR.out]; exact hkr
          have hw2 : IntKind.i64.wrap ((k : Int) + 1) = ((k + 1 : Nat) : Int) := by rw [IntKind.wrap_i64]; omega
          obtain ⟨b2, o2, u2, rfl, z2, zR⟩ := HLn.out k hkx
          have HRl : Hid (∀ W, Below wr.heap.size wr W → RowG 2 stE W u2 ls[k]) := fun W hW => zR.below (HBw2.out.trans (hW.mono HBw2.out.size))
          have d2 := cell_low HBw2.out z2
          have hll := HLm.out ls[k] (List.getElem_mem _)
          have HTk2 : Hid (ls.take (k + 1) = ls.take k ++ [ls[k]]) := List.take_succ_eq_append_getElem hkx
          clear z2 zR
          obtain ⟨us, hus, hT2⟩ := HLa.out
          have HUl : Hid (us.length = k) := show _ = _ by rw [hT2.len, List.length_take]; omega
          have HU := Lib.hid hus
          have HT2 := Lib.hid hT2
          clear hus hT2 HLa
          generalize ls.take k = lk at *
          generalize ls[k] = l at *
          have d3 := box_cell HPb.out 1
          have f3 := box_free HPb.out 1
          simp only [List.getElem?_cons_zero, List.getElem?_cons_succ] at d3
          have HRl0 := Lib.hid (HRl.out wr.drew ⟨rfl, rfl, rfl, Nat.le_refl _, fun _ _ => rfl⟩)
          have HLt : Hid (WA.heap.size < wr.heap.size) := Nat.lt_of_lt_of_le (Nat.lt_succ_self _) HWs.out
          obtain ⟨ya, yn, yc⟩ := y
          simp only [slE1] at d3 HU HPb
          go_wp2_with fail
          go_region_law (first
            | (refine step_appN (enc := stE) (by rfl) 75 74 (.const (.slice none 0 0)) (.tmp 80) rfl 2 16 _ Tryz.underlying75 infoSt (by decide) rfl (by decide) st_ok (ys := l) (by rfl) (by rfl) HRl0.out (by omega) ?_; intro va vc w5 H5 HB5; have HB5w : Hid (Below wr.heap.size wr w5) := (⟨rfl, rfl, rfl, Nat.le_refl _, fun _ _ => rfl⟩ : Below wr.heap.size wr wr.drew).trans HB5.out; have hp5 := (HB5w.out.block _ HLt.out).trans HPb.out; have k5 := box_cell hp5 1; simp only [List.getElem?_cons_zero, List.getElem?_cons_succ] at k5; have HBal : Hid (Below w5.heap.size w5 (w5.alloc (.cells #[.slice va l.length vc] 75))) := (Below.refl _ _).alloc (Nat.le_refl _) _; have hp6 := (HBal.out.block _ (Nat.lt_of_lt_of_le HLt.out HB5w.out.size)).trans hp5; have k6 := box_cell hp6 1; simp only [List.getElem?_cons_zero, List.getElem?_cons_succ] at k6; have HG5 : Hid ((w5.alloc (.cells #[.slice va l.length vc] 75)).heap[w5.heap.size]? = some (.cells (slE ⟨va, l.length, vc⟩).toArray 75 (0, 0))) := heap_alloc_new w5 _; have HB6w : Hid (Below wr.heap.size wr (w5.alloc (.cells #[.slice va l.length vc] 75))) := HB5w.out.trans (HBal.out.mono HB5w.out.size); have HU5 : Hid (OwnG 75 1 slE (w5.alloc (.cells #[.slice va l.length vc] 75)) (WA.heap.size + 1) (.slice ya yn yc) us) := HU.out.below HB6w.out; have HT5 : Hid (T2 (fun u l => OwnG 74 2 stE (w5.alloc (.cells #[.slice va l.length vc] 75)) 0 (slE1 u) l) us lk ∨ True) := .inr trivial; have HX5 : Hid (OwnG 74 2 stE (w5.alloc (.cells #[.slice va l.length vc] 75)) 0 (slE1 ⟨va, l.length, vc⟩) l) := Lib.hid ((OwnG.zero H5.out).below HBal.out); have HP6 := Lib.hid hp6; clear hp5 hp6 H5 HT5)
            | (refine step_appG1 (enc := slE) (x := ⟨va, l.length, vc⟩) (xs := us) (by rfl) 76 75 (.tmp 71) (.tmp 82) rfl 1 24 _ Tryz.underlying76 infoLa (by decide) rfl (by decide) sl_ok (by rfl) HU5.out (by rfl) HG5.out (by rw [HUl.out]; have := HLr.out; omega) (Nat.le_trans HWs.out HB6w.out.size) ?_; intro vb vd w7 H7 HG7; have HB7 : Hid (Below WA.heap.size WA w7) := (HB2.out.trans (HB6w.out.mono (Nat.le_of_lt HLt.out))).grown HG7.out (Nat.le_trans (Nat.le_of_lt HLt.out) HB6w.out.size) (fun k e => Nat.le_of_succ_le ((OwnG.form HU5.out).choose_spec.choose_spec.2.2.2 k e).1); have hp7 : w7.heap[WA.heap.size]? = some (.cells ([.int .i64 x0, .slice ya yn yc] : List Value).toArray 78 (0, 0)) := (HG7.out.block _ (Nat.lt_of_lt_of_le HLt.out HB6w.out.size) (fun e => absurd ((OwnG.form HU5.out).choose_spec.choose_spec.2.2.2 _ e.symm).1 (by omega))).trans HP6.out; have k7 := box_cell hp7 1; simp only [List.getElem?_cons_zero, List.getElem?_cons_succ] at k7; have f7 := box_free hp7 1; have HP7 := Lib.hid hp7; have HS7 : Hid (WA.heap.size + 1 ≤ w7.heap.size) := Nat.le_trans HWs.out (Nat.le_trans HB6w.out.size HG7.out.size); have HL7 : Hid (LaT (WA.heap.size + 1) w7 ⟨vb, us.length + 1, vd⟩ (lk ++ [l])) := Lib.hid (LaT.snoc (v := ⟨ya, yn, yc⟩) HU5.out (HT2.out.imp (fun x y h => h.below HB6w.out)) HX5.out HG7.out H7.out); clear hp7 H7 HG7))
          all_goals
            have HPn : Hid ((w7.setCell ⟨WA.heap.size, 1, none⟩ (.slice vb (us.length + 1) vd)).heap[WA.heap.size]? = some (.cells ([.int .i64 x0, slE1 ⟨vb, us.length + 1, vd⟩] : List Value).toArray 78 (0, 0))) := Lib.hid (box_set HP7.out 1 _)
            have HLn7 : Hid (LaT (WA.heap.size + 1) (w7.setCell ⟨WA.heap.size, 1, none⟩ (.slice vb (us.length + 1) vd)) ⟨vb, us.length + 1, vd⟩ (ls.take (k + 1))) := Lib.hid (by rw [HTk2.out]; exact HL7.out.set ⟨_, HP7.out⟩)
            have HBn : Hid (Below WA.heap.size WA (w7.setCell ⟨WA.heap.size, 1, none⟩ (.slice vb (us.length + 1) vd))) := Lib.hid (HB7.out.setCell (p := ⟨WA.heap.size, 1, none⟩) (Nat.le_refl _) _)
            have HSn : Hid (WA.heap.size + 1 ≤ (w7.setCell ⟨WA.heap.size, 1, none⟩ (.slice vb (us.length + 1) vd)).heap.size) := Lib.hid (by simpa [World.setCell] using HS7.out)
            go_wp2_with fail
            go_roundw
            case rel => exact ⟨k + 1, ⟨vb, us.length + 1, vd⟩, by omega, rfl, HPn, HLn7, HBn, HSn⟩
            case measure => simp [intOf]; omega
        · obtain rfl : k = r := by omega
          have jk : ¬ (k : Int) < (k : Int) := by omega
          have HLs : Hid (LaT (WA.heap.size + 1) wr y ls) := Lib.hid (by
            have h9 := HLa.out
            rw [List.take_of_length_le (by rw [HR.out]; exact Nat.le_refl _)] at h9
            exact h9)
          clear HLa
          obtain ⟨us, hus, hT⟩ := HP.out.below HB2.out
          have HUl : Hid (us.length = j) := show _ = _ by rw [hT.len]; exact HTl.out
          have hc8 := (HTc.out.cell 8).trans HO.out
          have d3 := box_cell HPb.out 0
          have d4 := box_cell HPb.out 1
          simp only [List.getElem?_cons_zero, List.getElem?_cons_succ] at d3 d4
          have HBal : Hid (Below wr.heap.size wr (wr.alloc (.cells #[.int .i64 x0, slE1 y] 78))) := (Below.refl _ _).alloc (Nat.le_refl _) _
          have HG5 : Hid ((wr.alloc (.cells #[.int .i64 x0, slE1 y] 78)).heap[wr.heap.size]? = some (.cells (scE (x0, y)).toArray 78 (0, 0))) := heap_alloc_new wr _
          have HU5 : Hid (OwnG 78 2 scE (wr.alloc (.cells #[.int .i64 x0, slE1 y] 78)) W2.heap.size (slE1 x) us) := hus.below HBal.out
          have HT5 : Hid (T2 (ScO (wr.alloc (.cells #[.int .i64 x0, slE1 y] 78))) us tk) := Lib.hid (hT.imp (fun x y h => h.rz (u := 33) (Rz.of_below HBal.out) (by decide) (by decide)))
          have HX5 : Hid (ScO (wr.alloc (.cells #[.int .i64 x0, slE1 y] 78)) (x0, y) ⟨x0, ls⟩) := ⟨rfl, HLs.out.laO.below HBal.out⟩
          have HTw5 := Lib.hid (HTc.out.below HBal.out)
          have HSz : Hid (W2.heap.size ≤ (wr.alloc (.cells #[.int .i64 x0, slE1 y] 78)).heap.size) := Nat.le_trans HTc.out.le HBal.out.size
          clear hus hT HP HT HTc HPb HLs HBal
          obtain ⟨xa, xn, xc⟩ := x
          obtain ⟨ya, yn, yc⟩ := y
          simp only [slE1] at hc8 d4 HU5 HG5 HTw5 HT5 HX5 HSz
          go_upto_region 13 with (at_builtin; refine wpList_appG (enc := scE) (x := (x0, ⟨ya, yn, yc⟩)) (xs := us) rfl 30 78 (.tmp 86) (.tmp 88) rfl 2 32 _ Tryz.underlying30 infoSc (by decide) rfl (by decide) sc_ok (by rfl) HU5.out (by rfl) HG5.out (by rw [HUl.out]; omega) HSz.out ?_; intro vb vd w7 H7 HG7; have HTw7 := Lib.hid (HTw5.out.grown HG7.out (fun k e => ((OwnG.form HU5.out).choose_spec.choose_spec.2.2.2 k e).imp id And.right)); have f8 := HTw7.out.free 8; have k8 := (HTw7.out.cell 8).trans HO.out)
          have HPn := Lib.hid (PlT.snoc HU5.out HT5.out HX5.out HG7.out H7.out)
          rw [← HTk.out] at HPn
          have HPm : Hid (PlT W2.heap.size (w7.setCell ⟨W2.heap.size, 8, none⟩ (.slice vb (us.length + 1) vd)) (slE1 ⟨vb, us.length + 1, vd⟩) (I.plans.take (j + 1))) := Lib.hid (HPn.out.set ⟨_, HTw7.out.blk⟩)
          have HTn : Hid (Tw I im W3 W2.heap.size W2.heap.size 8 (om.set 8 (.slice vb (us.length + 1) vd)) (w7.setCell ⟨W2.heap.size, 8, none⟩ (.slice vb (us.length + 1) vd))) := Lib.hid (HTw7.out.put rfl (by decide) (by decide) (by decide) (Nat.le_refl _) (fun j hj => (idx_in (by omega)).2.2.2.2))
          have HOn : Hid ((om.set 8 (.slice vb (us.length + 1) vd))[8]? = some (slE1 ⟨vb, us.length + 1, vd⟩)) := Lib.hid (List.getElem?_set_self (by rw [HTw7.out.len]; decide))
          clear HPn H7 HG7 HU5 HT5 HX5 HG5 HTw5
          go_wp2_with fail
          go_roundw
          case rel => exact ⟨j + 1, om.set 8 (.slice vb (us.length + 1) vd), ⟨vb, us.length + 1, vd⟩, by omega, rfl, HTn, HOn, HPm⟩
          case measure => simp [intOf]; omega
    · obtain rfl : j = n := by omega
      have ji : ¬ (j : Int) < (j : Int) := by omega
      rw [List.take_of_length_le (by rw [HN.out]; exact Nat.le_refl _)] at HP
      have HInO := Lib.hid (info_im HT.out.len)
      have HRs2 : Hid (wr.heap[w.heap.size + 1]? = some (.cells im0.toArray 33 (0, 0))) := Lib.hid (((HB3.out.trans (HT.out.fr.mono (Nat.le_refl _))).block (w.heap.size + 1) (by rw [HS2.out]; omega)).trans HRs.out)
      have HOo : Hid (om.toArray.all (·.oneCell') = true) := Lib.hid (by
        rw [Array.all_eq_true_iff_forall_mem]
        intro x hx
        exact HT.out.one x (by simpa using hx))
      have HFin : Hid (∀ W, Keeps (TwK (wr.setRow (w.heap.size + 1) om.toArray)) (wr.setRow (w.heap.size + 1) om.toArray) W → ImA W om I) := fun W hW => HT.out.imAk (TwK.setRow HRs2.out hW) HIA.out HO.out HP.out
      have HRow := Lib.hid (row_set (c' := om.toArray) HRs2.out)
      have HBfin : Hid (Below w.heap.size w (wr.setRow (w.heap.size + 1) om.toArray)) := Lib.hid (HBw.out.trans (below_setRow _ _ _ _ (Nat.le_succ _)))
      have HLo := Lib.hid HT.out.len
      have HBl := Lib.hid HT.out.blk
      go_wp2_with (first
        | (refine wpList_load_arr rfl 33 (.tmp 3) rfl (b := W2.heap.size) (g := om.toArray) rfl HBl.out Tryz.underlying33 rfl HInO.out ?_)
        | (refine wpList_store_arr rfl 33 (.tmp 2) (.tmp 91) rfl (b := w.heap.size + 1) (Z := im0.toArray) (g := om.toArray) rfl rfl rfl HRs2.out HInO.out (by rw [List.size_toArray, List.size_toArray, HLo.out]; rfl) HOo.out ?_))
      generalize wr.setRow (w.heap.size + 1) om.toArray = WZ at *
      obtain ⟨a0, a1, a2, a3, a4, a5, a6, a7, a8, a9, b0, b1, rfl⟩ := list12 HLo.out
      have g0 := box_cell HRow.out 0
      have g1 := box_cell HRow.out 1
      have g2 := box_cell HRow.out 2
      have g3 := box_cell HRow.out 3
      have g4 := box_cell HRow.out 4
      have g5 := box_cell HRow.out 5
      have g6 := box_cell HRow.out 6
      have g7 := box_cell HRow.out 7
      have g8 := box_cell HRow.out 8
      have g9 := box_cell HRow.out 9
      have g10 := box_cell HRow.out 10
      have g11 := box_cell HRow.out 11
      simp only [List.getElem?_cons_zero, List.getElem?_cons_succ] at g0 g1 g2 g3 g4 g5 g6 g7 g8 g9 g10 g11
      refine bodyPost_ret (v := .agg ([a0, a1, a2, a3, a4, a5, a6, a7, a8, a9, b0, b1] : List Value).toArray) (by simp [results, Tryz.results15, go_sem, g0, g1, g2, g3, g4, g5, g6, g7, g8, g9, g10, g11]) rfl ?_
      exact ⟨_, rfl, HFin.out, HBfin.out⟩
end Go.Proofs.YtmfkggngjeolcaaGreatDoor
