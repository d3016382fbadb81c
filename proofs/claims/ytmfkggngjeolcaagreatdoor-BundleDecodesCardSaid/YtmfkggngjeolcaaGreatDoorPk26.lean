import Derived.Test.YtmfkggngjeolcaaGreatDoorPk25
import Derived.Deep.DeepCutAuto
import Derived.Deep.CutBlock
import Derived.Test.YtmfkggngjeolcaaGreatDoorPk21
import Derived.BigQuiet
set_option linter.unusedSimpArgs false
set_option linter.unusedVariables false
set_option maxHeartbeats 8000000
set_option maxRecDepth 100000
namespace Go.Proofs.YtmfkggngjeolcaaGreatDoor
open Go.RowKit Bn
namespace Ek
def fitD (sz : Nat) (k : Int) : Bool := decide (0 ≤ k) && decide (k ≤ (gN sz : Int))
def mD (sz : Nat) (k : Int) : Nat := if fitD sz k = true then k.toNat else 0
def numD (sz : Nat) (k : Int) (s : S) : S := (s.1 ++ Pl.le sz (mD sz k), fieldF s.2 (fitD sz k))
def noneD (k : Int) (s : S) : S := numD 2 (if k = -1 then 65535 else if 65534 < k then -1 else k) s
def flagD (b : Bool) (s : S) : S := numD 1 (if b = true then 1 else 0) s
def manyD (n : Nat) (s : S) : S := zerosS 6 (numD 2 (n : Int) s)
end Ek
open Ek
def FkS (B : Nat) (w : World) (k : Nat) : Prop := B ≤ k ∧ (Tagd w 101 k ∨ Tagd w 5 k)
def Fk (B : Nat) (w w' : World) : Prop := Keeps (FkS B w) w w'
theorem Fk.refl (B : Nat) (w : World) : Fk B w w := Keeps.refl _ _
theorem Fk.trans {B : Nat} {a b c : World} (h : Fk B a b) (k : Fk B b c) : Fk B a c := by
 refine ⟨k.os.trans h.os, k.tape.trans h.tape, k.output.trans h.output, Nat.le_trans h.size k.size, fun i hi hn => ?_⟩;have e := h.block i hi hn;refine (k.block i (Nat.lt_of_lt_of_le hi h.size) (fun hs => hn ?_)).trans e;obtain ⟨h0, hs⟩ := hs;have tg : ∀ t, Tagd b t i → Tagd a t i := fun t ⟨cur, hc⟩ => ⟨cur, e.symm.trans hc⟩
 exact ⟨h0, hs.imp (tg _) (tg _)⟩
theorem Fk.of_below {B : Nat} {w w' : World} (h : Below w.heap.size w w') : Fk B w w' := Keeps.of_below h
theorem Fk.below {B : Nat} {w w' : World} (h : Fk B w w') (hB : B ≤ w.heap.size) : Below B w w' := Keeps.below h hB (fun k hk e => e.1)
theorem Fk.block' {B : Nat} {w w' : World} (h : Fk B w w') {t : TypeId} {g : Nat} (hg : Tagd w t g) (hl : g < w.heap.size) (h1 : t ≠ 101) (h2 : t ≠ 5) : w'.heap[g]? = w.heap[g]? := Keeps.block h g hl (by
 rintro ⟨_, e | e⟩
 ·exact h1 (tag_same hg e)
 ·exact h2 (tag_same hg e))
structure Lv (B kb : Nat) (w0 : World) (v : Value) (s : S) (w : World) : Prop where
 blk : w.heap[kb]? = some (.cells #[v, .int .i64 s.2] 101 (0, 0))
 own : Own w B v s.1
 ne : v.ownBlock ≠ some kb
 sm : ∀ z ∈ s.1, z < 256
 no : s.2 = 0 ∨ s.2 = 132
 hB : B ≤ kb
 hw : B ≤ w0.heap.size
 fr : Fk B w0 w
def Ld (B kb : Nat) (w0 : World) (s : S) (w : World) : Prop := ∃ v, Lv B kb w0 v s w
section
variable {B kb : Nat} {w0 : World} {v : Value} {s : S} {w : World}
theorem Lv.lt (h : Lv B kb w0 v s w) : kb < w.heap.size := (Array.getElem?_eq_some_iff.1 h.blk).1
theorem Lv.le (h : Lv B kb w0 v s w) : B ≤ w.heap.size := by have := h.lt; have := h.hB; omega
theorem Ld.le (h : Ld B kb w0 s w) : B ≤ w.heap.size := by obtain ⟨v, h⟩ := h; exact h.le
theorem Ld.fr (h : Ld B kb w0 s w) : Fk B w0 w := by obtain ⟨v, h⟩ := h; exact Lv.fr h
theorem Lv.bl (h : Lv B kb w0 v s w) : Below B w0 w := h.fr.below h.hw
theorem Ld.bl (h : Ld B kb w0 s w) : Below B w0 w := by obtain ⟨v, h⟩ := h; exact Lv.bl h
theorem own_tag {xs : List Nat} (h : Own w B v xs) : ∀ k, v.ownBlock = some k → B ≤ k ∧ Tagd w 5 k := by
 rcases h.2 with ⟨rfl, h0⟩ | ⟨g, cap, cur, rfl, hb, hg, _⟩
 ·intro k e; cases e
 ·intro k e; cases e; exact ⟨hb, cur, hg⟩
theorem Lv.cell0 (h : Lv B kb w0 v s w) : w.cell? ⟨kb, 0, none⟩ = some v := by rw [cell_of_row _ _ 0 _ _ _ h.blk]; rfl
theorem Lv.cell1 (h : Lv B kb w0 v s w) : w.cell? ⟨kb, 1, none⟩ = some (.int .i64 s.2) := by rw [cell_of_row _ _ 1 _ _ _ h.blk]; rfl
theorem Lv.free (h : Lv B kb w0 v s w) (i : Nat) : w.frozen? ⟨kb, i, none⟩ = false := by simp [World.frozen?, h.blk]
theorem Lv.below {w' : World} (h : Lv B kb w0 v s w) (hb : Below w.heap.size w w') : Lv B kb w0 v s w' :=
 ⟨(hb.block kb h.lt).trans h.blk, h.own.below hb, h.ne, h.sm, h.no, h.hB, h.hw, h.fr.trans (Fk.of_below hb)⟩
theorem Ld.below {w' : World} (h : Ld B kb w0 s w) (hb : Below w.heap.size w w') : Ld B kb w0 s w' := by
 obtain ⟨v, h⟩ := h;exact ⟨v, Lv.below h hb⟩
theorem Lv.here (h : Lv B kb w0 v s w) : Lv B kb w v s w := ⟨h.blk, h.own, h.ne, h.sm, h.no, h.hB, h.le, Fk.refl _ _⟩
theorem Lv.since {w1 : World} (h : Lv B kb w v s w1) (k : Fk B w0 w) (hw : B ≤ w0.heap.size) : Lv B kb w0 v s w1 := ⟨h.blk, h.own, h.ne, h.sm, h.no, h.hB, hw, k.trans h.fr⟩
theorem Lv.refuse (h : Lv B kb w0 v s w) : Lv B kb w0 v (s.1, 132) (w.setCell ⟨kb, 1, none⟩ (.int .i64 132)) := by
 refine ⟨?_, ?_, h.ne, h.sm, .inr rfl, h.hB, h.hw, h.fr.trans (Keeps.mono (Keeps.setCell w kb 1 _) (fun k _ e => by subst e; exact ⟨h.hB, .inl ⟨_, h.blk⟩⟩))⟩
 ·simp only [World.setCell, Array.getElem?_modify];rw [if_pos trivial, h.blk];simp
 ·exact h.own.keeps (Keeps.setCell w kb 1 _) (fun k hk e => h.ne (by rw [hk, e]))
theorem Lv.after {w1 : World} (h : Lv B kb w0 v s w) (hg : w.grownBy w1 v.ownBlock) : w1.heap[kb]? = some (.cells #[v, .int .i64 s.2] 101 (0, 0)) :=
 (hg.block kb h.lt (fun e => h.ne e.symm)).trans h.blk
theorem Lv.stored {w1 : World} {v' : Value} {ys : List Nat} (h : Lv B kb w0 v s w) (ho : Own w1 B v' (s.1 ++ ys)) (hg : w.grownBy w1 v.ownBlock) (ha : v'.ownBlock = v.ownBlock ∨ v'.ownBlock = some w.heap.size) (hy : ∀ z ∈ ys, z < 256) : Ld B kb w0 (s.1 ++ ys, s.2) (w1.setCell ⟨kb, 0, none⟩ v') := by
 have hne : v'.ownBlock ≠ some kb := by
  rcases ha with e | e
  ·rw [e]; exact h.ne
  ·rw [e];intro e2;have := h.lt;simp only [Option.some.injEq] at e2;omega
 refine ⟨v', ?_, ?_, hne, fun z hz => (List.mem_append.1 hz).elim (h.sm z) (hy z), h.no, h.hB, h.hw, (h.fr.trans (Keeps.mono (Keeps.of_grown hg) (fun k _ e => ⟨(own_tag h.own k e).1, .inr (own_tag h.own k e).2⟩))).trans (Keeps.mono (Keeps.setCell w1 kb 0 _) (fun k _ e => by subst e; exact ⟨h.hB, .inl ⟨_, h.after hg⟩⟩))⟩
 ·simp only [World.setCell, Array.getElem?_modify];rw [if_pos trivial, h.after hg];simp
 ·exact ho.keeps (Keeps.setCell w1 kb 0 _) (fun k hk e => hne (by rw [hk, e]))
end
theorem step_callQ {P : Program} {ops : Array Oper} {o : Oper} {a : Act} {w : World} {K : Act → World → Prop} {Q : Exit → Act → World → Prop} {E : Prop} (hw : Region.wanted o (yielded ops a.tmps) = true)
  (f : FuncId) (xs : Array Operand) (ats : Array TypeId) (ho : o.op = .call { callee := .value (.func f), args := xs, argTypes := ats }) (he : Enters P f) (args : Array Value) (hargs : #[] ++ xs.map a.eval ++ #[] = args) {R : Value → World → Prop}
  (hc : Calls P f args w fun e w' => ∃ v, e = .returned v ∧ R v w') (hK : ∀ v w', R v w' → K (a.put o.dst v) w') :
  if Region.wanted o (yielded ops a.tmps) = true then Oper.wp P o a w K Q else E := by
 rw [if_pos hw];have e1 : execOp a.eval o = callFunc f args := by
  cases o
  simp only at ho;subst ho;rw [← hargs]
  rfl
 unfold Oper.wp;rw [e1, he args w];rw [Oper.upon_enter];refine hc.mono ?_;rintro e w' ⟨v, rfl, hr⟩;exact hK v w' hr
section
variable {B kb : Nat} {w0 : World} {s : S} {w : World}
end
end Go.Proofs.YtmfkggngjeolcaaGreatDoor
namespace Go.Proofs.YtmfkggngjeolcaaGreatDoor
open Go.RowKit Bn Ek
section
variable {B kb : Nat} {w0 : World} {s : S} {w : World}
end
end Go.Proofs.YtmfkggngjeolcaaGreatDoor
namespace Go.Proofs.YtmfkggngjeolcaaGreatDoor
open Go.RowKit Bn
theorem quiet_load_ty {o : Oper} {a : Act} {C : World → Prop} {K : Act → Prop} (ty : TypeId) (x : Operand) (ho : o.op = .load ty x) {p V : Value} (hx : a.eval x = p) (hl : ∀ w, C w → (Instr.loadAt ty p).run Tryz.prog w = .ok V w) (hk : ∀ a', a.put o.dst V = a' → K a') : o.quiet Tryz.prog a C K :=
 ⟨V, fun w hw => by
  unfold Oper.quietAt execOp;simp only [ho, hx, Sem.run_bind, Sem.run_pure, Result.andThen_ok, hl w hw];exact ⟨rfl, rfl⟩, hk _ rfl⟩
theorem quiet_neq_ty {o : Oper} {a : Act} {C : World → Prop} {K : Act → Prop} (ty : TypeId) (x y : Operand) {t' : TypeId} (ho : o.op = .binOp .neq ty x y t') {V U : Value} {A B : Array Value} {r : Bool} (hV : V = .agg A) (hU : U = .agg B) (hg : Tryz.prog.eqGuardType Tryz.prog.depth ty = false) (hn : ∀ w, (binOp .neq ty (.agg A) (.agg B)).run Tryz.prog w = .ok (.bool r) w) (hx : a.eval x = V) (hy : a.eval y = U) (hk : ∀ a', a.put o.dst (.bool r) = a' → K a') : o.quiet Tryz.prog a C K :=
 ⟨_, fun w hw => by
  subst hV hU;have hgd : (eqGuard .neq ty x y (.agg A) (.agg B)).run Tryz.prog w = .ok () w := run_eqGuard_agg w _ _ _ _ _ _ hg;unfold Oper.quietAt execOp;simp only [ho, hx, hy, Sem.run_bind, Sem.run_pure, Result.andThen_ok, hgd, hn];exact ⟨rfl, rfl⟩, hk _ rfl⟩
theorem list_eq_of {α : Type} {xs ys : List α} (hl : xs.length = ys.length) (h : ∀ i (h1 : i < xs.length) (h2 : i < ys.length), xs[i] = ys[i]) : xs = ys := List.ext_getElem hl (fun i h1 h2 => h i h1 h2)
theorem lk_load {w : World} {b o : Nat} {x : Lk} (h : ∀ j, j < 5 → w.cell? ⟨b, o + j, none⟩ = (lkE x)[j]?) : (Instr.loadAt 72 (.pointer (some ⟨b, o, none⟩))).run Tryz.prog w = .ok (.agg (lkE x).toArray) w := by
 have hS : Tryz.prog.underlying 72 = some (.struct (Tryz.prog.fieldsOf 72)) := by kernel_rfl
 have hz : (Tryz.prog.info? 72).map (·.size) = some 5 := by kernel_rfl
 have := run_loadAt_mid (P := Tryz.prog) w b o 72 (lkE x) _ (fun j v hv => by
  have hj : j < 5 := (List.getElem?_eq_some_iff.1 hv).1;rw [h j hj, hv]) hS rfl hz
 simpa using this
theorem lk_iff (x y : Lk) : (x.fr = y.fr ∧ x.to = y.to ∧ x.eff = y.eff ∧ x.vec = y.vec ∧ x.msk = y.msk) ↔ x = y := by
 constructor
 ·intro h
  cases x
  cases y
  simp at h
  simp [h]
 ·intro h;subst h;simp
theorem rg_load {w : World} {b o : Nat} {x : Rg} (h : ∀ j, j < 2 → w.cell? ⟨b, o + j, none⟩ = (rgE x)[j]?) : (Instr.loadAt 64 (.pointer (some ⟨b, o, none⟩))).run Tryz.prog w = .ok (.agg (rgE x).toArray) w := by
 have hS : Tryz.prog.underlying 64 = some (.struct (Tryz.prog.fieldsOf 64)) := by kernel_rfl
 have hz : (Tryz.prog.info? 64).map (·.size) = some 2 := by kernel_rfl
 have := run_loadAt_mid (P := Tryz.prog) w b o 64 (rgE x) _ (fun j v hv => by
  have hj : j < 2 := (List.getElem?_eq_some_iff.1 hv).1;rw [h j hj, hv]) hS rfl hz
 simpa using this
theorem rg_iff (x y : Rg) : (x.1 = y.1 ∧ x.2 = y.2) ↔ x = y := by
 constructor
 ·intro h
  cases x
  cases y
  simp at h
  simp [h]
 ·intro h;subst h;simp
theorem tn_load {w : World} {b o : Nat} {x : Tn} (h : ∀ j, j < 6 → w.cell? ⟨b, o + j, none⟩ = (tnE x)[j]?) : (Instr.loadAt 66 (.pointer (some ⟨b, o, none⟩))).run Tryz.prog w = .ok (.agg (tnE x).toArray) w := by
 have hS : Tryz.prog.underlying 66 = some (.struct (Tryz.prog.fieldsOf 66)) := by kernel_rfl
 have hz : (Tryz.prog.info? 66).map (·.size) = some 6 := by kernel_rfl
 have := run_loadAt_mid (P := Tryz.prog) w b o 66 (tnE x) _ (fun j v hv => by
  have hj : j < 6 := (List.getElem?_eq_some_iff.1 hv).1;rw [h j hj, hv]) hS rfl hz
 simpa using this
theorem tn_iff (x y : Tn) : (x.cpu = y.cpu ∧ x.root = y.root ∧ x.st = y.st ∧ x.rule = y.rule ∧ x.to = y.to ∧ x.vec = y.vec) ↔ x = y := by
 constructor
 ·intro h
  cases x
  cases y
  simp at h
  simp [h]
 ·intro h;subst h;simp
theorem po_load {w : World} {b o : Nat} {x : Int} (h : ∀ j, j < 1 → w.cell? ⟨b, o + j, none⟩ = (poE x)[j]?) : (Instr.loadAt 68 (.pointer (some ⟨b, o, none⟩))).run Tryz.prog w = .ok (.agg (poE x).toArray) w := by
 have hS : Tryz.prog.underlying 68 = some (.struct (Tryz.prog.fieldsOf 68)) := by kernel_rfl
 have hz : (Tryz.prog.info? 68).map (·.size) = some 1 := by kernel_rfl
 have := run_loadAt_mid (P := Tryz.prog) w b o 68 (poE x) _ (fun j v hv => by
  have hj : j < 1 := (List.getElem?_eq_some_iff.1 hv).1;rw [h j hj, hv]) hS rfl hz
 simpa using this
theorem po_iff (x y : Int) : (x = y) ↔ x = y := Iff.rfl
theorem gd_load {w : World} {b o : Nat} {x : Gd} (h : ∀ j, j < 4 → w.cell? ⟨b, o + j, none⟩ = (gdE x)[j]?) : (Instr.loadAt 70 (.pointer (some ⟨b, o, none⟩))).run Tryz.prog w = .ok (.agg (gdE x).toArray) w := by
 have hS : Tryz.prog.underlying 70 = some (.struct (Tryz.prog.fieldsOf 70)) := by kernel_rfl
 have hz : (Tryz.prog.info? 70).map (·.size) = some 4 := by kernel_rfl
 have := run_loadAt_mid (P := Tryz.prog) w b o 70 (gdE x) _ (fun j v hv => by
  have hj : j < 4 := (List.getElem?_eq_some_iff.1 hv).1;rw [h j hj, hv]) hS rfl hz
 simpa using this
theorem gd_iff (x y : Gd) : (x.ad = y.ad ∧ x.sz = y.sz ∧ x.fill = y.fill ∧ x.txt = y.txt) ↔ x = y := by
 constructor
 ·intro h
  cases x
  cases y
  simp at h
  simp [h]
 ·intro h;subst h;simp
theorem st_load {w : World} {b o : Nat} {x : (Int × Int)} (h : ∀ j, j < 2 → w.cell? ⟨b, o + j, none⟩ = (stE x)[j]?) : (Instr.loadAt 74 (.pointer (some ⟨b, o, none⟩))).run Tryz.prog w = .ok (.agg (stE x).toArray) w := by
 have hS : Tryz.prog.underlying 74 = some (.struct (Tryz.prog.fieldsOf 74)) := by kernel_rfl
 have hz : (Tryz.prog.info? 74).map (·.size) = some 2 := by kernel_rfl
 have := run_loadAt_mid (P := Tryz.prog) w b o 74 (stE x) _ (fun j v hv => by
  have hj : j < 2 := (List.getElem?_eq_some_iff.1 hv).1;rw [h j hj, hv]) hS rfl hz
 simpa using this
theorem st_iff (x y : (Int × Int)) : (x.1 = y.1 ∧ x.2 = y.2) ↔ x = y := by
 constructor
 ·intro h
  cases x
  cases y
  simp at h
  simp [h]
 ·intro h;subst h;simp
theorem sameLinksX {w : World} {u v : Value} {xs ys : List Lk} (hu : RowG 5 lkE w u xs) (hv : RowG 5 lkE w v ys) : Calls Tryz.prog 45 #[u, v] w fun e w' => ∃ r : Bool, e = .returned (.bool r) ∧ (r = true ↔ xs = ys) ∧ Below w.heap.size w w' := by
 have HU := Lib.hid hu;have HV := Lib.hid hv;obtain ⟨ao, cap, rfl, h1, h2, _⟩ := hu;obtain ⟨bo, bap, rfl, g1, g2, _⟩ := hv;unfold maxLen at h2 g2;obtain ⟨n, hn⟩ : ∃ n, xs.length = n := ⟨_, rfl⟩
 obtain ⟨m, hm⟩ : ∃ m, ys.length = m := ⟨_, rfl⟩
 have HN := Lib.hid hn;have HM := Lib.hid hm;rw [hn] at h1 HU ⊢;rw [hm] at g1 HV ⊢;clear hn hm;have HB0 : Hid (Below w.heap.size w w) := Below.refl _ _
 by_cases hnm : n = m
 ·subst hnm;go_enter Tryz.func45, Tryz.ntmps45
  go_wp2_with fail
  go_loopw [5] (fun iv wr => ∃ i : Nat, i ≤ n ∧ iv = .int .i64 (i : Int) ∧ Hid (∀ j (h1 : j < xs.length) (h2 : j < ys.length), j < i → xs[j] = ys[j]) ∧ Hid (Below w.heap.size w wr)) (fun iv _ => n - (intOf iv).toNat)
  case atStart => exact ⟨0, by omega, rfl, (fun j _ _ h => absurd h (Nat.not_lt_zero _)), HB0⟩
  case round =>
   clear HB0;obtain ⟨i, hi, rfl, HEq, HB⟩ := hrel
   by_cases hin : i < n
   ·have ji : (i : Int) < (n : Int) := by omega
    have hix : i < xs.length := by rw [HN.out]; exact hin
    have hiy : i < ys.length := by rw [HM.out]; exact hin
    have hw1 : IntKind.i64.wrap ((i : Int) + 1) = ((i + 1 : Nat) : Int) := by rw [IntKind.wrap_i64]; omega
    obtain ⟨_, _, e', _, _, hc⟩ := HU.out.below HB.out;simp only [Value.slice.injEq] at e';obtain ⟨rfl, e9, rfl⟩ := e';clear e9;obtain ⟨b, of, rfl, _, hc⟩ := hc i hix;obtain ⟨_, _, e', _, _, hd⟩ := HV.out.below HB.out;simp only [Value.slice.injEq] at e';obtain ⟨rfl, e9, rfl⟩ := e';clear e9;obtain ⟨b', of', rfl, _, hd⟩ := hd i hiy;have HNx : Hid (xs[i] = ys[i] → ∀ j (h1 : j < xs.length) (h2 : j < ys.length), j < i + 1 → xs[j] = ys[j]) := fun e j h1 h2 h3 => by
     by_cases h : j = i
     ·subst h; exact e
     ·exact HEq.out j h1 h2 (by omega)
    have HNo : Hid (xs[i] ≠ ys[i] → ¬ xs = ys) := fun e h => e (by subst h; rfl);generalize xs[i] = x at *;generalize ys[i] = y at *;obtain ⟨T1, hT1⟩ : ∃ T1, Value.agg (lkE x).toArray = T1 := ⟨_, rfl⟩
    obtain ⟨T2, hT2⟩ : ∃ T2, Value.agg (lkE y).toArray = T2 := ⟨_, rfl⟩
    have l1 : ∀ k, (Instr.loadAt 72 (.pointer (some ⟨b, of + i * 5, none⟩))).run Tryz.prog (wr.drewN k) = .ok T1 (wr.drewN k) := fun k => by
     rw [← hT1];exact lk_load (w := wr.drewN k) hc
    have l2 : ∀ k, (Instr.loadAt 72 (.pointer (some ⟨b', of' + i * 5, none⟩))).run Tryz.prog (wr.drewN k) = .ok T2 (wr.drewN k) := fun k => by
     rw [← hT2];exact lk_load (w := wr.drewN k) hd
    have HT1 := Lib.hid hT1.symm;have HT2 := Lib.hid hT2.symm;clear hT1 hT2 hc hd
    by_cases hxy : x = y
    ·have HNq : Hid (∀ w, (binOp .neq 72 (.agg (lkE x).toArray) (.agg (lkE y).toArray)).run Tryz.prog w = .ok (.bool false) w) := fun w => by
      rw [lk_neq, decide_eq_true ((lk_iff x y).2 hxy)]
      rfl
     have HNz := Lib.hid (HNx.out hxy);go_upto_region 6 with fail
     refine wp_region_quiet_lit (by kernel_rfl) (by kernel_rfl) ?_;go_big_quiet_step (fail)
     go_big_quiet_step (fail)
     go_big_quiet_step (fail)
     go_big_quiet_want
     refine quiet_load_ty 72 (.tmp 19) rfl rfl (fun W hW => by obtain ⟨k, rfl⟩ := hW; exact l1 k) ?_;intro a' ha';simp only [Act.put, List.setIfInBounds_toArray, List.set_cons_succ, List.set_cons_zero] at ha';subst ha';go_big_quiet_on
     go_big_quiet_step (fail)
     go_big_quiet_step (fail)
     go_big_quiet_step (fail)
     go_big_quiet_want
     refine quiet_load_ty 72 (.tmp 23) rfl rfl (fun W hW => by obtain ⟨k, rfl⟩ := hW; exact l2 k) ?_;intro a' ha';simp only [Act.put, List.setIfInBounds_toArray, List.set_cons_succ, List.set_cons_zero] at ha';subst ha';go_big_quiet_on
     go_big_quiet_want
     refine quiet_neq_ty 72 (.tmp 20) (.tmp 24) rfl HT1.out HT2.out lk_guard HNq.out rfl rfl ?_;intro a' ha';simp only [Act.put, List.setIfInBounds_toArray, List.set_cons_succ, List.set_cons_zero] at ha';subst ha';go_big_quiet_on
     refine wpQuiet_nil ?_;intro W1 hw1';obtain ⟨nq, hw2'⟩ := hw1';subst hw2';have HB1 : Hid (Below w.heap.size w (wr.drewN nq)) := HB.out.trans ⟨rfl, rfl, rfl, Nat.le_refl _, fun _ _ => rfl⟩;clear HB l1 l2;generalize (wr.drewN nq) = W1 at *;go_wp2_with fail
     go_roundw
     case rel => exact ⟨i + 1, by omega, rfl, HNz, HB1⟩
     case measure => simp [intOf]; omega
    ·have HNq : Hid (∀ w, (binOp .neq 72 (.agg (lkE x).toArray) (.agg (lkE y).toArray)).run Tryz.prog w = .ok (.bool true) w) := fun w => by
      rw [lk_neq, decide_eq_false (fun h => hxy ((lk_iff x y).1 h))]
      rfl
     have HNz := Lib.hid (HNo.out hxy);go_upto_region 6 with fail
     refine wp_region_quiet_lit (by kernel_rfl) (by kernel_rfl) ?_;go_big_quiet_step (fail)
     go_big_quiet_step (fail)
     go_big_quiet_step (fail)
     go_big_quiet_want
     refine quiet_load_ty 72 (.tmp 19) rfl rfl (fun W hW => by obtain ⟨k, rfl⟩ := hW; exact l1 k) ?_;intro a' ha';simp only [Act.put, List.setIfInBounds_toArray, List.set_cons_succ, List.set_cons_zero] at ha';subst ha';go_big_quiet_on
     go_big_quiet_step (fail)
     go_big_quiet_step (fail)
     go_big_quiet_step (fail)
     go_big_quiet_want
     refine quiet_load_ty 72 (.tmp 23) rfl rfl (fun W hW => by obtain ⟨k, rfl⟩ := hW; exact l2 k) ?_;intro a' ha';simp only [Act.put, List.setIfInBounds_toArray, List.set_cons_succ, List.set_cons_zero] at ha';subst ha';go_big_quiet_on
     go_big_quiet_want
     refine quiet_neq_ty 72 (.tmp 20) (.tmp 24) rfl HT1.out HT2.out lk_guard HNq.out rfl rfl ?_;intro a' ha';simp only [Act.put, List.setIfInBounds_toArray, List.set_cons_succ, List.set_cons_zero] at ha';subst ha';go_big_quiet_on
     refine wpQuiet_nil ?_;intro W1 hw1';obtain ⟨nq, hw2'⟩ := hw1';subst hw2';have HB1 : Hid (Below w.heap.size w (wr.drewN nq)) := HB.out.trans ⟨rfl, rfl, rfl, Nat.le_refl _, fun _ _ => rfl⟩;clear HB l1 l2;generalize (wr.drewN nq) = W1 at *;go_wp2_with fail
     go_ret
     first | exact .inl ⟨rfl, HNz.out, HB1.out⟩ | exact .inl ⟨HNz.out, HB1.out⟩ | exact ⟨false, rfl, ⟨(fun h => by cases h), fun h => absurd h HNz.out⟩, HB1.out⟩
   ·have ji : ¬ (i : Int) < (n : Int) := by omega
    have HFin : Hid (xs = ys) := list_eq_of (by rw [HN.out, HM.out]) (fun j h1 h2 => HEq.out j h1 h2 (by rw [HN.out] at h1; omega));go_wp2_with fail
    go_ret
    first | exact .inr ⟨rfl, HFin.out, HB.out⟩ | exact .inr ⟨HFin.out, HB.out⟩ | exact ⟨true, rfl, ⟨fun _ => HFin.out, fun _ => rfl⟩, HB.out⟩
 ·have jn : ¬ (n : Int) = (m : Int) := by omega
  have HNe : Hid (¬ xs = ys) := fun h => hnm (by rw [← HN.out, ← HM.out, h]);go_enter Tryz.func45, Tryz.ntmps45
  go_wp2_with fail
  go_ret
  first | exact .inl ⟨rfl, HNe.out, HB0.out⟩ | exact .inl ⟨HNe.out, HB0.out⟩ | exact ⟨false, rfl, ⟨(fun h => by cases h), fun h => absurd h HNe.out⟩, HB0.out⟩
end Go.Proofs.YtmfkggngjeolcaaGreatDoor
