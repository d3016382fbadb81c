/- Bundle, after PgTab, PgBytes: Pages: a table (an array of 512 numbers) by value and in a block of its own (after the points of SpPts, SpMark, SpEq). Own work. -/
import Derived.Test.YtinjhgimhboigaaDoorBnPlan
import Derived.WalkKit
import Derived.WalkSpells
import Derived.WalkLawsBesides
import Derived.Deep.WholeRow
import Derived.Deep.MidRow
import Derived.Laws.ResultCell
import Derived.Deep.RegionHeld3
import Derived.Shelf.Abstract
import Derived.ChangeKeysEq
import Derived.Laws.StructEq
import Derived.Lib.Hide
namespace Go.Proofs.YtinjhgimhboigaaDoor
open Go.RowKit Go.Shelf
/-- the points as the array's cells -/
def tabV (f : Nat → Nat) : Array Value := ((List.range 512).map fun i => Value.int .u64 (f i : Int)).toArray
theorem tabV_size (f : Nat → Nat) : (tabV f).size = 512 := by simp [tabV]
theorem tabV_get (f : Nat → Nat) {i : Nat} (h : i < 512) : (tabV f)[i]? = some (.int .u64 (f i : Int)) := by
  simp [tabV, h]
theorem tabV_ext {f g : Nat → Nat} (h : ∀ i, i < 512 → f i = g i) : tabV f = tabV g := by
  unfold tabV
  rw [List.map_congr_left fun i hi => by rw [h i (List.mem_range.1 hi)]]
theorem tabV_one (f : Nat → Nat) : (tabV f).all (·.oneCell') = true := by
  rw [Array.all_eq_true_iff_forall_mem]
  intro v hv
  simp only [tabV, List.mem_toArray, List.mem_map] at hv
  obtain ⟨i, _, rfl⟩ := hv
  rfl
def setT (f : Nat → Nat) (p : Nat) (v : Nat) : Nat → Nat := fun q => if q = p then v else f q
theorem tabV_set (f : Nat → Nat) {p : Nat} (h : p < 512) (v : Nat) : (tabV f).setIfInBounds p (.int .u64 (v : Int)) = tabV (setT f p v) := by
  apply Array.ext_getElem?
  intro i
  rw [Array.getElem?_setIfInBounds, tabV_size]
  by_cases e : p = i
  · subst e
    simp [h, tabV_get, setT]
  · rw [if_neg e]
    by_cases hi : i < 512
    · rw [tabV_get _ hi, tabV_get _ hi]
      simp [setT, show i ≠ p from fun a => e a.symm]
    · rw [Array.getElem?_eq_none (by rw [tabV_size]; omega), Array.getElem?_eq_none (by rw [tabV_size]; omega)]

/-- a block of points -/
def TabAt (w : World) (b : Nat) (f : Nat → Nat) : Prop := w.heap[b]? = some (.cells (tabV f) 59 (0, 0))
theorem TabAt.lt {w : World} {b : Nat} {f : Nat → Nat} (h : TabAt w b f) : b < w.heap.size := (Array.getElem?_eq_some_iff.1 h).1
theorem TabAt.cell {w : World} {b : Nat} {f : Nat → Nat} (h : TabAt w b f) {p : Nat} (hp : p < 512) : w.cell? ⟨b, p, none⟩ = some (.int .u64 (f p : Int)) := by
  rw [cell_of_row _ _ p _ _ _ h, tabV_get f hp]
theorem TabAt.free {w : World} {b : Nat} {f : Nat → Nat} (h : TabAt w b f) (p : Nat) : w.frozen? ⟨b, p, none⟩ = false := by
  unfold TabAt at h
  simp [World.frozen?, h]
theorem TabAt.alloc {w : World} {b : Nat} {f : Nat → Nat} (h : TabAt w b f) (o : Obj) : TabAt (w.alloc o) b f := (Below.heap_alloc w o b h.lt).trans h
theorem TabAt.new (w : World) (f : Nat → Nat) : TabAt (w.alloc (.cells (tabV f) 59)) w.heap.size f := heap_alloc_new w _
theorem TabAt.below {w w' : World} {b : Nat} {f : Nat → Nat} {B : Nat} (h : TabAt w b f) (hb : Below B w w') (hB : b < B) : TabAt w' b f := (hb.block b hB).trans h
theorem TabAt.other {w : World} {b c i : Nat} {f : Nat → Nat} {u : Value} (h : TabAt w b f) (hc : b ≠ c) : TabAt (w.setCell ⟨c, i, none⟩ u) b f := (Below.heap_setCell _ _ _ _ hc).trans h
theorem TabAt.set {w : World} {b : Nat} {f : Nat → Nat} (h : TabAt w b f) {p : Nat} (hp : p < 512) (v : Nat) : TabAt (w.setCell ⟨b, p, none⟩ (.int .u64 (v : Int))) b (setT f p v) := by
  unfold TabAt at h ⊢
  rw [← tabV_set f hp v]
  simp [World.setCell, Array.getElem?_modify, h]
theorem tab_zero : (∀ w, (zeroValue 59).run Tryd.prog w = .ok (.agg (tabV fun _ => 0)) w) ∧ (Tryd.prog.info? 59).map (·.size) = some 512 :=
  zero_of_info (by kernel_rfl)
theorem TabAt.load {w : World} {b : Nat} {f : Nat → Nat} (h : TabAt w b f) : (Instr.loadAt 59 (.pointer (some ⟨b, 0, none⟩))).run Tryd.prog w = .ok (.agg (tabV f)) w := by
  have hu : Tryd.prog.underlying 59 = some (.array 512 22) := by kernel_rfl
  have := run_loadAt_mid (P := Tryd.prog) w b 0 59 (tabV f).toList (.array 512 22) (fun j v hv => by
    have hj : j < 512 := by have := (List.getElem?_eq_some_iff.1 hv).1; rw [Array.length_toList, tabV_size] at this; exact this
    rw [Nat.zero_add, h.cell hj]
    rw [Array.getElem?_toList, tabV_get f hj] at hv
    exact hv) hu rfl (by rw [Array.length_toList, tabV_size]; exact tab_zero.2)
  simpa using this
theorem TabAt.ext {w : World} {b : Nat} {f g : Nat → Nat} (h : TabAt w b f) (e : ∀ i, i < 512 → f i = g i) : TabAt w b g := by
  unfold TabAt at h ⊢
  rw [← tabV_ext e]; exact h
/-- a row is written over -/
theorem below_setRow (w : World) (b : Nat) (c : Array Value) (n : Nat) (h : n ≤ b) : Below n w (w.setRow b c) := by
  refine ⟨rfl, rfl, rfl, by simp [World.setRow], fun k hk => ?_⟩
  simp only [World.setRow, Array.getElem?_modify]
  rw [if_neg (by omega)]
/-- A whole array into a block of points. -/
theorem TabAt.store {w : World} {b : Nat} {f : Nat → Nat} (h : TabAt w b f) (g : Nat → Nat) : (Instr.storeAt 59 (.pointer (some ⟨b, 0, none⟩)) (.agg (tabV g))).run Tryd.prog w = .ok () (w.setRow b (tabV g)) := by
  simp only [Instr.storeAt, Instr.sureAddr, Sem.run_bind, Sem.run_pure, Result.andThen]
  exact run_storeVar_row w b 59 59 (tabV f) (tabV g) h (by rw [tabV_size]; exact tab_zero.2) (by rw [tabV_size, tabV_size]) (tabV_one g)
theorem TabAt.setRow {w : World} {b : Nat} {f : Nat → Nat} (h : TabAt w b f) (g : Nat → Nat) : TabAt (w.setRow b (tabV g)) b g := by
  unfold TabAt at h ⊢
  simp [World.setRow, Array.getElem?_modify, h]
theorem TabAt.row_other {w : World} {b c : Nat} {f : Nat → Nat} (h : TabAt w b f) (hc : b ≠ c) (d : Array Value) : TabAt (w.setRow c d) b f := by
  unfold TabAt at h ⊢
  simp [World.setRow, Array.getElem?_modify, h, show ¬ c = b from fun e => hc e.symm]
theorem wp_load_tab {o : Oper} {a : Act} {w : World} {K : Act → World → Prop} {Q : Exit → Act → World → Prop} (x : Operand) (ho : o.op = .load 59 x) {b : Nat} {f : Nat → Nat} (hx : a.eval x = .pointer (some ⟨b, 0, none⟩)) (h : TabAt w b f) (hk : K (a.put o.dst (.agg (tabV f))) w) : o.wp Tryd.prog a w K Q := by
  unfold Oper.wp execOp
  simp only [ho, hx, Sem.run_bind, Sem.run_pure, Result.andThen_ok, h.load]
  exact hk
theorem wp_store_tab {o : Oper} {a : Act} {w : World} {K : Act → World → Prop} {Q : Exit → Act → World → Prop} (x y : Operand) (ho : o.op = .store 59 x y) {b : Nat} {f g : Nat → Nat} (hx : a.eval x = .pointer (some ⟨b, 0, none⟩)) (hy : a.eval y = .agg (tabV g)) (hd : o.dst = none) (h : TabAt w b f) (hk : K a (w.setRow b (tabV g))) : o.wp Tryd.prog a w K Q := by
  unfold Oper.wp execOp
  simp only [ho, hx, hy, Sem.run_bind, Sem.run_pure, Result.andThen_ok, h.store g]
  rw [Oper.upon_skip, hd]
  exact hk
theorem wpList_load_tab {ops : Array Oper} {rest : List Oper} {o : Oper} {a : Act} {w : World} {Q : Exit → Act → World → Prop} (hgd : o.guard = none) (x : Operand) (ho : o.op = .load 59 x) {b : Nat} {f : Nat → Nat} (hx : a.eval x = .pointer (some ⟨b, 0, none⟩)) (h : TabAt w b f) (hk : wpList Tryd.prog ops Q rest (a.put o.dst (.agg (tabV f))) w) : wpList Tryd.prog ops Q (o :: rest) a w :=
  wpList_plain hgd fun _ hK => wp_load_tab x ho hx h (hK _ _ hk)
theorem wpList_store_tab {ops : Array Oper} {rest : List Oper} {o : Oper} {a : Act} {w : World} {Q : Exit → Act → World → Prop} (hgd : o.guard = none) (x y : Operand) (ho : o.op = .store 59 x y) {b : Nat} {f g : Nat → Nat} (hx : a.eval x = .pointer (some ⟨b, 0, none⟩)) (hy : a.eval y = .agg (tabV g)) (hd : o.dst = none) (h : TabAt w b f) (hk : wpList Tryd.prog ops Q rest a (w.setRow b (tabV g))) : wpList Tryd.prog ops Q (o :: rest) a w :=
  wpList_plain hgd fun _ hK => wp_store_tab x y ho hx hy hd h (hK _ _ hk)
theorem results_cell_one {fn : Func} {p : Tmp} {ty : TypeId} (h : fn.results = #[.cell p ty]) (tmps : Array Value) (P : Program) (w : World) :
    (results fn tmps).run P w = ((asAddr (tmps.getD p undef)).run P w).andThen fun a w => (loadVar ty a).run P w := by
  simp only [results, h]
  simp [Sem.run_bind, Result.andThen]
theorem ret_tab {fn : Func} {p : Tmp} (h : fn.results = #[.cell p 59]) {tmps : Array Value} {w : World} {b : Nat} {g : Nat → Nat} (hp : tmps.getD p undef = .pointer (some ⟨b, 0, none⟩)) (hg : TabAt w b g) :
    (results fn tmps).run Tryd.prog w = .ok (.agg (tabV g)) w := by
  have hl := hg.load
  simp only [Instr.loadAt, Instr.sureAddr, Sem.run_bind, Sem.run_pure, Result.andThen] at hl
  rw [results_cell_one h, hp]
  simp [asAddr, Result.andThen, hl]
/-- a table is the same as itself -/
theorem tab_equal (f : Nat → Nat) (w : World) : (Op.equalIn 10000 59 (.agg (tabV f)) (.agg (tabV f))).run Tryd.prog w = .ok true w := by
  have hu : Tryd.prog.underlying 59 = some (.array 512 22) := by kernel_rfl
  have hb : Tryd.prog.underlying 22 = some (.int .u64) := by kernel_rfl
  have hs : (Tryd.prog.info? 22).isSome = true := by kernel_rfl
  obtain ⟨i, hi⟩ := Option.isSome_iff_exists.1 hs
  have hc : Tryd.prog.cellsOf 22 = 1 := by kernel_rfl
  rw [run_equalIn_array w 9999 (tabV f) (tabV f) hu hi, hc]
  have hl : ∀ j ∈ List.range 512, j < 512 := fun j hj => List.mem_range.1 hj
  generalize List.range 512 = l at hl ⊢
  induction l with
  | nil => simp [Op.eqItems]
  | cons j l ih =>
    have hj : j < 512 := hl j (by simp)
    have px : (part 22 (tabV f) (j * 1)).run Tryd.prog w = .ok (.int .u64 (f j : Int)) w := by
      have := tabV_get f hj
      simp [part, isAgg, run_underlying hb, this]
    simp only [Op.eqItems, Sem.run_bind, px, run_equalIn_int w 9998 22 .u64 .u64 _ _ hb, Result.andThen_ok, beq_self_eq_true]
    exact ih fun k hk => hl k (by simp [hk])
theorem tab_guard : Tryd.prog.eqGuardType Tryd.prog.depth 59 = false := by kernel_rfl
theorem tab_neq (f : Nat → Nat) (w : World) : (binOp .neq 59 (.agg (tabV f)) (.agg (tabV f))).run Tryd.prog w = .ok (.bool false) w := by
  rw [run_neq_struct, tab_equal]
  rfl
theorem wpList_wanted {ops : Array Oper} {rest : List Oper} {o : Oper} {a : Act} {w : World} {Q : Exit → Act → World → Prop} (hw : Region.wanted o (yielded ops a.tmps) = true) (h : o.wp Tryd.prog a w (wpList Tryd.prog ops Q rest) Q) : wpList Tryd.prog ops Q (o :: rest) a w := by
  unfold wpList
  rw [if_pos hw]
  exact .inl h
theorem wpList_neq_tab {ops : Array Oper} {rest : List Oper} {o : Oper} {a : Act} {w : World} {Q : Exit → Act → World → Prop} (hw : Region.wanted o (yielded ops a.tmps) = true) (x y : Operand) {t' : TypeId} (ho : o.op = .binOp .neq 59 x y t') {f : Nat → Nat} (hx : a.eval x = .agg (tabV f)) (hy : a.eval y = .agg (tabV f)) (hk : wpList Tryd.prog ops Q rest (a.put o.dst (.bool false)) w) : wpList Tryd.prog ops Q (o :: rest) a w := by
  refine wpList_wanted hw ?_
  have hg : (eqGuard .neq 59 x y (.agg (tabV f)) (.agg (tabV f))).run Tryd.prog w = .ok () w := run_eqGuard_agg w _ _ _ _ _ _ tab_guard
  unfold Oper.wp execOp
  simp only [ho, hx, hy, Sem.run_bind, Sem.run_pure, Result.andThen_ok, hg, tab_neq]
  exact hk
theorem wpList_load_tabG {ops : Array Oper} {rest : List Oper} {o : Oper} {a : Act} {w : World} {Q : Exit → Act → World → Prop} (hw : Region.wanted o (yielded ops a.tmps) = true) (x : Operand) (ho : o.op = .load 59 x) {b : Nat} {f : Nat → Nat} (hx : a.eval x = .pointer (some ⟨b, 0, none⟩)) (h : TabAt w b f) (hk : wpList Tryd.prog ops Q rest (a.put o.dst (.agg (tabV f))) w) : wpList Tryd.prog ops Q (o :: rest) a w :=
  wpList_wanted hw (wp_load_tab x ho hx h hk)
theorem tab_index (f : Nat → Nat) {k : Nat} (hk : k < 512) (w : World) : (Instr.index 59 (.agg (tabV f)) (.int .i64 (k : Int))).run Tryd.prog w = .ok (.int .u64 (f k : Int)) w := by
  have hu : Tryd.prog.underlying 59 = some (.array 512 22) := by kernel_rfl
  have hb : Tryd.prog.underlying 22 = some (.int .u64) := by kernel_rfl
  have hi : (Tryd.prog.info? 22).map (·.size) = some 1 := by kernel_rfl
  obtain ⟨i, hi1, hi2⟩ := Option.map_eq_some_iff.1 hi
  have := tabV_get f hk
  simp [Instr.index, run_underlying hu, asIntOf, sizeOf, typeInfo, hi1, hi2, part, isAgg, run_underlying hb, this, go_sem]
  omega
/-- the bytes of a table -/
def tbN (f : Nat → Nat) : Nat → List Nat
  | 0 => []
  | k + 1 => tbN f k ++ Pl.le 8 (f k)
theorem tbN_len (f : Nat → Nat) : ∀ k, (tbN f k).length = 8 * k
  | 0 => rfl
  | k + 1 => by
    simp only [tbN, List.length_append, Pl.le_length, tbN_len f k]
    omega
theorem tbN_small (f : Nat → Nat) : ∀ k, ∀ z ∈ tbN f k, z < 256
  | 0, z, h => by cases h
  | k + 1, z, h => by
    rcases List.mem_append.1 h with h | h
    · exact tbN_small f k z h
    · exact Pl.le_small 8 (f k) z h
set_option maxRecDepth 4000 in
set_option maxHeartbeats 4000000 in
theorem pbytes_any {f : Nat → Nat} (hf : ∀ i, i < 512 → f i ≤ 18446744073709551615) (w : World) : Calls Tryd.prog 47 #[.agg (tabV f)] w fun e w' => ∃ g, e = .returned (.slice (some ⟨g, 0, none⟩) 4096 4096) ∧ w.heap.size ≤ g ∧ Row w' g (tbN f 512) ∧ Below w.heap.size w w' := by
  have HF : Hid (∀ i, i < 512 → f i ≤ 18446744073709551615) := hf
  have HT0 : Hid (TabAt (w.alloc (.cells (tabV f) 59)) w.heap.size f) := TabAt.new w f
  have HB0 : Hid (Below w.heap.size w (w.alloc (.cells (tabV f) 59))) := (Below.refl _ _).alloc (Nat.le_refl _) _
  clear hf
  go_enter Tryd.func47, Tryd.ntmps47
  go_wp2_with fail
  refine (newWriter_any _).mono ?_
  rintro e w1 ⟨rfl, hwr, hb1⟩
  have HT1 : Hid (TabAt w1 w.heap.size f) := HT0.out.below hb1 (by simp)
  have HB1 : Hid (Below w.heap.size w w1) := HB0.out.trans (hb1.mono HB0.out.size)
  have hsz : (w.alloc (.cells (tabV f) 59)).heap.size = w.heap.size + 1 := by simp
  rw [hsz] at hwr
  have HW1 := Lib.hid hwr
  have hz9 : (Value.pointer (some ⟨(w.alloc (.cells (tabV f) 59)).heap.size, 0, none⟩)) = .pointer (some ⟨w.heap.size + 1, 0, none⟩) := by rw [hsz]
  clear hb1 hwr HT0 HB0 hsz
  rw [hz9]
  go_wp2_with (refine wpList_load_tab (b := w.heap.size) (f := f) rfl (.tmp 1) rfl rfl HT1.out ?_)
  go_loopw [8] (fun kv wr => ∃ k : Nat, k ≤ 512 ∧ kv = .int .i64 (k : Int) ∧ ∃ v, Hid (Wr wr (w.heap.size + 1) v (tbN f k) 0 (w.heap.size + 1)) ∧ Hid (Below w.heap.size w wr)) (fun kv _ => 512 - (intOf kv).toNat)
  case atStart => exact ⟨0, by omega, rfl, _, HW1, HB1⟩
  case round =>
    clear HW1 HB1 HT1
    obtain ⟨k, hk, rfl, v, HW, HB⟩ := hrel
    by_cases hk5 : k < 512
    · have jk : (k : Int) < 512 := by omega
      have hwk : IntKind.i64.wrap ((k : Int) + 1) = ((k + 1 : Nat) : Int) := by rw [IntKind.wrap_i64]; omega
      have hg : (tabV f)[k]? = some (.int .u64 (f k : Int)) := tabV_get f hk5
      have hx : ∀ W, (Instr.index 59 (.agg (tabV f)) (.int .i64 (k : Int))).run Tryd.prog W = .ok (.int .u64 (f k : Int)) W := tab_index f hk5
      have HS : Hid (w.heap.size + 1 ≤ wr.heap.size) := Nat.le_of_lt HW.out.lt
      have HP := Lib.hid (put_u64 HW.out (HF.out k hk5) (by rw [tbN_len]; omega) HS.out)
      have HBn : Hid (∀ w', Keeps (Foot (w.heap.size + 1) v) wr w' → Below w.heap.size w w') := fun w' hk' => HB.out.trans (hk'.below HB.out.size (fun i _ e => by
        rcases e with e | e
        · omega
        · have := (HW.out.2.1.lt i e).1; omega))
      clear hg
      go_wp2_with fail
      refine HP.out.mono ?_
      rintro e w2 ⟨rfl, v2, hw2, hk2, _⟩
      have HW2 : Hid (Wr w2 (w.heap.size + 1) v2 (tbN f (k + 1)) 0 (w.heap.size + 1)) := hw2
      have HB2 := Lib.hid (HBn.out _ hk2)
      clear hw2 hk2 HP HBn HW HB
      go_wp2_with fail
      go_roundw
      case rel => exact ⟨k + 1, by omega, rfl, _, HW2, HB2⟩
      case measure => simp [intOf]; omega
    · have jk : ¬ (k : Int) < 512 := by omega
      have HA : Hid (Calls Tryd.prog 27 #[.pointer (some ⟨w.heap.size + 1, 0, none⟩)] wr fun e w' => e = .returned (.slice (some ⟨wr.heap.size, 0, none⟩) 4096 4096) ∧ Row w' wr.heap.size (tbN f 512) ∧ Below wr.heap.size wr w') := by
        have h5 := all_any HW.out (by rw [tbN_len]; omega)
        rw [show k = 512 by omega, tbN_len] at h5
        exact h5
      go_wp2_with fail
      refine HA.out.mono ?_
      rintro e w2 ⟨rfl, hr2, hb2⟩
      have HR2 := Lib.hid hr2
      have HB2 : Hid (Below w.heap.size w w2) := HB.out.trans (hb2.mono HB.out.size)
      have HS2 : Hid (w.heap.size ≤ wr.heap.size) := HB.out.size
      clear hr2 hb2 HA
      go_wp2_with fail
      go_ret
      exact ⟨_, rfl, HS2.out, HR2.out, HB2.out⟩
end Go.Proofs.YtinjhgimhboigaaDoor
