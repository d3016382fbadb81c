import Derived.Test.YtgjamnhepbblhaaPk00
import Derived.WalkKit
import Derived.WalkSpells
import Derived.WalkLawsBesides
import Derived.Deep.WholeRow
import Derived.Deep.MidRow
import Derived.Laws.ResultCell
import Derived.Deep.RegionHeld3
import Derived.Shelf.Abstract
import Derived.ChangeKeysEq
import Derived.Laws.StructEq
import Derived.Test.YtgjamnhepbblhaaPk03
import Derived.RegionTactic
import Derived.Deep.DeepCutAuto
/- Pages: a table (an array of 512 numbers) by value and in a block of its own (after the points of SpPts, SpMark, SpEq). Own work. -/
namespace Go.Proofs.Ytgjamnhepbblhaa
open Go.RowKit Go.Shelf
/-- the points as the array's cells -/
def tabV (f : Nat → Nat) : Array Value := ((List.range 512).map fun i => Value.int .u64 (f i : Int)).toArray
theorem tabV_size (f : Nat → Nat) : (tabV f).size = 512 := by simp [tabV]
theorem tabV_get (f : Nat → Nat) {i : Nat} (h : i < 512) : (tabV f)[i]? = some (.int .u64 (f i : Int)) := by
  simp [tabV, h]
theorem tabV_ext {f g : Nat → Nat} (h : ∀ i, i < 512 → f i = g i) : tabV f = tabV g := by
  unfold tabV
  rw [List.map_congr_left fun i hi => by rw [h i (List.mem_range.1 hi)]]
theorem tabV_one (f : Nat → Nat) : (tabV f).all (·.oneCell') = true := by
  rw [Array.all_eq_true_iff_forall_mem]
  intro v hv
  simp only [tabV, List.mem_toArray, List.mem_map] at hv
  obtain ⟨i, _, rfl⟩ := hv
  rfl
def setT (f : Nat → Nat) (p : Nat) (v : Nat) : Nat → Nat := fun q => if q = p then v else f q
theorem tabV_set (f : Nat → Nat) {p : Nat} (h : p < 512) (v : Nat) : (tabV f).setIfInBounds p (.int .u64 (v : Int)) = tabV (setT f p v) := by
  apply Array.ext_getElem?
  intro i
  rw [Array.getElem?_setIfInBounds, tabV_size]
  by_cases e : p = i
  · subst e
    simp [h, tabV_get, setT]
  · rw [if_neg e]
    by_cases hi : i < 512
    · rw [tabV_get _ hi, tabV_get _ hi]
      simp [setT, show i ≠ p from fun a => e a.symm]
    · rw [Array.getElem?_eq_none (by rw [tabV_size]; omega), Array.getElem?_eq_none (by rw [tabV_size]; omega)]

/-- a block of points -/
def TabAt (w : World) (b : Nat) (f : Nat → Nat) : Prop := w.heap[b]? = some (.cells (tabV f) 40 (0, 0))
theorem TabAt.lt {w : World} {b : Nat} {f : Nat → Nat} (h : TabAt w b f) : b < w.heap.size := (Array.getElem?_eq_some_iff.1 h).1
theorem TabAt.cell {w : World} {b : Nat} {f : Nat → Nat} (h : TabAt w b f) {p : Nat} (hp : p < 512) : w.cell? ⟨b, p, none⟩ = some (.int .u64 (f p : Int)) := by
  rw [cell_of_row _ _ p _ _ _ h, tabV_get f hp]
theorem TabAt.free {w : World} {b : Nat} {f : Nat → Nat} (h : TabAt w b f) (p : Nat) : w.frozen? ⟨b, p, none⟩ = false := by
  unfold TabAt at h
  simp [World.frozen?, h]
theorem TabAt.alloc {w : World} {b : Nat} {f : Nat → Nat} (h : TabAt w b f) (o : Obj) : TabAt (w.alloc o) b f := (Below.heap_alloc w o b h.lt).trans h
theorem TabAt.new (w : World) (f : Nat → Nat) : TabAt (w.alloc (.cells (tabV f) 40)) w.heap.size f := heap_alloc_new w _
theorem TabAt.below {w w' : World} {b : Nat} {f : Nat → Nat} {B : Nat} (h : TabAt w b f) (hb : Below B w w') (hB : b < B) : TabAt w' b f := (hb.block b hB).trans h
theorem TabAt.other {w : World} {b c i : Nat} {f : Nat → Nat} {u : Value} (h : TabAt w b f) (hc : b ≠ c) : TabAt (w.setCell ⟨c, i, none⟩ u) b f := (Below.heap_setCell _ _ _ _ hc).trans h
theorem TabAt.set {w : World} {b : Nat} {f : Nat → Nat} (h : TabAt w b f) {p : Nat} (hp : p < 512) (v : Nat) : TabAt (w.setCell ⟨b, p, none⟩ (.int .u64 (v : Int))) b (setT f p v) := by
  unfold TabAt at h ⊢
  rw [← tabV_set f hp v]
  simp [World.setCell, Array.getElem?_modify, h]
theorem tab_zero : (∀ w, (zeroValue 40).run Try.prog w = .ok (.agg (tabV fun _ => 0)) w) ∧ (Try.prog.info? 40).map (·.size) = some 512 :=
  zero_of_info (by kernel_rfl)
theorem TabAt.load {w : World} {b : Nat} {f : Nat → Nat} (h : TabAt w b f) : (Instr.loadAt 40 (.pointer (some ⟨b, 0, none⟩))).run Try.prog w = .ok (.agg (tabV f)) w := by
  have hu : Try.prog.underlying 40 = some (.array 512 23) := by kernel_rfl
  have := run_loadAt_mid (P := Try.prog) w b 0 40 (tabV f).toList (.array 512 23) (fun j v hv => by
    have hj : j < 512 := by have := (List.getElem?_eq_some_iff.1 hv).1; rw [Array.length_toList, tabV_size] at this; exact this
    rw [Nat.zero_add, h.cell hj]
    rw [Array.getElem?_toList, tabV_get f hj] at hv
    exact hv) hu rfl (by rw [Array.length_toList, tabV_size]; exact tab_zero.2)
  simpa using this
theorem TabAt.ext {w : World} {b : Nat} {f g : Nat → Nat} (h : TabAt w b f) (e : ∀ i, i < 512 → f i = g i) : TabAt w b g := by
  unfold TabAt at h ⊢
  rw [← tabV_ext e]; exact h
/-- a row is written over -/
theorem below_setRow (w : World) (b : Nat) (c : Array Value) (n : Nat) (h : n ≤ b) : Below n w (w.setRow b c) := by
  refine ⟨rfl, rfl, rfl, by simp [World.setRow], fun k hk => ?_⟩
  simp only [World.setRow, Array.getElem?_modify]
  rw [if_neg (by omega)]
/-- A whole array into a block of points. -/
theorem TabAt.store {w : World} {b : Nat} {f : Nat → Nat} (h : TabAt w b f) (g : Nat → Nat) : (Instr.storeAt 40 (.pointer (some ⟨b, 0, none⟩)) (.agg (tabV g))).run Try.prog w = .ok () (w.setRow b (tabV g)) := by
  simp only [Instr.storeAt, Instr.sureAddr, Sem.run_bind, Sem.run_pure, Result.andThen]
  exact run_storeVar_row w b 40 40 (tabV f) (tabV g) h (by rw [tabV_size]; exact tab_zero.2) (by rw [tabV_size, tabV_size]) (tabV_one g)
theorem TabAt.setRow {w : World} {b : Nat} {f : Nat → Nat} (h : TabAt w b f) (g : Nat → Nat) : TabAt (w.setRow b (tabV g)) b g := by
  unfold TabAt at h ⊢
  simp [World.setRow, Array.getElem?_modify, h]
theorem TabAt.row_other {w : World} {b c : Nat} {f : Nat → Nat} (h : TabAt w b f) (hc : b ≠ c) (d : Array Value) : TabAt (w.setRow c d) b f := by
  unfold TabAt at h ⊢
  simp [World.setRow, Array.getElem?_modify, h, show ¬ c = b from fun e => hc e.symm]
theorem wp_load_tab {o : Oper} {a : Act} {w : World} {K : Act → World → Prop} {Q : Exit → Act → World → Prop} (x : Operand) (ho : o.op = .load 40 x) {b : Nat} {f : Nat → Nat} (hx : a.eval x = .pointer (some ⟨b, 0, none⟩)) (h : TabAt w b f) (hk : K (a.put o.dst (.agg (tabV f))) w) : o.wp Try.prog a w K Q := by
  unfold Oper.wp execOp
  simp only [ho, hx, Sem.run_bind, Sem.run_pure, Result.andThen_ok, h.load]
  exact hk
theorem wp_store_tab {o : Oper} {a : Act} {w : World} {K : Act → World → Prop} {Q : Exit → Act → World → Prop} (x y : Operand) (ho : o.op = .store 40 x y) {b : Nat} {f g : Nat → Nat} (hx : a.eval x = .pointer (some ⟨b, 0, none⟩)) (hy : a.eval y = .agg (tabV g)) (hd : o.dst = none) (h : TabAt w b f) (hk : K a (w.setRow b (tabV g))) : o.wp Try.prog a w K Q := by
  unfold Oper.wp execOp
  simp only [ho, hx, hy, Sem.run_bind, Sem.run_pure, Result.andThen_ok, h.store g]
  rw [Oper.upon_skip, hd]
  exact hk
theorem wpList_load_tab {ops : Array Oper} {rest : List Oper} {o : Oper} {a : Act} {w : World} {Q : Exit → Act → World → Prop} (hgd : o.guard = none) (x : Operand) (ho : o.op = .load 40 x) {b : Nat} {f : Nat → Nat} (hx : a.eval x = .pointer (some ⟨b, 0, none⟩)) (h : TabAt w b f) (hk : wpList Try.prog ops Q rest (a.put o.dst (.agg (tabV f))) w) : wpList Try.prog ops Q (o :: rest) a w :=
  wpList_plain hgd fun _ hK => wp_load_tab x ho hx h (hK _ _ hk)
theorem wpList_store_tab {ops : Array Oper} {rest : List Oper} {o : Oper} {a : Act} {w : World} {Q : Exit → Act → World → Prop} (hgd : o.guard = none) (x y : Operand) (ho : o.op = .store 40 x y) {b : Nat} {f g : Nat → Nat} (hx : a.eval x = .pointer (some ⟨b, 0, none⟩)) (hy : a.eval y = .agg (tabV g)) (hd : o.dst = none) (h : TabAt w b f) (hk : wpList Try.prog ops Q rest a (w.setRow b (tabV g))) : wpList Try.prog ops Q (o :: rest) a w :=
  wpList_plain hgd fun _ hK => wp_store_tab x y ho hx hy hd h (hK _ _ hk)
theorem results_cell_one {fn : Func} {p : Tmp} {ty : TypeId} (h : fn.results = #[.cell p ty]) (tmps : Array Value) (P : Program) (w : World) :
    (results fn tmps).run P w = ((asAddr (tmps.getD p undef)).run P w).andThen fun a w => (loadVar ty a).run P w := by
  simp only [results, h]
  simp [Sem.run_bind, Result.andThen]
theorem ret_tab {fn : Func} {p : Tmp} (h : fn.results = #[.cell p 40]) {tmps : Array Value} {w : World} {b : Nat} {g : Nat → Nat} (hp : tmps.getD p undef = .pointer (some ⟨b, 0, none⟩)) (hg : TabAt w b g) :
    (results fn tmps).run Try.prog w = .ok (.agg (tabV g)) w := by
  have hl := hg.load
  simp only [Instr.loadAt, Instr.sureAddr, Sem.run_bind, Sem.run_pure, Result.andThen] at hl
  rw [results_cell_one h, hp]
  simp [asAddr, Result.andThen, hl]
/-- a table is the same as itself -/
theorem tab_equal (f : Nat → Nat) (w : World) : (Op.equalIn 10000 40 (.agg (tabV f)) (.agg (tabV f))).run Try.prog w = .ok true w := by
  have hu : Try.prog.underlying 40 = some (.array 512 23) := by kernel_rfl
  have hb : Try.prog.underlying 23 = some (.int .u64) := by kernel_rfl
  have hs : (Try.prog.info? 23).isSome = true := by kernel_rfl
  obtain ⟨i, hi⟩ := Option.isSome_iff_exists.1 hs
  have hc : Try.prog.cellsOf 23 = 1 := by kernel_rfl
  rw [run_equalIn_array w 9999 (tabV f) (tabV f) hu hi, hc]
  have hl : ∀ j ∈ List.range 512, j < 512 := fun j hj => List.mem_range.1 hj
  generalize List.range 512 = l at hl ⊢
  induction l with
  | nil => simp [Op.eqItems]
  | cons j l ih =>
    have hj : j < 512 := hl j (by simp)
    have px : (part 23 (tabV f) (j * 1)).run Try.prog w = .ok (.int .u64 (f j : Int)) w := by
      have := tabV_get f hj
      simp [part, isAgg, run_underlying hb, this]
    simp only [Op.eqItems, Sem.run_bind, px, run_equalIn_int w 9998 23 .u64 .u64 _ _ hb, Result.andThen_ok, beq_self_eq_true]
    exact ih fun k hk => hl k (by simp [hk])
theorem tab_guard : Try.prog.eqGuardType Try.prog.depth 40 = false := by kernel_rfl
theorem tab_neq (f : Nat → Nat) (w : World) : (binOp .neq 40 (.agg (tabV f)) (.agg (tabV f))).run Try.prog w = .ok (.bool false) w := by
  rw [run_neq_struct, tab_equal]
  rfl
theorem wpList_wanted {ops : Array Oper} {rest : List Oper} {o : Oper} {a : Act} {w : World} {Q : Exit → Act → World → Prop} (hw : Region.wanted o (yielded ops a.tmps) = true) (h : o.wp Try.prog a w (wpList Try.prog ops Q rest) Q) : wpList Try.prog ops Q (o :: rest) a w := by
  unfold wpList
  rw [if_pos hw]
  exact .inl h
theorem wpList_neq_tab {ops : Array Oper} {rest : List Oper} {o : Oper} {a : Act} {w : World} {Q : Exit → Act → World → Prop} (hw : Region.wanted o (yielded ops a.tmps) = true) (x y : Operand) {t' : TypeId} (ho : o.op = .binOp .neq 40 x y t') {f : Nat → Nat} (hx : a.eval x = .agg (tabV f)) (hy : a.eval y = .agg (tabV f)) (hk : wpList Try.prog ops Q rest (a.put o.dst (.bool false)) w) : wpList Try.prog ops Q (o :: rest) a w := by
  refine wpList_wanted hw ?_
  have hg : (eqGuard .neq 40 x y (.agg (tabV f)) (.agg (tabV f))).run Try.prog w = .ok () w := run_eqGuard_agg w _ _ _ _ _ _ tab_guard
  unfold Oper.wp execOp
  simp only [ho, hx, hy, Sem.run_bind, Sem.run_pure, Result.andThen_ok, hg, tab_neq]
  exact hk
theorem wpList_load_tabG {ops : Array Oper} {rest : List Oper} {o : Oper} {a : Act} {w : World} {Q : Exit → Act → World → Prop} (hw : Region.wanted o (yielded ops a.tmps) = true) (x : Operand) (ho : o.op = .load 40 x) {b : Nat} {f : Nat → Nat} (hx : a.eval x = .pointer (some ⟨b, 0, none⟩)) (h : TabAt w b f) (hk : wpList Try.prog ops Q rest (a.put o.dst (.agg (tabV f))) w) : wpList Try.prog ops Q (o :: rest) a w :=
  wpList_wanted hw (wp_load_tab x ho hx h hk)
theorem tab_index (f : Nat → Nat) {k : Nat} (hk : k < 512) (w : World) : (Instr.index 40 (.agg (tabV f)) (.int .i64 (k : Int))).run Try.prog w = .ok (.int .u64 (f k : Int)) w := by
  have hu : Try.prog.underlying 40 = some (.array 512 23) := by kernel_rfl
  have hb : Try.prog.underlying 23 = some (.int .u64) := by kernel_rfl
  have hi : (Try.prog.info? 23).map (·.size) = some 1 := by kernel_rfl
  obtain ⟨i, hi1, hi2⟩ := Option.map_eq_some_iff.1 hi
  have := tabV_get f hk
  simp [Instr.index, run_underlying hu, asIntOf, sizeOf, typeInfo, hi1, hi2, part, isAgg, run_underlying hb, this, go_sem]
  omega
/-- the bytes of a table -/
def tbN (f : Nat → Nat) : Nat → List Nat
  | 0 => []
  | k + 1 => tbN f k ++ Pl.le 8 (f k)
theorem tbN_len (f : Nat → Nat) : ∀ k, (tbN f k).length = 8 * k
  | 0 => rfl
  | k + 1 => by
    simp only [tbN, List.length_append, Pl.le_length, tbN_len f k]
    omega
theorem tbN_small (f : Nat → Nat) : ∀ k, ∀ z ∈ tbN f k, z < 256
  | 0, z, h => by cases h
  | k + 1, z, h => by
    rcases List.mem_append.1 h with h | h
    · exact tbN_small f k z h
    · exact Pl.le_small 8 (f k) z h
/-- the table of bytes -/
def numT (zs : List Nat) : Nat → Nat := fun i => Pl.num 8 (zs.drop (8 * i))
end Go.Proofs.Ytgjamnhepbblhaa
/- Pages: the builder (written by parts/gen_pgbld.py). Own work. -/
namespace Go.Proofs.Ytgjamnhepbblhaa
open Go.RowKit
set_option linter.unusedVariables false
/-- the builder's block -/
def Bb (w : World) (B : Nat) (o0 o1 o2 r : Value) (at' : Nat) : Prop := w.heap[B]? = some (.cells #[o0, o1, o2, r, .int .u64 (at' : Int)] 87 (0, 0))
theorem Bb.lt {w : World} {B : Nat} {o0 o1 o2 r : Value} {a : Nat} (h : Bb w B o0 o1 o2 r a) : B < w.heap.size := (Array.getElem?_eq_some_iff.1 h).1
theorem Bb.cells {w : World} {B : Nat} {o0 o1 o2 r : Value} {a : Nat} (h : Bb w B o0 o1 o2 r a) : w.cell? ⟨B, 0, none⟩ = some o0 ∧ w.cell? ⟨B, 1, none⟩ = some o1 ∧ w.cell? ⟨B, 2, none⟩ = some o2 ∧ w.cell? ⟨B, 3, none⟩ = some r ∧ w.cell? ⟨B, 4, none⟩ = some (.int .u64 (a : Int)) := by
  have h' : w.heap[B]? = _ := h
  refine ⟨?_, ?_, ?_, ?_, ?_⟩ <;> simp [World.cell?, h']
theorem Bb.free {w : World} {B : Nat} {o0 o1 o2 r : Value} {a : Nat} (h : Bb w B o0 o1 o2 r a) (i : Nat) : w.frozen? ⟨B, i, none⟩ = false := by
  have h' : w.heap[B]? = _ := h
  simp [World.frozen?, h']
theorem Bb.keeps {S : Nat → Prop} {w w' : World} {B : Nat} {o0 o1 o2 r : Value} {a : Nat} (h : Bb w B o0 o1 o2 r a) (k : Keeps S w w') (hn : ¬ S B) : Bb w' B o0 o1 o2 r a := (k.block B h.lt hn).trans h
theorem Bb.below {w w' : World} {B : Nat} {o0 o1 o2 r : Value} {a : Nat} (h : Bb w B o0 o1 o2 r a) (hb : Below w.heap.size w w') : Bb w' B o0 o1 o2 r a := (hb.block B h.lt).trans h
/-- a window of the list -/
def win (G o : Nat) : Value := .slice (some ⟨G, o, none⟩) 1 1
theorem keeps3 (w : World) (B i j k : Nat) (a b c : Value) : Keeps (fun q => q = B) w (((w.drew.setCell ⟨B, i, none⟩ a).setCell ⟨B, j, none⟩ b).setCell ⟨B, k, none⟩ c) :=
  ((((Keeps.refl _ w).drew.trans (Keeps.setCell _ B i a) (fun _ _ e => e)).trans (Keeps.setCell _ B j b) (fun _ _ e => e)).trans (Keeps.setCell _ B k c) (fun _ _ e => e))
set_option maxRecDepth 100000 in
set_option maxHeartbeats 4000000 in
theorem begin0 {w : World} {B G o m a : Nat} {o0 o1 o2 : Value} (h : Bb w B o0 o1 o2 (.slice (some ⟨G, o, none⟩) (m + 1) (m + 1)) a) (hm : m + 1 ≤ 1024) (ha : a + 4096 ≤ 18446744073709551615) : Calls Try.prog 44 #[.pointer (some ⟨B, 0, none⟩), .int .i64 0] w fun e w' => e = .returned (.int .u64 (a : Int)) ∧ ∃ r, Bb w' B (win G o) o1 o2 r (a + 4096) ∧ (m ≠ 0 → r = .slice (some ⟨G, o + 512, none⟩) m m) ∧ Keeps (fun k => k = B) w w' := by
  obtain ⟨c0, c1, c2, c3, c4⟩ := h.cells
  have f0 := h.free 0
  have f1 := h.free 1
  have f2 := h.free 2
  have f3 := h.free 3
  have f4 := h.free 4
  have hw : IntKind.u64.wrap ((a : Int) + 4096) = ((a + 4096 : Nat) : Int) := by rw [IntKind.wrap_u64]; omega
  have HB := Lib.hid h
  clear h
  by_cases h0 : m = 0
  · subst h0
    go_enter Try.func44, Try.ntmps44
    go_wp2_with fail
    go_region
    all_goals
      go_wp2_with fail
      go_ret
      refine ⟨rfl, .slice (some ⟨G, o, none⟩) 0 0, ?_, (fun e => absurd rfl e), keeps3 w B 0 3 4 _ _ _⟩
      have h' : w.heap[B]? = _ := HB.out
      unfold Bb win
      simp [World.setCell, World.drew, Array.getElem?_modify, h']
  · obtain ⟨q, rfl⟩ : ∃ q, m = q + 1 := ⟨m - 1, by omega⟩
    have j1 : (1 : Int) < ((q + 1 + 1 : Nat) : Int) := by omega
    clear h0
    go_enter Try.func44, Try.ntmps44
    go_wp2_with fail
    go_region
    all_goals
      go_wp2_with fail
      go_ret
      refine ⟨rfl, _, ?_, (fun _ => rfl), keeps3 w B 0 3 4 _ _ _⟩
      have h' : w.heap[B]? = _ := HB.out
      unfold Bb win
      simp [World.setCell, World.drew, Array.getElem?_modify, h']
set_option maxRecDepth 100000 in
set_option maxHeartbeats 4000000 in
theorem begin1 {w : World} {B G o m a : Nat} {o0 o1 o2 : Value} (h : Bb w B o0 o1 o2 (.slice (some ⟨G, o, none⟩) (m + 1) (m + 1)) a) (hm : m + 1 ≤ 1024) (ha : a + 4096 ≤ 18446744073709551615) : Calls Try.prog 44 #[.pointer (some ⟨B, 0, none⟩), .int .i64 1] w fun e w' => e = .returned (.int .u64 (a : Int)) ∧ ∃ r, Bb w' B o0 (win G o) o2 r (a + 4096) ∧ (m ≠ 0 → r = .slice (some ⟨G, o + 512, none⟩) m m) ∧ Keeps (fun k => k = B) w w' := by
  obtain ⟨c0, c1, c2, c3, c4⟩ := h.cells
  have f0 := h.free 0
  have f1 := h.free 1
  have f2 := h.free 2
  have f3 := h.free 3
  have f4 := h.free 4
  have hw : IntKind.u64.wrap ((a : Int) + 4096) = ((a + 4096 : Nat) : Int) := by rw [IntKind.wrap_u64]; omega
  have HB := Lib.hid h
  clear h
  by_cases h0 : m = 0
  · subst h0
    go_enter Try.func44, Try.ntmps44
    go_wp2_with fail
    go_region
    all_goals
      go_wp2_with fail
      go_ret
      refine ⟨rfl, .slice (some ⟨G, o, none⟩) 0 0, ?_, (fun e => absurd rfl e), keeps3 w B 1 3 4 _ _ _⟩
      have h' : w.heap[B]? = _ := HB.out
      unfold Bb win
      simp [World.setCell, World.drew, Array.getElem?_modify, h']
  · obtain ⟨q, rfl⟩ : ∃ q, m = q + 1 := ⟨m - 1, by omega⟩
    have j1 : (1 : Int) < ((q + 1 + 1 : Nat) : Int) := by omega
    clear h0
    go_enter Try.func44, Try.ntmps44
    go_wp2_with fail
    go_region
    all_goals
      go_wp2_with fail
      go_ret
      refine ⟨rfl, _, ?_, (fun _ => rfl), keeps3 w B 1 3 4 _ _ _⟩
      have h' : w.heap[B]? = _ := HB.out
      unfold Bb win
      simp [World.setCell, World.drew, Array.getElem?_modify, h']
set_option maxRecDepth 100000 in
set_option maxHeartbeats 4000000 in
theorem begin2 {w : World} {B G o m a : Nat} {o0 o1 o2 : Value} (h : Bb w B o0 o1 o2 (.slice (some ⟨G, o, none⟩) (m + 1) (m + 1)) a) (hm : m + 1 ≤ 1024) (ha : a + 4096 ≤ 18446744073709551615) : Calls Try.prog 44 #[.pointer (some ⟨B, 0, none⟩), .int .i64 2] w fun e w' => e = .returned (.int .u64 (a : Int)) ∧ ∃ r, Bb w' B o0 o1 (win G o) r (a + 4096) ∧ (m ≠ 0 → r = .slice (some ⟨G, o + 512, none⟩) m m) ∧ Keeps (fun k => k = B) w w' := by
  obtain ⟨c0, c1, c2, c3, c4⟩ := h.cells
  have f0 := h.free 0
  have f1 := h.free 1
  have f2 := h.free 2
  have f3 := h.free 3
  have f4 := h.free 4
  have hw : IntKind.u64.wrap ((a : Int) + 4096) = ((a + 4096 : Nat) : Int) := by rw [IntKind.wrap_u64]; omega
  have HB := Lib.hid h
  clear h
  by_cases h0 : m = 0
  · subst h0
    go_enter Try.func44, Try.ntmps44
    go_wp2_with fail
    go_region
    all_goals
      go_wp2_with fail
      go_ret
      refine ⟨rfl, .slice (some ⟨G, o, none⟩) 0 0, ?_, (fun e => absurd rfl e), keeps3 w B 2 3 4 _ _ _⟩
      have h' : w.heap[B]? = _ := HB.out
      unfold Bb win
      simp [World.setCell, World.drew, Array.getElem?_modify, h']
  · obtain ⟨q, rfl⟩ : ∃ q, m = q + 1 := ⟨m - 1, by omega⟩
    have j1 : (1 : Int) < ((q + 1 + 1 : Nat) : Int) := by omega
    clear h0
    go_enter Try.func44, Try.ntmps44
    go_wp2_with fail
    go_region
    all_goals
      go_wp2_with fail
      go_ret
      refine ⟨rfl, _, ?_, (fun _ => rfl), keeps3 w B 2 3 4 _ _ _⟩
      have h' : w.heap[B]? = _ := HB.out
      unfold Bb win
      simp [World.setCell, World.drew, Array.getElem?_modify, h']
end Go.Proofs.Ytgjamnhepbblhaa
