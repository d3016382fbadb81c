import Derived.Test.YtdkhhofgfbnmkaaGreatPf25
import Derived.Test.YtdkhhofgfbnmkaaGreatPf15
import Derived.Test.YtdkhhofgfbnmkaaGreatPf24
/- walk without a memory; Leaves' call. Own work. -/
namespace Go.Proofs.YtdkhhofgfbnmkaaGreat
open Go.RowKit Go.Shelf Wk Lv
attribute [local go_sem] Oper.semAt_some
set_option maxRecDepth 100000 in
set_option maxHeartbeats 2000000 in
theorem address_nil (r v : Nat) (acc : Int) (w : World) : Calls Tryz.prog 43 #[.nilIface, .int .u64 (r : Int), .int .u64 (v : Int), .int .i64 acc] w fun e w' => e = .returned (.tuple #[.int .u64 0, .int .i64 1]) ∧ Below w.heap.size w w' := by
  go_enter Tryz.func43, Tryz.ntmps43
  go_wp2_with fail
  refine bodyPost_ret (v := .tuple #[.int .u64 0, .int .i64 1]) (by simp [results, Tryz.results43, go_sem]) rfl ?_
  exact ⟨rfl, by first | exact Below.refl _ _ | exact (Below.refl _ _).alloc (Nat.le_refl _) _⟩
set_option maxRecDepth 100000 in
set_option maxHeartbeats 2000000 in
theorem translate_nil (r v : Nat) (acc : Int) (w : World) : Calls Tryz.prog 20 #[.nilIface, .int .u64 (r : Int), .int .u64 (v : Int), .int .i64 acc] w fun e w' => e = .returned (.tuple #[.int .u64 0, .agg #[.int .i64 1, .int .u64 (v : Int)]]) ∧ Below w.heap.size w w' := by
  have HA : Hid (∀ W, Calls Tryz.prog 43 #[.nilIface, .int .u64 (r : Int), .int .u64 (v : Int), .int .i64 acc] W fun e w' => e = .returned (.tuple #[.int .u64 0, .int .i64 1]) ∧ Below W.heap.size W w') := address_nil r v acc
  go_enter Tryz.func20, Tryz.ntmps20
  go_wp2_with fail
  refine (HA.out _).mono ?_
  rintro e W3 ⟨rfl, hb1⟩
  have HX3 : Hid (BoxF W3 w.heap.size 0 0) := (BoxF.new w 0 0).below hb1
  have HB3 : Hid (Below w.heap.size w W3) := ((Below.refl _ w).alloc (Nat.le_refl _) _).trans (hb1.mono (by simp))
  obtain ⟨x0, x1, f0, f1⟩ := HX3.out.cells
  clear HA hb1
  go_wp2_with fail
  obtain ⟨d0, d1, _⟩ := (HX3.out.set 1 v).cells
  refine bodyPost_ret (v := .tuple #[.int .u64 0, .agg #[.int .i64 1, .int .u64 (v : Int)]]) (by simp [results, Tryz.results20, go_sem, d0, d1]) rfl ?_
  exact ⟨rfl, HB3.out.trans ((Keeps.two W3 w.heap.size (.int .i64 1) (.int .u64 (v : Int))).below HB3.out.size (fun i _ e => by omega))⟩
set_option maxRecDepth 100000 in
set_option maxHeartbeats 2000000 in
theorem reached_nil (r v : Nat) (k acc : Int) (w : World) : Calls Tryz.prog 49 #[.nilIface, .int .u64 (r : Int), .int .u64 (v : Int), .int .i64 k, .int .i64 acc] w fun e w' => e = .returned (.tuple #[.slice none 0 0, .agg #[.int .i64 1, .int .u64 (v : Int)]]) ∧ Below w.heap.size w w' := by
  go_enter Tryz.func49, Tryz.ntmps49
  go_wp2_with fail
  obtain ⟨d0, d1, _⟩ := (BoxF.new w 1 v).cells
  refine bodyPost_ret (v := .tuple #[.slice none 0 0, .agg #[.int .i64 1, .int .u64 (v : Int)]]) (by simp [results, Tryz.results49, go_sem]) rfl ?_
  exact ⟨rfl, (Below.refl _ w).alloc (Nat.le_refl _) _⟩
set_option maxRecDepth 100000 in
set_option maxHeartbeats 2000000 in
theorem take_nil (r v : Nat) (k acc : Int) (w : World) : Calls Tryz.prog 35 #[.nilIface, .int .u64 (r : Int), .int .u64 (v : Int), .int .i64 k, .int .i64 acc] w fun e w' => e = .returned (.tuple #[.int .u64 0, .agg #[.int .i64 1, .int .u64 (v : Int)]]) ∧ Below w.heap.size w w' := by
  have HR : Hid (∀ W, Calls Tryz.prog 49 #[.nilIface, .int .u64 (r : Int), .int .u64 (v : Int), .int .i64 k, .int .i64 acc] W fun e w' => e = .returned (.tuple #[.slice none 0 0, .agg #[.int .i64 1, .int .u64 (v : Int)]]) ∧ Below W.heap.size W w') := reached_nil r v k acc
  go_enter Tryz.func35, Tryz.ntmps35
  go_wp2_with fail
  refine (HR.out _).mono ?_
  rintro e w1 ⟨rfl, hb1⟩
  have HX1 : Hid (BoxF w1 w.heap.size 0 0) := (BoxF.new w 0 0).below hb1
  have hlt := HX1.out.lt
  have HB1 : Hid (Below w.heap.size w w1) := ((Below.refl _ w).alloc (Nat.le_refl _) _).trans (hb1.mono (by simp))
  clear hb1 HR
  obtain ⟨W3, hW3⟩ : ∃ W3, w1.alloc (Obj.cells #[.int .i64 1, .int .u64 (v : Int)] 57) = W3 := ⟨_, rfl⟩
  have HF3 : Hid (BoxF W3 w1.heap.size 1 v) := hW3 ▸ BoxF.new w1 1 v
  have HX3 : Hid (BoxF W3 w.heap.size 0 0) := hW3 ▸ HX1.out.below ((Below.refl _ _).alloc (Nat.le_refl _) _)
  have HB3 : Hid (Below w.heap.size w W3) := hW3 ▸ HB1.out.alloc HB1.out.size _
  have hne : w.heap.size ≠ w1.heap.size := by omega
  obtain ⟨x0, x1, f0, f1⟩ := HX3.out.cells
  obtain ⟨y0, y1, _, _⟩ := HF3.out.cells
  go_wp2_with fail
  clear hW3
  go_region_held3 (fun w' => w'.cell? ⟨w1.heap.size, 0, none⟩ = some (.int .i64 1) ∧ w'.cell? ⟨w1.heap.size, 1, none⟩ = some (.int .u64 (v : Int))) (go_keep) (fail)
  go_wp2_with fail
  obtain ⟨d0, d1, _⟩ := BoxF.cells (w := ((W3.setCell ⟨w.heap.size, 0, none⟩ (.int .i64 1)).setCell ⟨w.heap.size, 1, none⟩ (.int .u64 (v : Int))).drew) (HX3.out.set 1 v)
  refine bodyPost_ret (v := .tuple #[.int .u64 0, .agg #[.int .i64 1, .int .u64 (v : Int)]]) (by simp [results, Tryz.results35, go_sem, d0, d1]) rfl ?_
  exact ⟨rfl, (HB3.out.trans ((Keeps.two W3 w.heap.size (.int .i64 1) (.int .u64 (v : Int))).below HB3.out.size (fun i _ e => by omega))).drew⟩
set_option maxRecDepth 100000 in
set_option maxHeartbeats 2000000 in
theorem load_nil (r v : Nat) (k : Int) (w : World) : Calls Tryz.prog 14 #[.nilIface, .int .u64 (r : Int), .int .u64 (v : Int), .int .i64 k] w fun e w' => e = .returned (.tuple #[.int .u64 0, .agg #[.int .i64 1, .int .u64 (v : Int)]]) ∧ Below w.heap.size w w' := by
  have HA : Hid (∀ W, Calls Tryz.prog 35 #[.nilIface, .int .u64 (r : Int), .int .u64 (v : Int), .int .i64 k, .int .i64 1] W fun e w' => e = .returned (.tuple #[.int .u64 0, .agg #[.int .i64 1, .int .u64 (v : Int)]]) ∧ Below W.heap.size W w') := take_nil r v k 1
  go_enter Tryz.func14, Tryz.ntmps14
  go_wp2_with fail
  refine (HA.out _).mono ?_
  rintro e W3 ⟨rfl, hb1⟩
  have HX3 : Hid (BoxF W3 w.heap.size 0 0) := (BoxF.new w 0 0).below hb1
  have HB3 : Hid (Below w.heap.size w W3) := ((Below.refl _ w).alloc (Nat.le_refl _) _).trans (hb1.mono (by simp))
  obtain ⟨x0, x1, f0, f1⟩ := HX3.out.cells
  clear HA hb1
  go_wp2_with fail
  obtain ⟨d0, d1, _⟩ := (HX3.out.set 1 v).cells
  refine bodyPost_ret (v := .tuple #[.int .u64 0, .agg #[.int .i64 1, .int .u64 (v : Int)]]) (by simp [results, Tryz.results14, go_sem, d0, d1]) rfl ?_
  exact ⟨rfl, HB3.out.trans ((Keeps.two W3 w.heap.size (.int .i64 1) (.int .u64 (v : Int))).below HB3.out.size (fun i _ e => by omega))⟩
set_option maxRecDepth 100000 in
set_option maxHeartbeats 2000000 in
theorem store_nil (r v : Nat) (k : Int) (z : Nat) (w : World) : Calls Tryz.prog 24 #[.nilIface, .int .u64 (r : Int), .int .u64 (v : Int), .int .i64 k, .int .u64 (z : Int)] w fun e w' => e = .returned (.agg #[.int .i64 1, .int .u64 (v : Int)]) ∧ Below w.heap.size w w' := by
  have HR : Hid (∀ W, Calls Tryz.prog 49 #[.nilIface, .int .u64 (r : Int), .int .u64 (v : Int), .int .i64 k, .int .i64 2] W fun e w' => e = .returned (.tuple #[.slice none 0 0, .agg #[.int .i64 1, .int .u64 (v : Int)]]) ∧ Below W.heap.size W w') := reached_nil r v k 2
  go_enter Tryz.func24, Tryz.ntmps24
  go_wp2_with fail
  refine (HR.out _).mono ?_
  rintro e w1 ⟨rfl, hb1⟩
  have HX1 : Hid (BoxF w1 w.heap.size 0 0) := (BoxF.new w 0 0).below hb1
  have hlt := HX1.out.lt
  have HB1 : Hid (Below w.heap.size w w1) := ((Below.refl _ w).alloc (Nat.le_refl _) _).trans (hb1.mono (by simp))
  clear hb1 HR
  obtain ⟨W3, hW3⟩ : ∃ W3, w1.alloc (Obj.cells #[.int .i64 1, .int .u64 (v : Int)] 57) = W3 := ⟨_, rfl⟩
  have HF3 : Hid (BoxF W3 w1.heap.size 1 v) := hW3 ▸ BoxF.new w1 1 v
  have HX3 : Hid (BoxF W3 w.heap.size 0 0) := hW3 ▸ HX1.out.below ((Below.refl _ _).alloc (Nat.le_refl _) _)
  have HB3 : Hid (Below w.heap.size w W3) := hW3 ▸ HB1.out.alloc HB1.out.size _
  have hne : w.heap.size ≠ w1.heap.size := by omega
  obtain ⟨x0, x1, f0, f1⟩ := HX3.out.cells
  obtain ⟨y0, y1, _, _⟩ := HF3.out.cells
  go_wp2_with fail
  clear hW3
  obtain ⟨d0, d1, _⟩ := (HX3.out.set 1 v).cells
  refine bodyPost_ret (v := .agg #[.int .i64 1, .int .u64 (v : Int)]) (by simp [results, Tryz.results24, go_sem, d0, d1]) rfl ?_
  exact ⟨rfl, HB3.out.trans ((Keeps.two W3 w.heap.size (.int .i64 1) (.int .u64 (v : Int))).below HB3.out.size (fun i _ e => by omega))⟩
theorem cell_first (w : World) (v : Value) (t : TypeId) : (w.alloc (Obj.cells #[v] t)).cell? ⟨w.heap.size, 0, none⟩ = some v := by
  have := World.alloc_heap_new w (Obj.cells #[v] t)
  revert this
  generalize w.alloc _ = Wn
  intro this
  simp [World.cell?, this]
theorem cell_at {w : World} {v : Value} {t : TypeId} {k : Nat} (hk : k = w.heap.size) : (w.alloc (Obj.cells #[v] t)).cell? ⟨k, 0, none⟩ = some v := by
  subst hk
  exact cell_first w v t
theorem cell_more {w : World} {g : Nat} {v : Value} (o : Obj) (h : w.cell? ⟨g, 0, none⟩ = some v) : (w.alloc o).cell? ⟨g, 0, none⟩ = some v := (Keeps.alloc (S := fun _ => False) w o).cell' h (fun h => h)
set_option maxRecDepth 100000 in
set_option maxHeartbeats 2000000 in
theorem leaves_call (mv : Value) (hmv : mv = .nilIface ∨ ∃ T u, mv = .iface T u) (root : Nat) (most : Int) (w : World) : Calls Tryz.prog 53 #[mv, .int .u64 (root : Int), .int .i64 most] w fun e w' => e = .returned (.func (.func 78) #[] #[.pointer (some ⟨w.heap.size, 0, none⟩), .pointer (some ⟨w.heap.size + 2, 0, none⟩), .pointer (some ⟨w.heap.size + 1, 0, none⟩)]) ∧ w'.cell? ⟨w.heap.size, 0, none⟩ = some mv ∧ w'.cell? ⟨w.heap.size + 2, 0, none⟩ = some (.int .i64 most) ∧ w'.cell? ⟨w.heap.size + 1, 0, none⟩ = some (.int .u64 (root : Int)) ∧ w'.heap.size = w.heap.size + 3 ∧ Below w.heap.size w w' := by
  rcases hmv with rfl | ⟨T, u, rfl⟩
  all_goals (
    go_enter Tryz.func53, Tryz.ntmps53
    go_wp2
    go_ret
    refine ⟨rfl, ?_, ?_, ?_, by simp, (((Below.refl _ w).alloc (Nat.le_refl _) _).alloc (by simp) _).alloc (by simp; omega) _⟩
    · exact cell_more _ (cell_more _ (cell_first _ _ _))
    · exact cell_at (by simp)
    · exact cell_more _ (cell_at (by simp)))
set_option maxRecDepth 100000 in
set_option maxHeartbeats 2000000 in
theorem leaves1_nil {n l0 Bm Bo Br : Nat} {W : World} (hBm : W.cell? ⟨Bm, 0, none⟩ = some .nilIface) :
    CallsIn Fence.wide n Tryz.prog 78 #[.func (.yield l0) #[] #[], .pointer (some ⟨Bm, 0, none⟩), .pointer (some ⟨Bo, 0, none⟩), .pointer (some ⟨Br, 0, none⟩)] W fun e W' => (∃ v, e = .returned v) ∧ Below W.heap.size W W' := by
  have hbm : Bm < W.heap.size := World.block_lt_of_cell? W _ hBm
  refine callsIn_of_wp_marks Tryz.func78 rfl trivial ?_ rfl
  simp only [Tryz.ntmps78, List.size_toArray, List.length_cons, List.length_nil, Nat.reduceAdd, Nat.reduceSub, Array.replicate_succ, Array.replicate_zero, List.push_toArray, List.append_toArray, List.nil_append, List.cons_append]
  gi_wp2
  exact ⟨_, results_none rfl _ _ _, ⟨_, rfl⟩, (Below.refl _ W).alloc (Nat.le_refl _) _⟩
end Go.Proofs.YtdkhhofgfbnmkaaGreat
/- WalkNames, walked. Own work. -/
namespace Go.Proofs.YtdkhhofgfbnmkaaGreat
open Go.RowKit Go.Maps Go.Shelf Go.Proofs.YtdkhhofgfbnmkaaGreat.Sp Wk Lv
attribute [local go_sem] Oper.semAt_some
theorem equal_seq_nil (d : Nat) (w : World) (k : Nat) (xs : Array Value) : (Op.equalIn (d + 1) 120 (.func (.func k) #[] xs) .nilFunc).run Tryz.prog w = .ok false w := by
  have u := Tryz.underlying120
  unfold Op.equalIn
  simp only [Sem.run_bind, run_underlying u, Result.andThen_ok, Sem.run_pure]
theorem eql_seq_nil (w : World) (k : Nat) (xs : Array Value) : (binOp .eql 120 (.func (.func k) #[] xs) .nilFunc).run Tryz.prog w = .ok (.bool false) w := by
  have h := equal_seq_nil 9999 w k xs
  have e : binOp .eql 120 (.func (.func k) #[] xs) .nilFunc = (do pure (.bool (← Op.equalIn (9999 + 1) 120 (.func (.func k) #[] xs) .nilFunc)) : Sem Value) := by rfl
  rw [e, Sem.run_bind, h]
  rfl
theorem nqlF (w : World) (a b c d : Int) : (binOp .neq 57 (.agg #[.int .i64 a, .int .u64 b]) (.agg #[.int .i64 c, .int .u64 d])).run Tryz.prog w = .ok (.bool (!((a == c) && (b == d)))) w := by
  have u1 := Tryz.underlying55
  have a1 := Tryz.isAgg55
  have z1 := Tryz.sizeOf55
  have u := Tryz.underlying34
  have a2 := Tryz.isAgg34
  have z := Tryz.sizeOf34
  have hS : Tryz.prog.underlying 57 = some (.struct (Tryz.prog.fieldsOf 57)) := by kernel_rfl
  have hp : Tryz.prog.stoodInHeld 57 = false := by kernel_rfl
  rw [run_neq_struct, show (10000 : Nat) = 9999 + 1 from rfl, run_equalIn_agg w 9999 57 _ _ hS hp]
  simp only [Program.fieldsOf, Tryz.underlying57]
  go_simp
  by_cases h1 : a = c <;> by_cases h2 : b = d <;> simp [h1, h2]
theorem nqlL (w : World) (a b c : Int) (d e f : Bool) (a' b' c' : Int) (d' e' f' : Bool) : (binOp .neq 123 (.agg #[.int .u64 a, .int .u64 b, .int .i64 c, .bool d, .bool e, .bool f]) (.agg #[.int .u64 a', .int .u64 b', .int .i64 c', .bool d', .bool e', .bool f'])).run Tryz.prog w = .ok (.bool (!((a == a') && (b == b') && (c == c') && (d == d') && (e == e') && (f == f')))) w := by
  have u1 := Tryz.underlying4
  have a1 := Tryz.isAgg4
  have z1 := Tryz.sizeOf4
  have u3 := Tryz.underlying3
  have a3 := Tryz.isAgg3
  have z3 := Tryz.sizeOf3
  have u := Tryz.underlying34
  have a2 := Tryz.isAgg34
  have z := Tryz.sizeOf34
  have hS : Tryz.prog.underlying 123 = some (.struct (Tryz.prog.fieldsOf 123)) := by kernel_rfl
  have hp : Tryz.prog.stoodInHeld 123 = false := by kernel_rfl
  rw [run_neq_struct, show (10000 : Nat) = 9999 + 1 from rfl, run_equalIn_agg w 9999 123 _ _ hS hp]
  simp only [Program.fieldsOf, Tryz.underlying123]
  go_simp
  by_cases h1 : a = a' <;> by_cases h2 : b = b' <;> by_cases h3 : c = c' <;> by_cases h4 : d = d' <;> by_cases h5 : e = e' <;> by_cases h6 : f = f' <;> simp [h1, h2, h3, h4, h5, h6]
theorem guardL : Tryz.prog.eqGuardType Tryz.prog.depth 123 = false := by kernel_rfl
theorem lookx_any {w : World} {m B : Nat} {V : Value × Value × Value} {T : Nat → Option Nat} {M : Nat → Nat} {rs ds : List Sp} {n t k : Nat} {l : Int} (h : Mx w m B V T M rs ds n) (ht : t + 8 * k ≤ 18446744073709551615) (hn : n ≤ 4611686018427387904) :
    Calls Tryz.prog 91 #[MemV m, .int .u64 (t : Int), .int .u64 (k : Int), .int .i64 l] w fun e w' => e = .returned (.tuple #[EntV (lookF (rs ++ ds) M (t + 8 * k) l).1, .int .i64 (lookF (rs ++ ds) M (t + 8 * k) l).2]) ∧ Mx w' m B V T M rs ds (n + 1) ∧ Keeps (fun j => j = m) w w' := by
  obtain ⟨L, S, X, h1, h2, h3, h4⟩ := h
  refine (look_any h4 ht (by omega)).mono ?_
  rintro e w' ⟨r, b, rfl, hr, hm, hk⟩
  rw [look_is hr]
  exact ⟨rfl, ⟨L, S, up b X, by omega, by omega, by cases b <;> simp [up] <;> omega, hm⟩, hk⟩
end Go.Proofs.YtdkhhofgfbnmkaaGreat
/- A script in memory; marks of loops that are over (off OdLaw). Own work. -/
namespace Go.Proofs.YtdkhhofgfbnmkaaGreat
open Go.RowKit Go.Maps Go.Shelf Go.Proofs.YtdkhhofgfbnmkaaGreat.Sp Wk Lv
/-- a step of the script: kind, root, address, value, number -/
abbrev Op5 := Int × Nat × Nat × Nat × Int
/-- a script in memory below n -/
def OpsAt (n : Nat) (w : World) (v : Value) (os : List Op5) : Prop :=
  ∃ ao cap, v = .slice ao os.length cap ∧ os.length ≤ cap ∧ cap ≤ maxLen ∧ ∀ j (h : j < os.length), ∃ g off, ao = some ⟨g, off, none⟩ ∧ g < n ∧ w.cell? ⟨g, off + j * 5, none⟩ = some (.int .i64 os[j].1) ∧ w.cell? ⟨g, off + j * 5 + 1, none⟩ = some (.int .u64 (os[j].2.1 : Int)) ∧ w.cell? ⟨g, off + j * 5 + 2, none⟩ = some (.int .u64 (os[j].2.2.1 : Int)) ∧ w.cell? ⟨g, off + j * 5 + 3, none⟩ = some (.int .u64 (os[j].2.2.2.1 : Int)) ∧ w.cell? ⟨g, off + j * 5 + 4, none⟩ = some (.int .i64 os[j].2.2.2.2)
/-- marks of loops that are over -/
def Marks (n : Nat) : List Deferred → World → Prop
  | [], _ => True
  | d :: ds, W => ∃ D, d = { target := .collected D, args := #[] } ∧ n ≤ D ∧ W.heap[D]? = some (.deferred (some [])) ∧ (∀ e ∈ ds, e.target ≠ .collected D) ∧ Marks n ds W
theorem Marks.keeps {n : Nat} {Y : Nat → Prop} {W W' : World} (hk : Keeps Y W W') (hY : ∀ j o, W.heap[j]? = some (.deferred o) → ¬ Y j) : ∀ {ds : List Deferred}, Marks n ds W → Marks n ds W'
  | [], _ => trivial
  | _ :: _, ⟨D, h1, h2, h3, h4, h5⟩ => ⟨D, h1, h2, (hk.block D (Array.getElem?_eq_some_iff.1 h3).1 (hY D _ h3)).trans h3, h4, Marks.keeps hk hY h5⟩
theorem Marks.of {n : Nat} {W : World} : ∀ {ds : List Deferred}, Marks n ds W → ∀ e ∈ ds, ∃ D, D < W.heap.size ∧ e.target = .collected D
  | [], _, e, he => by cases he
  | d :: ds, ⟨D, h1, h2, h3, h4, h5⟩, e, he => by
    rcases List.mem_cons.1 he with rfl | he
    · exact ⟨D, (Array.getElem?_eq_some_iff.1 h3).1, by rw [h1]⟩
    · exact Marks.of h5 e he
theorem Marks.put {n : Nat} {W : World} {D : Nat} {o : Obj} : ∀ {ds : List Deferred}, Marks n ds W → (∀ e ∈ ds, e.target ≠ .collected D) → Marks n ds (W.putObj D o)
  | [], _, _ => trivial
  | d :: ds, ⟨D', h1, h2, h3, h4, h5⟩, h => ⟨D', h1, h2, by
      rw [World.putObj_heap_other (fun e => h d (List.mem_cons_self ..) (by rw [h1, e]))]
      exact h3, h4, Marks.put h5 (fun e he => h e (List.mem_cons_of_mem _ he))⟩
theorem leaves_marks {F : Fence} {m : Nat} {P : Program} {fn : Func} {tmps : Array Value} {R : Ending → World → Prop} {n : Nat} : ∀ (ds : List Deferred) (W : World), Marks n ds W → (∀ W', Keeps (fun j => n ≤ j) W W' → LeavesInM F m P fn tmps R [] .returning W') → LeavesInM F m P fn tmps R ds .returning W
  | [], W, _, h => h W (Keeps.refl _ _)
  | d :: ds, W, ⟨D, h1, h2, h3, h4, h5⟩, h => by
    subst h1
    refine ⟨by simp, .inl ⟨D, _, rfl, run_takeDeferred h3, leaves_marks ds _ (h5.put h4) (fun W' hk => h W' (((Keeps.putObj W D _).mono (S' := fun j => n ≤ j) (fun i _ e => by have e : i = D := e; omega)).trans hk (fun _ _ e => e)))⟩⟩
end Go.Proofs.YtdkhhofgfbnmkaaGreat
