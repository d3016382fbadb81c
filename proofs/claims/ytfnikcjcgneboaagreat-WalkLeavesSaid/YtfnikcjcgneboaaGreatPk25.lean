import Derived.Test.YtfnikcjcgneboaaGreatPk24
import Derived.Test.YtfnikcjcgneboaaGreatPk14
import Derived.Test.YtfnikcjcgneboaaGreatPk23
import Derived.Test.YtfnikcjcgneboaaGreatPk19
/- walk without a memory; Leaves' call. Own work. -/
namespace Go.Proofs.YtfnikcjcgneboaaGreat
open Go.RowKit Go.Shelf Wk Lv
attribute [local go_sem] Oper.semAt_some
set_option maxRecDepth 100000 in
set_option maxHeartbeats 2000000 in
theorem address_nil (r v : Nat) (acc : Int) (w : World) : Calls Tryz.prog 45 #[.nilIface, .int .u64 (r : Int), .int .u64 (v : Int), .int .i64 acc] w fun e w' => e = .returned (.tuple #[.int .u64 0, .int .i64 1]) ∧ Below w.heap.size w w' := by
  go_enter Tryz.func45, Tryz.ntmps45
  go_wp2_with fail
  refine bodyPost_ret (v := .tuple #[.int .u64 0, .int .i64 1]) (by simp [results, Tryz.results45, go_sem]) rfl ?_
  exact ⟨rfl, by first | exact Below.refl _ _ | exact (Below.refl _ _).alloc (Nat.le_refl _) _⟩
set_option maxRecDepth 100000 in
set_option maxHeartbeats 2000000 in
theorem translate_nil (r v : Nat) (acc : Int) (w : World) : Calls Tryz.prog 17 #[.nilIface, .int .u64 (r : Int), .int .u64 (v : Int), .int .i64 acc] w fun e w' => e = .returned (.tuple #[.int .u64 0, .agg #[.int .i64 1, .int .u64 (v : Int)]]) ∧ Below w.heap.size w w' := by
  have HA : Hid (∀ W, Calls Tryz.prog 45 #[.nilIface, .int .u64 (r : Int), .int .u64 (v : Int), .int .i64 acc] W fun e w' => e = .returned (.tuple #[.int .u64 0, .int .i64 1]) ∧ Below W.heap.size W w') := address_nil r v acc
  go_enter Tryz.func17, Tryz.ntmps17
  go_wp2_with fail
  refine (HA.out _).mono ?_
  rintro e W3 ⟨rfl, hb1⟩
  have HX3 : Hid (BoxF W3 w.heap.size 0 0) := (BoxF.new w 0 0).below hb1
  have HB3 : Hid (Below w.heap.size w W3) := ((Below.refl _ w).alloc (Nat.le_refl _) _).trans (hb1.mono (by simp))
  obtain ⟨x0, x1, f0, f1⟩ := HX3.out.cells
  clear HA hb1
  go_wp2_with fail
  obtain ⟨d0, d1, _⟩ := (HX3.out.set 1 v).cells
  refine bodyPost_ret (v := .tuple #[.int .u64 0, .agg #[.int .i64 1, .int .u64 (v : Int)]]) (by simp [results, Tryz.results17, go_sem, d0, d1]) rfl ?_
  exact ⟨rfl, HB3.out.trans ((Keeps.two W3 w.heap.size (.int .i64 1) (.int .u64 (v : Int))).below HB3.out.size (fun i _ e => by omega))⟩
set_option maxRecDepth 100000 in
set_option maxHeartbeats 2000000 in
theorem reached_nil (r v : Nat) (k acc : Int) (w : World) : Calls Tryz.prog 59 #[.nilIface, .int .u64 (r : Int), .int .u64 (v : Int), .int .i64 k, .int .i64 acc] w fun e w' => e = .returned (.tuple #[.slice none 0 0, .agg #[.int .i64 1, .int .u64 (v : Int)]]) ∧ Below w.heap.size w w' := by
  go_enter Tryz.func59, Tryz.ntmps59
  go_wp2_with fail
  obtain ⟨d0, d1, _⟩ := (BoxF.new w 1 v).cells
  refine bodyPost_ret (v := .tuple #[.slice none 0 0, .agg #[.int .i64 1, .int .u64 (v : Int)]]) (by simp [results, Tryz.results59, go_sem]) rfl ?_
  exact ⟨rfl, (Below.refl _ w).alloc (Nat.le_refl _) _⟩
set_option maxRecDepth 100000 in
set_option maxHeartbeats 2000000 in
theorem take_nil (r v : Nat) (k acc : Int) (w : World) : Calls Tryz.prog 46 #[.nilIface, .int .u64 (r : Int), .int .u64 (v : Int), .int .i64 k, .int .i64 acc] w fun e w' => e = .returned (.tuple #[.int .u64 0, .agg #[.int .i64 1, .int .u64 (v : Int)]]) ∧ Below w.heap.size w w' := by
  have HR : Hid (∀ W, Calls Tryz.prog 59 #[.nilIface, .int .u64 (r : Int), .int .u64 (v : Int), .int .i64 k, .int .i64 acc] W fun e w' => e = .returned (.tuple #[.slice none 0 0, .agg #[.int .i64 1, .int .u64 (v : Int)]]) ∧ Below W.heap.size W w') := reached_nil r v k acc
  go_enter Tryz.func46, Tryz.ntmps46
  go_wp2_with fail
  refine (HR.out _).mono ?_
  rintro e w1 ⟨rfl, hb1⟩
  have HX1 : Hid (BoxF w1 w.heap.size 0 0) := (BoxF.new w 0 0).below hb1
  have hlt := HX1.out.lt
  have HB1 : Hid (Below w.heap.size w w1) := ((Below.refl _ w).alloc (Nat.le_refl _) _).trans (hb1.mono (by simp))
  clear hb1 HR
  obtain ⟨W3, hW3⟩ : ∃ W3, w1.alloc (Obj.cells #[.int .i64 1, .int .u64 (v : Int)] 68) = W3 := ⟨_, rfl⟩
  have HF3 : Hid (BoxF W3 w1.heap.size 1 v) := hW3 ▸ BoxF.new w1 1 v
  have HX3 : Hid (BoxF W3 w.heap.size 0 0) := hW3 ▸ HX1.out.below ((Below.refl _ _).alloc (Nat.le_refl _) _)
  have HB3 : Hid (Below w.heap.size w W3) := hW3 ▸ HB1.out.alloc HB1.out.size _
  have hne : w.heap.size ≠ w1.heap.size := by omega
  obtain ⟨x0, x1, f0, f1⟩ := HX3.out.cells
  obtain ⟨y0, y1, _, _⟩ := HF3.out.cells
  go_wp2_with fail
  clear hW3
  go_region_held3 (fun w' => w'.cell? ⟨w1.heap.size, 0, none⟩ = some (.int .i64 1) ∧ w'.cell? ⟨w1.heap.size, 1, none⟩ = some (.int .u64 (v : Int))) (go_keep) (fail)
  go_wp2_with fail
  obtain ⟨d0, d1, _⟩ := BoxF.cells (w := ((W3.setCell ⟨w.heap.size, 0, none⟩ (.int .i64 1)).setCell ⟨w.heap.size, 1, none⟩ (.int .u64 (v : Int))).drew) (HX3.out.set 1 v)
  refine bodyPost_ret (v := .tuple #[.int .u64 0, .agg #[.int .i64 1, .int .u64 (v : Int)]]) (by simp [results, Tryz.results46, go_sem, d0, d1]) rfl ?_
  exact ⟨rfl, (HB3.out.trans ((Keeps.two W3 w.heap.size (.int .i64 1) (.int .u64 (v : Int))).below HB3.out.size (fun i _ e => by omega))).drew⟩
set_option maxRecDepth 100000 in
set_option maxHeartbeats 2000000 in
theorem load_nil (r v : Nat) (k : Int) (w : World) : Calls Tryz.prog 19 #[.nilIface, .int .u64 (r : Int), .int .u64 (v : Int), .int .i64 k] w fun e w' => e = .returned (.tuple #[.int .u64 0, .agg #[.int .i64 1, .int .u64 (v : Int)]]) ∧ Below w.heap.size w w' := by
  have HA : Hid (∀ W, Calls Tryz.prog 46 #[.nilIface, .int .u64 (r : Int), .int .u64 (v : Int), .int .i64 k, .int .i64 1] W fun e w' => e = .returned (.tuple #[.int .u64 0, .agg #[.int .i64 1, .int .u64 (v : Int)]]) ∧ Below W.heap.size W w') := take_nil r v k 1
  go_enter Tryz.func19, Tryz.ntmps19
  go_wp2_with fail
  refine (HA.out _).mono ?_
  rintro e W3 ⟨rfl, hb1⟩
  have HX3 : Hid (BoxF W3 w.heap.size 0 0) := (BoxF.new w 0 0).below hb1
  have HB3 : Hid (Below w.heap.size w W3) := ((Below.refl _ w).alloc (Nat.le_refl _) _).trans (hb1.mono (by simp))
  obtain ⟨x0, x1, f0, f1⟩ := HX3.out.cells
  clear HA hb1
  go_wp2_with fail
  obtain ⟨d0, d1, _⟩ := (HX3.out.set 1 v).cells
  refine bodyPost_ret (v := .tuple #[.int .u64 0, .agg #[.int .i64 1, .int .u64 (v : Int)]]) (by simp [results, Tryz.results19, go_sem, d0, d1]) rfl ?_
  exact ⟨rfl, HB3.out.trans ((Keeps.two W3 w.heap.size (.int .i64 1) (.int .u64 (v : Int))).below HB3.out.size (fun i _ e => by omega))⟩
set_option maxRecDepth 100000 in
set_option maxHeartbeats 2000000 in
theorem store_nil (r v : Nat) (k : Int) (z : Nat) (w : World) : Calls Tryz.prog 28 #[.nilIface, .int .u64 (r : Int), .int .u64 (v : Int), .int .i64 k, .int .u64 (z : Int)] w fun e w' => e = .returned (.agg #[.int .i64 1, .int .u64 (v : Int)]) ∧ Below w.heap.size w w' := by
  have HR : Hid (∀ W, Calls Tryz.prog 59 #[.nilIface, .int .u64 (r : Int), .int .u64 (v : Int), .int .i64 k, .int .i64 2] W fun e w' => e = .returned (.tuple #[.slice none 0 0, .agg #[.int .i64 1, .int .u64 (v : Int)]]) ∧ Below W.heap.size W w') := reached_nil r v k 2
  go_enter Tryz.func28, Tryz.ntmps28
  go_wp2_with fail
  refine (HR.out _).mono ?_
  rintro e w1 ⟨rfl, hb1⟩
  have HX1 : Hid (BoxF w1 w.heap.size 0 0) := (BoxF.new w 0 0).below hb1
  have hlt := HX1.out.lt
  have HB1 : Hid (Below w.heap.size w w1) := ((Below.refl _ w).alloc (Nat.le_refl _) _).trans (hb1.mono (by simp))
  clear hb1 HR
  obtain ⟨W3, hW3⟩ : ∃ W3, w1.alloc (Obj.cells #[.int .i64 1, .int .u64 (v : Int)] 68) = W3 := ⟨_, rfl⟩
  have HF3 : Hid (BoxF W3 w1.heap.size 1 v) := hW3 ▸ BoxF.new w1 1 v
  have HX3 : Hid (BoxF W3 w.heap.size 0 0) := hW3 ▸ HX1.out.below ((Below.refl _ _).alloc (Nat.le_refl _) _)
  have HB3 : Hid (Below w.heap.size w W3) := hW3 ▸ HB1.out.alloc HB1.out.size _
  have hne : w.heap.size ≠ w1.heap.size := by omega
  obtain ⟨x0, x1, f0, f1⟩ := HX3.out.cells
  obtain ⟨y0, y1, _, _⟩ := HF3.out.cells
  go_wp2_with fail
  clear hW3
  obtain ⟨d0, d1, _⟩ := (HX3.out.set 1 v).cells
  refine bodyPost_ret (v := .agg #[.int .i64 1, .int .u64 (v : Int)]) (by simp [results, Tryz.results28, go_sem, d0, d1]) rfl ?_
  exact ⟨rfl, HB3.out.trans ((Keeps.two W3 w.heap.size (.int .i64 1) (.int .u64 (v : Int))).below HB3.out.size (fun i _ e => by omega))⟩
theorem cell_first (w : World) (v : Value) (t : TypeId) : (w.alloc (Obj.cells #[v] t)).cell? ⟨w.heap.size, 0, none⟩ = some v := by
  have := World.alloc_heap_new w (Obj.cells #[v] t)
  revert this
  generalize w.alloc _ = Wn
  intro this
  simp [World.cell?, this]
theorem cell_at {w : World} {v : Value} {t : TypeId} {k : Nat} (hk : k = w.heap.size) : (w.alloc (Obj.cells #[v] t)).cell? ⟨k, 0, none⟩ = some v := by
  subst hk
  exact cell_first w v t
theorem cell_more {w : World} {g : Nat} {v : Value} (o : Obj) (h : w.cell? ⟨g, 0, none⟩ = some v) : (w.alloc o).cell? ⟨g, 0, none⟩ = some v := (Keeps.alloc (S := fun _ => False) w o).cell' h (fun h => h)
set_option maxRecDepth 100000 in
set_option maxHeartbeats 2000000 in
theorem leaves_call (mv : Value) (hmv : mv = .nilIface ∨ ∃ T u, mv = .iface T u) (root : Nat) (most : Int) (w : World) : Calls Tryz.prog 15 #[mv, .int .u64 (root : Int), .int .i64 most] w fun e w' => e = .returned (.func (.func 40) #[] #[.pointer (some ⟨w.heap.size, 0, none⟩), .pointer (some ⟨w.heap.size + 2, 0, none⟩), .pointer (some ⟨w.heap.size + 1, 0, none⟩)]) ∧ w'.cell? ⟨w.heap.size, 0, none⟩ = some mv ∧ w'.cell? ⟨w.heap.size + 2, 0, none⟩ = some (.int .i64 most) ∧ w'.cell? ⟨w.heap.size + 1, 0, none⟩ = some (.int .u64 (root : Int)) ∧ w'.heap.size = w.heap.size + 3 ∧ Below w.heap.size w w' := by
  rcases hmv with rfl | ⟨T, u, rfl⟩
  all_goals (
    go_enter Tryz.func15, Tryz.ntmps15
    go_wp2
    go_ret
    refine ⟨rfl, ?_, ?_, ?_, by simp, (((Below.refl _ w).alloc (Nat.le_refl _) _).alloc (by simp) _).alloc (by simp; omega) _⟩
    · exact cell_more _ (cell_more _ (cell_first _ _ _))
    · exact cell_at (by simp)
    · exact cell_more _ (cell_at (by simp)))
set_option maxRecDepth 100000 in
set_option maxHeartbeats 2000000 in
theorem leaves1_nil {n l0 Bm Bo Br : Nat} {W : World} (hBm : W.cell? ⟨Bm, 0, none⟩ = some .nilIface) :
    CallsIn Fence.wide n Tryz.prog 40 #[.func (.yield l0) #[] #[], .pointer (some ⟨Bm, 0, none⟩), .pointer (some ⟨Bo, 0, none⟩), .pointer (some ⟨Br, 0, none⟩)] W fun e W' => (∃ v, e = .returned v) ∧ Below W.heap.size W W' := by
  have hbm : Bm < W.heap.size := World.block_lt_of_cell? W _ hBm
  refine callsIn_of_wp_marks Tryz.func40 rfl trivial ?_ rfl
  simp only [Tryz.ntmps40, List.size_toArray, List.length_cons, List.length_nil, Nat.reduceAdd, Nat.reduceSub, Array.replicate_succ, Array.replicate_zero, List.push_toArray, List.append_toArray, List.nil_append, List.cons_append]
  gi_wp2
  exact ⟨_, results_none rfl _ _ _, ⟨_, rfl⟩, (Below.refl _ W).alloc (Nat.le_refl _) _⟩
end Go.Proofs.YtfnikcjcgneboaaGreat
/- WalkNames, walked. Own work. -/
namespace Go.Proofs.YtfnikcjcgneboaaGreat
open Go.RowKit Go.Maps Go.Shelf Go.Proofs.YtfnikcjcgneboaaGreat.Sp Wk Lv
attribute [local go_sem] Oper.semAt_some
theorem equal_seq_nil (d : Nat) (w : World) (k : Nat) (xs : Array Value) : (Op.equalIn (d + 1) 61 (.func (.func k) #[] xs) .nilFunc).run Tryz.prog w = .ok false w := by
  have u := Tryz.underlying61
  unfold Op.equalIn
  simp only [Sem.run_bind, run_underlying u, Result.andThen_ok, Sem.run_pure]
theorem eql_seq_nil (w : World) (k : Nat) (xs : Array Value) : (binOp .eql 61 (.func (.func k) #[] xs) .nilFunc).run Tryz.prog w = .ok (.bool false) w := by
  have h := equal_seq_nil 9999 w k xs
  have e : binOp .eql 61 (.func (.func k) #[] xs) .nilFunc = (do pure (.bool (← Op.equalIn (9999 + 1) 61 (.func (.func k) #[] xs) .nilFunc)) : Sem Value) := by rfl
  rw [e, Sem.run_bind, h]
  rfl
theorem nqlF (w : World) (a b c d : Int) : (binOp .neq 68 (.agg #[.int .i64 a, .int .u64 b]) (.agg #[.int .i64 c, .int .u64 d])).run Tryz.prog w = .ok (.bool (!((a == c) && (b == d)))) w := by
  have u1 := Tryz.underlying65
  have a1 := Tryz.isAgg65
  have z1 := Tryz.sizeOf65
  have u := Tryz.underlying34
  have a2 := Tryz.isAgg34
  have z := Tryz.sizeOf34
  have hS : Tryz.prog.underlying 68 = some (.struct (Tryz.prog.fieldsOf 68)) := by kernel_rfl
  have hp : Tryz.prog.stoodInHeld 68 = false := by kernel_rfl
  rw [run_neq_struct, show (10000 : Nat) = 9999 + 1 from rfl, run_equalIn_agg w 9999 68 _ _ hS hp]
  simp only [Program.fieldsOf, Tryz.underlying68]
  go_simp
  by_cases h1 : a = c <;> by_cases h2 : b = d <;> simp [h1, h2]
theorem nqlL (w : World) (a b c : Int) (d e f : Bool) (a' b' c' : Int) (d' e' f' : Bool) : (binOp .neq 64 (.agg #[.int .u64 a, .int .u64 b, .int .i64 c, .bool d, .bool e, .bool f]) (.agg #[.int .u64 a', .int .u64 b', .int .i64 c', .bool d', .bool e', .bool f'])).run Tryz.prog w = .ok (.bool (!((a == a') && (b == b') && (c == c') && (d == d') && (e == e') && (f == f')))) w := by
  have u1 := Tryz.underlying4
  have a1 := Tryz.isAgg4
  have z1 := Tryz.sizeOf4
  have u3 := Tryz.underlying3
  have a3 := Tryz.isAgg3
  have z3 := Tryz.sizeOf3
  have u := Tryz.underlying34
  have a2 := Tryz.isAgg34
  have z := Tryz.sizeOf34
  have hS : Tryz.prog.underlying 64 = some (.struct (Tryz.prog.fieldsOf 64)) := by kernel_rfl
  have hp : Tryz.prog.stoodInHeld 64 = false := by kernel_rfl
  rw [run_neq_struct, show (10000 : Nat) = 9999 + 1 from rfl, run_equalIn_agg w 9999 64 _ _ hS hp]
  simp only [Program.fieldsOf, Tryz.underlying64]
  go_simp
  by_cases h1 : a = a' <;> by_cases h2 : b = b' <;> by_cases h3 : c = c' <;> by_cases h4 : d = d' <;> by_cases h5 : e = e' <;> by_cases h6 : f = f' <;> simp [h1, h2, h3, h4, h5, h6]
theorem guardL : Tryz.prog.eqGuardType Tryz.prog.depth 64 = false := by kernel_rfl
theorem lookx_any {w : World} {m B : Nat} {V : Value × Value × Value} {T : Nat → Option Nat} {M : Nat → Nat} {rs ds : List Sp} {n t k : Nat} {l : Int} (h : Mx w m B V T M rs ds n) (ht : t + 8 * k ≤ 18446744073709551615) (hn : n ≤ 4611686018427387904) :
    Calls Tryz.prog 67 #[MemV m, .int .u64 (t : Int), .int .u64 (k : Int), .int .i64 l] w fun e w' => e = .returned (.tuple #[EntV (lookF (rs ++ ds) M (t + 8 * k) l).1, .int .i64 (lookF (rs ++ ds) M (t + 8 * k) l).2]) ∧ Mx w' m B V T M rs ds (n + 1) ∧ Keeps (fun j => j = m) w w' := by
  obtain ⟨L, S, X, h1, h2, h3, h4⟩ := h
  refine (look_any h4 ht (by omega)).mono ?_
  rintro e w' ⟨r, b, rfl, hr, hm, hk⟩
  rw [look_is hr]
  exact ⟨rfl, ⟨L, S, up b X, by omega, by omega, by cases b <;> simp [up] <;> omega, hm⟩, hk⟩
end Go.Proofs.YtfnikcjcgneboaaGreat
/- What Leaves tells of a memory that stays as it is: a list that covers what is mapped. Plain mathematics. Own work. -/
namespace Go.Proofs.YtfnikcjcgneboaaGreat.Lv
open Wk
/-- looks that leave all as it was; what is told is kept -/
def lkL (f : Nat → Nat → Ent × Int) (s : List Slt) (fr i lev : Nat) : (Ent × Int) × List Slt := (f (fr + 8 * i) lev, s)
def ydL (s : List Slt) (x : Slt) : List Slt := s ++ [x]
def ctL (_ : List Slt) (_ : Slt) : Bool := true
/-- the entry at which an address ends -/
def leafG (f : Nat → Nat → Ent × Int) (v : Nat) : Nat → Nat → Nat → Ent × Int
  | 0, _, _ => (no, 42)
  | n + 1, l, t => if (f (t + 8 * (v / rch l % 512)) l).2 ≠ 0 ∨ (f (t + 8 * (v / rch l % 512)) l).1.2.1 = false then f (t + 8 * (v / rch l % 512)) l else leafG f v n (l + 1) (f (t + 8 * (v / rch l % 512)) l).1.1
/-- a list covers what g maps from lo up to hi -/
structure Cov (P : Nat → Ent × Int → Prop) (g : Nat → Ent × Int) (lo hi : Nat) (l : List Slt) : Prop where
  inn : ∀ x ∈ l, lo ≤ x.1 ∧ x.1 + rch x.2.1 ≤ hi ∧ x.2.1 ≤ 2 ∧ x.1 % rch x.2.1 = 0 ∧ x.2.2.1.2.1 = false ∧ x.2.2.2 ≠ 41 ∧ P x.2.1 x.2.2
  val : ∀ x ∈ l, ∀ v, x.1 ≤ v → v < x.1 + rch x.2.1 → g v = x.2.2
  ord : l.Pairwise (fun x y => x.1 + rch x.2.1 ≤ y.1)
  all : ∀ v, lo ≤ v → v < hi → (g v).2 = 41 ∨ ∃ x ∈ l, x.1 ≤ v ∧ v < x.1 + rch x.2.1
theorem Cov.empty (P : Nat → Ent × Int → Prop) (g : Nat → Ent × Int) (lo : Nat) : Cov P g lo lo [] :=
  ⟨by simp, by simp, List.Pairwise.nil, fun v h1 h2 => absurd h2 (by omega)⟩
theorem Cov.none {P : Nat → Ent × Int → Prop} {g : Nat → Ent × Int} {lo hi : Nat} (h : ∀ v, lo ≤ v → v < hi → (g v).2 = 41) : Cov P g lo hi [] :=
  ⟨by simp, by simp, List.Pairwise.nil, fun v h1 h2 => .inl (h v h1 h2)⟩
theorem Cov.congr {P : Nat → Ent × Int → Prop} {g g' : Nat → Ent × Int} {lo hi : Nat} {l : List Slt} (h : Cov P g lo hi l) (he : ∀ v, lo ≤ v → v < hi → g' v = g v) : Cov P g' lo hi l where
  inn := h.inn
  val := fun x hx v h1 h2 => by
    have := h.inn x hx
    rw [he v (by omega) (by omega), h.val x hx v h1 h2]
  ord := h.ord
  all := fun v h1 h2 => by rw [he v h1 h2]; exact h.all v h1 h2
theorem Cov.append {P : Nat → Ent × Int → Prop} {g : Nat → Ent × Int} {lo mid hi : Nat} {l1 l2 : List Slt} (h1 : Cov P g lo mid l1) (h2 : Cov P g mid hi l2) (ha : lo ≤ mid) (hb : mid ≤ hi) : Cov P g lo hi (l1 ++ l2) where
  inn := fun x hx => by
    rcases List.mem_append.1 hx with h | h
    · have := h1.inn x h
      exact ⟨by omega, by omega, this.2.2⟩
    · have := h2.inn x h
      exact ⟨by omega, by omega, this.2.2⟩
  val := fun x hx => by
    rcases List.mem_append.1 hx with h | h
    · exact h1.val x h
    · exact h2.val x h
  ord := List.pairwise_append.2 ⟨h1.ord, h2.ord, fun x hx y hy => by
    have := h1.inn x hx
    have := h2.inn y hy
    omega⟩
  all := fun v ha hb => by
    by_cases hm : v < mid
    · rcases h1.all v ha hm with h | ⟨x, hx, h⟩
      · exact .inl h
      · exact .inr ⟨x, List.mem_append.2 (.inl hx), h⟩
    · rcases h2.all v (by omega) hb with h | ⟨x, hx, h⟩
      · exact .inl h
      · exact .inr ⟨x, List.mem_append.2 (.inr hx), h⟩
theorem Cov.single {P : Nat → Ent × Int → Prop} {g : Nat → Ent × Int} {x : Slt} (h1 : x.2.1 ≤ 2) (h2 : x.1 % rch x.2.1 = 0) (h3 : x.2.2.1.2.1 = false) (h4 : x.2.2.2 ≠ 41) (h5 : P x.2.1 x.2.2) (hv : ∀ v, x.1 ≤ v → v < x.1 + rch x.2.1 → g v = x.2.2) : Cov P g x.1 (x.1 + rch x.2.1) [x] where
  inn := fun y hy => by
    have := List.mem_singleton.1 hy
    subst this
    exact ⟨Nat.le_refl _, Nat.le_refl _, h1, h2, h3, h4, h5⟩
  val := fun y hy => by
    have := List.mem_singleton.1 hy
    subst this
    exact hv
  ord := List.pairwise_singleton _ _
  all := fun v ha hb => .inr ⟨x, List.mem_singleton.2 rfl, ha, hb⟩
theorem rch_cases (lev : Nat) : rch lev = 1073741824 ∨ rch lev = 2097152 ∨ rch lev = 4096 := by
  unfold rch
  split
  · exact .inl rfl
  · split
    · exact .inr (.inl rfl)
    · exact .inr (.inr rfl)
theorem idx_at {lev virt i v : Nat} (hv : virt % (512 * rch lev) = 0) (hi : i < 512) (h1 : virt + i * rch lev ≤ v) (h2 : v < virt + (i + 1) * rch lev) : v / rch lev % 512 = i := by
  rcases rch_cases lev with h | h | h <;> rw [h] at hv h1 h2 ⊢ <;> omega
theorem rch_down {lev : Nat} (h : lev < 2) : 512 * rch (lev + 1) = rch lev := by
  have : lev = 0 ∨ lev = 1 := by omega
  rcases this with rfl | rfl <;> rfl
theorem tab_before {σ : Type} {lk : σ → Nat → Nat → Nat → (Ent × Int) × σ} {yd : σ → Slt → σ} {ct : σ → Slt → Bool} {deep : Nat → Nat → Nat → St σ → St σ} {fr virt lev i : Nat} {t : St σ} (h : (tabN lk yd ct deep fr virt lev (i + 1) t).go = true) : (tabN lk yd ct deep fr virt lev i t).go = true := by
  cases hc : (tabN lk yd ct deep fr virt lev i t).go with
  | true => rfl
  | false => rw [tabN, if_neg (by rw [hc]; decide)] at h; rw [← hc]; exact h
theorem tab_cov {f : Nat → Nat → Ent × Int} {P : Nat → Ent × Int → Prop} (hP : ∀ a l, l ≤ 2 → P l (f a l)) (hno : ∀ a l, (f a l).2 ≠ 0 → (f a l).1.2.1 = false) (h2 : ∀ a, (f a 2).1.2.1 = false) {deep : Nat → Nat → Nat → St (List Slt) → St (List Slt)} {n fr virt lev : Nat} (hv : virt % (512 * rch lev) = 0) (hlev : lev ≤ 2)
    (hd : lev < 2 → ∀ a b t, b % rch lev = 0 → (deep a b (lev + 1) t).go = true → ∃ l, (deep a b (lev + 1) t).s = t.s ++ l ∧ Cov P (fun v => leafG f v n (lev + 1) a) b (b + rch lev) l) (t : St (List Slt)) :
    ∀ i, i ≤ 512 → (tabN (lkL f) ydL ctL deep fr virt lev i t).go = true → ∃ l, (tabN (lkL f) ydL ctL deep fr virt lev i t).s = t.s ++ l ∧ Cov P (fun v => leafG f v (n + 1) lev fr) virt (virt + i * rch lev) l
  | 0, _, _ => ⟨[], by simp [tabN], by simpa using Cov.empty _ _ _⟩
  | i + 1, hi, hg => by
    have hg0 := tab_before hg
    obtain ⟨l, hs, hc⟩ := tab_cov hP hno h2 hv hlev hd t i (by omega) hg0
    rw [tabN_go hg0] at hg ⊢
    generalize tabN (lkL f) ydL ctL deep fr virt lev i t = T at hs hg hg0 ⊢
    have hmul : (i + 1) * rch lev = i * rch lev + rch lev := Nat.succ_mul _ _
    have hat : ∀ v, virt + i * rch lev ≤ v → v < virt + (i + 1) * rch lev → leafG f v (n + 1) lev fr = if (f (fr + 8 * i) lev).2 ≠ 0 ∨ (f (fr + 8 * i) lev).1.2.1 = false then f (fr + 8 * i) lev else leafG f v n (lev + 1) (f (fr + 8 * i) lev).1.1 := fun v a b => by
      rw [leafG, idx_at hv (by omega) a b]
    have hal : (virt + i * rch lev) % rch lev = 0 := by
      rw [Nat.add_mul_mod_self_right]
      exact Nat.mod_eq_zero_of_dvd (Nat.dvd_trans (Nat.dvd_mul_left _ _) (Nat.dvd_of_mod_eq_zero hv))
    unfold stepS at hg ⊢
    simp only [lkL] at hg ⊢
    obtain ⟨r, hr⟩ : ∃ r, r = f (fr + 8 * i) lev := ⟨_, rfl⟩
    have hn1 : r.2 ≠ 0 → r.1.2.1 = false := by rw [hr]; exact hno _ _
    have hn3 : P lev r := by rw [hr]; exact hP _ _ hlev
    have hn2 : lev = 2 → r.1.2.1 = false := fun e => by rw [hr, e]; exact h2 _
    simp only [← hr] at hat hg ⊢
    clear hr
    by_cases ha : r.2 = 41
    · rw [if_pos ha] at hg ⊢
      refine ⟨l, hs, ?_⟩
      have := hc.append (hi := virt + (i + 1) * rch lev) (l2 := []) (Cov.none fun v a b => ?_) (by omega) (by omega)
      · simpa using this
      · show (leafG f v (n + 1) lev fr).2 = 41
        rw [hat v a b, if_pos (.inl (by omega)), ha]
    · rw [if_neg ha] at hg ⊢
      cases ht : r.1.2.1 with
      | true =>
        have h0 : r.2 = 0 := by
          by_cases h : r.2 = 0
          · exact h
          · rw [hn1 h] at ht; exact absurd ht (by decide)
        have hl2 : lev < 2 := by
          by_cases h : lev = 2
          · rw [hn2 h] at ht; exact absurd ht (by decide)
          · omega
        have hx : visitS ydL ctL { s := T.s, left := T.left, go := T.go } (slotS virt lev i r) = { s := T.s, left := T.left - 1, go := decide (1 < T.left) } := by
          unfold visitS
          rw [if_pos (show (slotS virt lev i r).2.2.1.2.1 = true from ht)]
        rw [hx, ht] at hg
        rw [hx]
        cases hq : decide (1 < T.left) with
        | false => rw [hq] at hg; exact absurd hg (by simp)
        | true =>
          rw [hq] at hg
          simp only [Bool.and_self, if_true] at hg ⊢
          obtain ⟨l2, e2, c2⟩ := hd hl2 _ _ _ hal hg
          refine ⟨l ++ l2, by rw [e2]; show T.s ++ l2 = _; rw [hs, List.append_assoc], ?_⟩
          have c3 : Cov P (fun v => leafG f v (n + 1) lev fr) (virt + i * rch lev) (virt + i * rch lev + rch lev) l2 := c2.congr fun v a b => by
            show leafG f v (n + 1) lev fr = leafG f v n (lev + 1) r.1.1
            rw [hat v a (by omega), if_neg (by rw [h0, ht]; simp)]
          have := hc.append c3 (by omega) (by omega)
          rw [hmul, ← Nat.add_assoc]
          exact this
      | false =>
        have hx : visitS ydL ctL { s := T.s, left := T.left, go := T.go } (slotS virt lev i r) = { s := T.s ++ [slotS virt lev i r], left := T.left - 1, go := decide (1 < T.left) } := by
          unfold visitS
          rw [if_neg (by rw [show (slotS virt lev i r).2.2.1.2.1 = false from ht]; decide)]
          simp [ydL, ctL]
        rw [hx]
        simp only [Bool.and_false, Bool.false_eq_true, if_false]
        refine ⟨l ++ [slotS virt lev i r], by rw [hs, List.append_assoc], ?_⟩
        have c2 : Cov P (fun v => leafG f v (n + 1) lev fr) (virt + i * rch lev) (virt + i * rch lev + rch lev) [slotS virt lev i r] := Cov.single (x := slotS virt lev i r) hlev hal ht ha hn3 fun v a b => by
          have a' : virt + i * rch lev ≤ v := a
          have b' : v < virt + i * rch lev + rch lev := b
          show leafG f v (n + 1) lev fr = r
          rw [hat v a' (by omega), if_pos (.inr ht)]
        have := hc.append c2 (by omega) (by omega)
        rw [hmul, ← Nat.add_assoc]
        exact this
theorem deep2_cov {f : Nat → Nat → Ent × Int} {P : Nat → Ent × Int → Prop} (hP : ∀ a l, l ≤ 2 → P l (f a l)) (hno : ∀ a l, (f a l).2 ≠ 0 → (f a l).1.2.1 = false) (h2 : ∀ a, (f a 2).1.2.1 = false) (a b : Nat) (t : St (List Slt)) (hb : b % rch 1 = 0) (hg : (deep2 (lkL f) ydL ctL a b 2 t).go = true) : ∃ l, (deep2 (lkL f) ydL ctL a b 2 t).s = t.s ++ l ∧ Cov P (fun v => leafG f v 1 2 a) b (b + rch 1) l :=
  tab_cov hP hno h2 (n := 0) (lev := 2) hb (by omega) (fun h => absurd h (by omega)) t 512 (by omega) hg
theorem deep1_cov {f : Nat → Nat → Ent × Int} {P : Nat → Ent × Int → Prop} (hP : ∀ a l, l ≤ 2 → P l (f a l)) (hno : ∀ a l, (f a l).2 ≠ 0 → (f a l).1.2.1 = false) (h2 : ∀ a, (f a 2).1.2.1 = false) (a b : Nat) (t : St (List Slt)) (hb : b % rch 0 = 0) (hg : (deep1 (lkL f) ydL ctL a b 1 t).go = true) : ∃ l, (deep1 (lkL f) ydL ctL a b 1 t).s = t.s ++ l ∧ Cov P (fun v => leafG f v 2 1 a) b (b + rch 0) l :=
  tab_cov hP hno h2 (n := 1) (lev := 1) hb (by omega) (fun _ => deep2_cov hP hno h2) t 512 (by omega) hg
/-- what Leaves tells, where it comes to the end -/
theorem all_cov {f : Nat → Nat → Ent × Int} {P : Nat → Ent × Int → Prop} (hP : ∀ a l, l ≤ 2 → P l (f a l)) (hno : ∀ a l, (f a l).2 ≠ 0 → (f a l).1.2.1 = false) (h2 : ∀ a, (f a 2).1.2.1 = false) (root : Nat) (t : St (List Slt)) (hg : (allS (lkL f) ydL ctL root t).go = true) : ∃ l, (allS (lkL f) ydL ctL root t).s = t.s ++ l ∧ Cov P (fun v => leafG f v 3 0 root) 0 549755813888 l := by
  have := tab_cov hP hno h2 (n := 2) (fr := root) (virt := 0) (lev := 0) (Nat.zero_mod _) (by omega) (fun _ => deep1_cov hP hno h2) t 512 (by omega) hg
  simpa [rch, allS] using this
end Go.Proofs.YtfnikcjcgneboaaGreat.Lv
