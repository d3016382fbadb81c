/- SpanNames: the walk (made by gen_spnames.py). Own work. -/
import Derived.Test.YtabgmlnlooiddaaGreatSpAllU64
import Derived.Test.YtabgmlnlooiddaaGreatSpFitU64
import Derived.Test.YtabgmlnlooiddaaGreatSpFitU16
import Derived.Test.YtabgmlnlooiddaaGreatSpFitU8
import Derived.Test.YtabgmlnlooiddaaGreatSpSameU16
import Derived.Test.YtabgmlnlooiddaaGreatSpSameU8
import Derived.Test.YtabgmlnlooiddaaGreatSpSizeU64
import Derived.Test.YtabgmlnlooiddaaGreatSpSizeU16
import Derived.Test.YtabgmlnlooiddaaGreatSpAskU64
import Derived.Test.YtabgmlnlooiddaaGreatSpAskU16
import Derived.Test.YtabgmlnlooiddaaGreatSpWithU16
import Derived.Laws.StructEq
import Derived.Deep.RegionHeld3
namespace Go.Proofs.YtabgmlnlooiddaaGreat
open Go.RowKit Go.Shelf Go.Proofs.YtabgmlnlooiddaaGreat.Sp
attribute [local go_sem] Oper.semAt_some
theorem one_of {m a b : Int} {rs : List Sp} (h : OfR m [(a, b)] rs) (h0 : 0 ≤ a ∧ a ≤ b ∧ b ≤ m) : rs = [(a, b)] := canon_ext h.1 (canon_cons.2 ⟨h0, fun y hy => (by cases hy), canon_nil m⟩) h.2.1
theorem none_of {m : Int} {rs : List Sp} (h : OfR m [] rs) : rs = [] := List.eq_nil_of_length_eq_zero (Nat.le_zero.1 h.2.2)
theorem canon_one {m a b : Int} (h0 : 0 ≤ a ∧ a ≤ b ∧ b ≤ m) : Canon m [(a, b)] := canon_cons.2 ⟨h0, fun y hy => (by cases hy), canon_nil m⟩
/-- a block of one cell -/
def OneC (w : World) (b : Nat) (t : TypeId) (v : Value) : Prop := w.heap[b]? = some (.cells #[v] t (0, 0))
theorem OneC.lt {w : World} {b : Nat} {t : TypeId} {v : Value} (h : OneC w b t v) : b < w.heap.size := (Array.getElem?_eq_some_iff.1 h).1
theorem OneC.below {w w' : World} {b : Nat} {t : TypeId} {v : Value} (h : OneC w b t v) (hb : Below w.heap.size w w') : OneC w' b t v := (hb.block b h.lt).trans h
theorem OneC.alloc {w : World} {b : Nat} {t : TypeId} {v : Value} (h : OneC w b t v) (o : Obj) : OneC (w.alloc o) b t v := h.below ((Below.refl _ _).alloc (Nat.le_refl _) _)
theorem OneC.cell {w : World} {b : Nat} {t : TypeId} {v : Value} (h : OneC w b t v) : w.cell? ⟨b, 0, none⟩ = some v := by
  rw [cell_of_row w b _ _ _ _ h]; rfl
theorem OneC.thawed {w : World} {b : Nat} {t : TypeId} {v : Value} (h : OneC w b t v) : w.frozen? ⟨b, 0, none⟩ = false := by
  simp [World.frozen?, show w.heap[b]? = _ from h]
theorem OneC.set {w : World} {b : Nat} {t : TypeId} {v : Value} (h : OneC w b t v) (v' : Value) : OneC (w.setCell ⟨b, 0, none⟩ v') b t v' := by
  have h' : w.heap[b]? = _ := h
  simp [OneC, World.setCell, Array.getElem?_modify, h']
theorem neq_span_yes (w : World) (x : Sp) (h : x = (0, 18446744073709551615)) : (binOp .neq 43 (.agg #[.int .u64 x.1, .int .u64 x.2]) (.agg #[.int .u64 0, .int .u64 18446744073709551615])).run Tryz.prog w = .ok (.bool false) w := by
  subst h
  have u := Tryz.underlying25
  have a2 := Tryz.isAgg25
  have z := Tryz.sizeOf25
  have hS : Tryz.prog.underlying 43 = some (.struct (Tryz.prog.fieldsOf 43)) := by kernel_rfl
  have hp : Tryz.prog.stoodInHeld 43 = false := by kernel_rfl
  rw [run_neq_struct, show (10000 : Nat) = 9999 + 1 from rfl, run_equalIn_agg w 9999 43 _ _ hS hp]
  simp only [Program.fieldsOf, Tryz.underlying43]
  go_simp
theorem neq_span_no (w : World) (x : Sp) (h : x ≠ (0, 18446744073709551615)) : (binOp .neq 43 (.agg #[.int .u64 x.1, .int .u64 x.2]) (.agg #[.int .u64 0, .int .u64 18446744073709551615])).run Tryz.prog w = .ok (.bool true) w := by
  obtain ⟨a, b⟩ := x
  have u := Tryz.underlying25
  have a2 := Tryz.isAgg25
  have z := Tryz.sizeOf25
  have hS : Tryz.prog.underlying 43 = some (.struct (Tryz.prog.fieldsOf 43)) := by kernel_rfl
  have hp : Tryz.prog.stoodInHeld 43 = false := by kernel_rfl
  rw [run_neq_struct, show (10000 : Nat) = 9999 + 1 from rfl, run_equalIn_agg w 9999 43 _ _ hS hp]
  simp only [Program.fieldsOf, Tryz.underlying43]
  go_simp
  by_cases h1 : a = 0
  · have h2 : b ≠ 18446744073709551615 := fun e => h (by rw [h1, e])
    simp [h1, h2]
  · simp [h1]
theorem guard_span : Tryz.prog.eqGuardType Tryz.prog.depth 43 = false := by kernel_rfl
theorem guard_spans (w : World) (x y : Operand) (a b c d : Value) : (eqGuard .neq 43 x y (.agg #[a, b]) (.agg #[c, d])).run Tryz.prog w = .ok () w := run_eqGuard_agg w _ _ _ _ _ _ guard_span
theorem ownFrom_one {β : Type} {B b n : Nat} {t : TypeId} {f : β → Value} {w : World} (hn : n ≤ B) : OwnFrom B (fun (s : β) W => OneC W b t (f s) ∧ Below n w W ∧ n ≤ W.heap.size) := fun s W W' row ⟨h1, h2, h3⟩ hg hr =>
  ⟨(hg.block b h1.lt (fun e => by obtain ⟨_, o, ho, hc⟩ := hr b e.symm; rw [show W.heap[b]? = _ from h1] at ho; cases ho; cases hc)).trans h1, h2.grown hg h3 (fun j e => Nat.le_trans hn (hr j e).1), Nat.le_trans h3 hg.size⟩
def DefC (w : World) (D : Nat) : Prop := w.heap[D]? = some (.deferred (some []))
theorem DefC.below {B : Nat} {w w' : World} {D : Nat} (h : DefC w D) (hb : Below B w w') (hB : w.heap.size ≤ B) : DefC w' D := (hb.block D (Nat.lt_of_lt_of_le (Array.getElem?_eq_some_iff.1 h).1 hB)).trans h
theorem DefC.alloc {w : World} {D : Nat} (h : DefC w D) (o : Obj) : DefC (w.alloc o) D := h.below ((Below.refl _ _).alloc (Nat.le_refl _) _) (Nat.le_refl _)
def Bad (pre : List Sp) : Prop := ∃ x ∈ pre, x ≠ (0, 18446744073709551615)
def TwoC (w : World) (b : Nat) (x : Sp) : Prop := w.heap[b]? = some (.cells #[.int .u64 x.1, .int .u64 x.2] 43 (0, 0))
theorem TwoC.lt {w : World} {b : Nat} {x : Sp} (h : TwoC w b x) : b < w.heap.size := (Array.getElem?_eq_some_iff.1 h).1
theorem TwoC.cells {w : World} {b : Nat} {x : Sp} (h : TwoC w b x) : w.cell? ⟨b, 0, none⟩ = some (.int .u64 x.1) ∧ w.cell? ⟨b, 1, none⟩ = some (.int .u64 x.2) := by
  refine ⟨?_, ?_⟩ <;> rw [cell_of_row w b _ _ _ _ h] <;> rfl
set_option maxRecDepth 100000 in
set_option maxHeartbeats 8000000 in
theorem names_any (w : World) : Calls Tryz.prog 3 #[] w fun e w' => e = .returned (.bool true) ∧ Below w.heap.size w w' := by
  have HN : Hid (∀ W, U16.SV W (.slice none 0 0) []) := U16.SV.nil
  refine (callsIn_wide (n := 6)).1 ?_
  refine callsIn_of_wp_marks Tryz.func3 rfl trivial ?_ rfl
  simp only [Tryz.ntmps3, List.size_toArray, List.length_nil, Nat.reduceSub, Array.replicate_succ, Array.replicate_zero, List.push_toArray, List.append_toArray, List.nil_append, List.cons_append]
  refine wpIn_wide.2 ?_
  go_wp2_with fail
  have HB0 : Hid (Below w.heap.size w ((w.alloc (Obj.cells #[.bool false] 4)).alloc (Obj.cells #[.slice none 0 0] 24))) := ((Below.refl _ _).alloc (Nat.le_refl _) _).alloc (by simp) _
  have HR0 : Hid (OneC ((w.alloc (Obj.cells #[.bool false] 4)).alloc (Obj.cells #[.slice none 0 0] 24)) w.heap.size 4 (.bool false)) := (show OneC (w.alloc (Obj.cells #[.bool false] 4)) w.heap.size 4 (.bool false) from heap_alloc_new w _).alloc _
  have HX0 : Hid (OneC ((w.alloc (Obj.cells #[.bool false] 4)).alloc (Obj.cells #[.slice none 0 0] 24)) (w.heap.size + 1) 24 (.slice none 0 0)) := by
    have := heap_alloc_new (w.alloc (Obj.cells #[.bool false] 4)) (Obj.cells #[.slice none 0 0] 24)
    rwa [show (w.alloc (Obj.cells #[.bool false] 4)).heap.size = w.heap.size + 1 by simp] at this
  refine (U16.size_any (HN.out _) (canon_nil _)).mono ?_
  rintro e w1 ⟨he, hb⟩
  obtain rfl : e = .returned (.tuple #[.int .u64 0, .bool true]) := by rw [he, show sizeB [] = (0, true) by decide]
  have HR1 : Hid (OneC w1 w.heap.size 4 (.bool false)) := OneC.below (by first | exact HR0.out | exact HR0.out.alloc _ | exact (HR0.out.alloc _).alloc _ | exact ((HR0.out.alloc _).alloc _).alloc _) hb
  have HX1 : Hid (OneC w1 (w.heap.size + 1) 24 (.slice none 0 0)) := OneC.below (by first | exact HX0.out | exact HX0.out.alloc _ | exact (HX0.out.alloc _).alloc _ | exact ((HX0.out.alloc _).alloc _).alloc _) hb
  have HB1 : Hid (Below w.heap.size w w1) := Below.trans (by first | exact HB0.out | exact HB0.out.alloc HB0.out.size _ | exact (HB0.out.alloc HB0.out.size _).alloc (by have := HB0.out.size; simp; omega) _ | exact ((HB0.out.alloc HB0.out.size _).alloc (by have := HB0.out.size; simp; omega) _).alloc (by have := HB0.out.size; simp; omega) _) (hb.mono (by have := HB0.out.size; simp; try omega))
  clear he
  clear hb HR0 HX0 HB0
  have cR := HR1.out.cell
  have dR := fun o => (HR1.out.alloc o).cell
  have eR := fun o o' => ((HR1.out.alloc o).alloc o').cell
  have cX := HX1.out.cell
  have dX := fun o => (HX1.out.alloc o).cell
  have eX := fun o o' => ((HX1.out.alloc o).alloc o').cell
  go_wp2_with fail
  clear cR dR eR cX dX eX
  refine (U16.largest_none (HN.out _)).mono ?_
  rintro e w2 ⟨he, hb⟩
  obtain rfl : e = .returned (.tuple #[.agg #[.int .u16 0, .int .u16 0], .bool false]) := by rw [he]
  have HR2 : Hid (OneC w2 w.heap.size 4 (.bool false)) := OneC.below (by first | exact HR1.out | exact HR1.out.alloc _ | exact (HR1.out.alloc _).alloc _ | exact ((HR1.out.alloc _).alloc _).alloc _) hb
  have HX2 : Hid (OneC w2 (w.heap.size + 1) 24 (.slice none 0 0)) := OneC.below (by first | exact HX1.out | exact HX1.out.alloc _ | exact (HX1.out.alloc _).alloc _ | exact ((HX1.out.alloc _).alloc _).alloc _) hb
  have HB2 : Hid (Below w.heap.size w w2) := Below.trans (by first | exact HB1.out | exact HB1.out.alloc HB1.out.size _ | exact (HB1.out.alloc HB1.out.size _).alloc (by have := HB1.out.size; simp; omega) _ | exact ((HB1.out.alloc HB1.out.size _).alloc (by have := HB1.out.size; simp; omega) _).alloc (by have := HB1.out.size; simp; omega) _) (hb.mono (by have := HB1.out.size; simp; try omega))
  clear he
  clear hb HR1 HX1 HB1
  have cR := HR2.out.cell
  have dR := fun o => (HR2.out.alloc o).cell
  have eR := fun o o' => ((HR2.out.alloc o).alloc o').cell
  have cX := HX2.out.cell
  have dX := fun o => (HX2.out.alloc o).cell
  have eX := fun o o' => ((HX2.out.alloc o).alloc o').cell
  go_wp2_with fail
  clear cR dR eR cX dX eX
  refine (U16.fit_any (size := 1) (al := 1) (HN.out _) (canon_nil _) (by decide) (by decide)).mono ?_
  rintro e w3 ⟨he, hb⟩
  obtain rfl : e = .returned (.tuple #[.int .u16 0, .bool false]) := by rw [he, show U16.fitL 1 1 [] = (0, false) by decide]
  have HR3 : Hid (OneC w3 w.heap.size 4 (.bool false)) := OneC.below (by first | exact HR2.out | exact HR2.out.alloc _ | exact (HR2.out.alloc _).alloc _ | exact ((HR2.out.alloc _).alloc _).alloc _) hb
  have HX3 : Hid (OneC w3 (w.heap.size + 1) 24 (.slice none 0 0)) := OneC.below (by first | exact HX2.out | exact HX2.out.alloc _ | exact (HX2.out.alloc _).alloc _ | exact ((HX2.out.alloc _).alloc _).alloc _) hb
  have HB3 : Hid (Below w.heap.size w w3) := Below.trans (by first | exact HB2.out | exact HB2.out.alloc HB2.out.size _ | exact (HB2.out.alloc HB2.out.size _).alloc (by have := HB2.out.size; simp; omega) _ | exact ((HB2.out.alloc HB2.out.size _).alloc (by have := HB2.out.size; simp; omega) _).alloc (by have := HB2.out.size; simp; omega) _) (hb.mono (by have := HB2.out.size; simp; try omega))
  clear he
  clear hb HR2 HX2 HB2
  have cR := HR3.out.cell
  have dR := fun o => (HR3.out.alloc o).cell
  have eR := fun o o' => ((HR3.out.alloc o).alloc o').cell
  have cX := HX3.out.cell
  have dX := fun o => (HX3.out.alloc o).cell
  have eX := fun o o' => ((HX3.out.alloc o).alloc o').cell
  go_wp2_with fail
  clear cR dR eR cX dX eX
  refine (U16.has_any (p := 0) (HN.out _) (canon_nil _) (by decide)).mono ?_
  rintro e w4 ⟨he, hb⟩
  obtain rfl : e = .returned (.bool false) := by rw [he, show coversB [] (0, 0) = false by decide]
  have HR4 : Hid (OneC w4 w.heap.size 4 (.bool false)) := OneC.below (by first | exact HR3.out | exact HR3.out.alloc _ | exact (HR3.out.alloc _).alloc _ | exact ((HR3.out.alloc _).alloc _).alloc _) hb
  have HX4 : Hid (OneC w4 (w.heap.size + 1) 24 (.slice none 0 0)) := OneC.below (by first | exact HX3.out | exact HX3.out.alloc _ | exact (HX3.out.alloc _).alloc _ | exact ((HX3.out.alloc _).alloc _).alloc _) hb
  have HB4 : Hid (Below w.heap.size w w4) := Below.trans (by first | exact HB3.out | exact HB3.out.alloc HB3.out.size _ | exact (HB3.out.alloc HB3.out.size _).alloc (by have := HB3.out.size; simp; omega) _ | exact ((HB3.out.alloc HB3.out.size _).alloc (by have := HB3.out.size; simp; omega) _).alloc (by have := HB3.out.size; simp; omega) _) (hb.mono (by have := HB3.out.size; simp; try omega))
  clear he
  clear hb HR3 HX3 HB3
  have cR := HR4.out.cell
  have dR := fun o => (HR4.out.alloc o).cell
  have eR := fun o o' => ((HR4.out.alloc o).alloc o').cell
  have cX := HX4.out.cell
  have dX := fun o => (HX4.out.alloc o).cell
  have eX := fun o o' => ((HX4.out.alloc o).alloc o').cell
  go_wp2_with fail
  clear cR dR eR cX dX eX
  refine (U16.covers_any (x := (2, 1)) (HN.out _) (canon_nil _) (by decide)).mono ?_
  rintro e w5 ⟨he, hb⟩
  obtain rfl : e = .returned (.bool true) := by rw [he, show coversB [] (2, 1) = true by decide]
  have HR5 : Hid (OneC w5 w.heap.size 4 (.bool false)) := OneC.below (by first | exact HR4.out | exact HR4.out.alloc _ | exact (HR4.out.alloc _).alloc _ | exact ((HR4.out.alloc _).alloc _).alloc _) hb
  have HX5 : Hid (OneC w5 (w.heap.size + 1) 24 (.slice none 0 0)) := OneC.below (by first | exact HX4.out | exact HX4.out.alloc _ | exact (HX4.out.alloc _).alloc _ | exact ((HX4.out.alloc _).alloc _).alloc _) hb
  have HB5 : Hid (Below w.heap.size w w5) := Below.trans (by first | exact HB4.out | exact HB4.out.alloc HB4.out.size _ | exact (HB4.out.alloc HB4.out.size _).alloc (by have := HB4.out.size; simp; omega) _ | exact ((HB4.out.alloc HB4.out.size _).alloc (by have := HB4.out.size; simp; omega) _).alloc (by have := HB4.out.size; simp; omega) _) (hb.mono (by have := HB4.out.size; simp; try omega))
  clear he
  clear hb HR4 HX4 HB4
  have cR := HR5.out.cell
  have dR := fun o => (HR5.out.alloc o).cell
  have eR := fun o o' => ((HR5.out.alloc o).alloc o').cell
  have cX := HX5.out.cell
  have dX := fun o => (HX5.out.alloc o).cell
  have eX := fun o o' => ((HX5.out.alloc o).alloc o').cell
  go_wp2_with fail
  clear cR dR eR cX dX eX
  refine (U16.touches_any (x := (0, 65535)) (HN.out _) (canon_nil _) (by decide)).mono ?_
  rintro e w6 ⟨he, hb⟩
  obtain rfl : e = .returned (.bool false) := by rw [he, show touchesB [] (0, 65535) = false by decide]
  have HR6 : Hid (OneC w6 w.heap.size 4 (.bool false)) := OneC.below (by first | exact HR5.out | exact HR5.out.alloc _ | exact (HR5.out.alloc _).alloc _ | exact ((HR5.out.alloc _).alloc _).alloc _) hb
  have HX6 : Hid (OneC w6 (w.heap.size + 1) 24 (.slice none 0 0)) := OneC.below (by first | exact HX5.out | exact HX5.out.alloc _ | exact (HX5.out.alloc _).alloc _ | exact ((HX5.out.alloc _).alloc _).alloc _) hb
  have HB6 : Hid (Below w.heap.size w w6) := Below.trans (by first | exact HB5.out | exact HB5.out.alloc HB5.out.size _ | exact (HB5.out.alloc HB5.out.size _).alloc (by have := HB5.out.size; simp; omega) _ | exact ((HB5.out.alloc HB5.out.size _).alloc (by have := HB5.out.size; simp; omega) _).alloc (by have := HB5.out.size; simp; omega) _) (hb.mono (by have := HB5.out.size; simp; try omega))
  clear he
  clear hb HR5 HX5 HB5
  have cR := HR6.out.cell
  have dR := fun o => (HR6.out.alloc o).cell
  have eR := fun o o' => ((HR6.out.alloc o).alloc o').cell
  have cX := HX6.out.cell
  have dX := fun o => (HX6.out.alloc o).cell
  have eX := fun o o' => ((HX6.out.alloc o).alloc o').cell
  go_wp2_with fail
  clear cR dR eR cX dX eX
  refine (U16.spans_any (HN.out _) (by decide)).mono ?_
  rintro e w7 ⟨v7, rfl, ho7, hb⟩
  obtain ⟨a7, c7, hv7, _⟩ := ho7.sv
  subst hv7
  clear ho7
  have HR7 : Hid (OneC w7 w.heap.size 4 (.bool false)) := OneC.below (by first | exact HR6.out | exact HR6.out.alloc _ | exact (HR6.out.alloc _).alloc _ | exact ((HR6.out.alloc _).alloc _).alloc _) hb
  have HX7 : Hid (OneC w7 (w.heap.size + 1) 24 (.slice none 0 0)) := OneC.below (by first | exact HX6.out | exact HX6.out.alloc _ | exact (HX6.out.alloc _).alloc _ | exact ((HX6.out.alloc _).alloc _).alloc _) hb
  have HB7 : Hid (Below w.heap.size w w7) := Below.trans (by first | exact HB6.out | exact HB6.out.alloc HB6.out.size _ | exact (HB6.out.alloc HB6.out.size _).alloc (by have := HB6.out.size; simp; omega) _ | exact ((HB6.out.alloc HB6.out.size _).alloc (by have := HB6.out.size; simp; omega) _).alloc (by have := HB6.out.size; simp; omega) _) (hb.mono (by have := HB6.out.size; simp; try omega))
  clear hb HR6 HX6 HB6
  have cR := HR7.out.cell
  have dR := fun o => (HR7.out.alloc o).cell
  have eR := fun o o' => ((HR7.out.alloc o).alloc o').cell
  have cX := HX7.out.cell
  have dX := fun o => (HX7.out.alloc o).cell
  have eX := fun o o' => ((HX7.out.alloc o).alloc o').cell
  go_wp2_with fail
  clear cR dR eR cX dX eX
  refine (U64.of_any (xs := [(0, 18446744073709551615)]) (U64.one_sv (x := (0, 18446744073709551615)) (U64.new2 rfl _ _ _).1 (U64.new2 rfl _ _ _).2) (by intro x hx; simp at hx; subst hx; decide) (by decide)).mono ?_
  rintro e w8 ⟨v8, rs8, rfl, ho8, hr8, hb⟩
  obtain rfl := one_of hr8 (by decide)
  have HS8 : Hid (U64.SV w8 v8 [(0, 18446744073709551615)]) := ho8.sv
  obtain ⟨a8, c8, hv8, _⟩ := ho8.sv
  subst hv8
  clear ho8 hr8
  have HR8 : Hid (OneC w8 w.heap.size 4 (.bool false)) := OneC.below (by first | exact HR7.out | exact HR7.out.alloc _ | exact (HR7.out.alloc _).alloc _ | exact ((HR7.out.alloc _).alloc _).alloc _) hb
  have HX8 : Hid (OneC w8 (w.heap.size + 1) 24 (.slice none 0 0)) := OneC.below (by first | exact HX7.out | exact HX7.out.alloc _ | exact (HX7.out.alloc _).alloc _ | exact ((HX7.out.alloc _).alloc _).alloc _) hb
  have HB8 : Hid (Below w.heap.size w w8) := Below.trans (by first | exact HB7.out | exact HB7.out.alloc HB7.out.size _ | exact (HB7.out.alloc HB7.out.size _).alloc (by have := HB7.out.size; simp; omega) _ | exact ((HB7.out.alloc HB7.out.size _).alloc (by have := HB7.out.size; simp; omega) _).alloc (by have := HB7.out.size; simp; omega) _) (hb.mono (by have := HB7.out.size; simp; try omega))
  clear hb HR7 HX7 HB7
  have cR := HR8.out.cell
  have dR := fun o => (HR8.out.alloc o).cell
  have eR := fun o o' => ((HR8.out.alloc o).alloc o').cell
  have cX := HX8.out.cell
  have dX := fun o => (HX8.out.alloc o).cell
  have eX := fun o o' => ((HX8.out.alloc o).alloc o').cell
  go_wp2_with fail
  clear cR dR eR cX dX eX
  have HA8 : Hid (OneC (w8.alloc (Obj.cells #[.slice a8 1 c8] 40)) w8.heap.size 40 (.slice a8 1 c8)) := heap_alloc_new w8 _
  refine (U64.size_any (show U64.SV _ (.slice a8 1 c8) [(0, 18446744073709551615)] from HS8.out.alloc _) (canon_one (by decide))).mono ?_
  rintro e w9 ⟨he, hb⟩
  obtain rfl : e = .returned (.tuple #[.int .u64 0, .bool false]) := by rw [he, show sizeB [(0, 18446744073709551615)] = (0, false) by decide]
  have HR9 : Hid (OneC w9 w.heap.size 4 (.bool false)) := OneC.below (by first | exact HR8.out | exact HR8.out.alloc _ | exact (HR8.out.alloc _).alloc _ | exact ((HR8.out.alloc _).alloc _).alloc _) hb
  have HX9 : Hid (OneC w9 (w.heap.size + 1) 24 (.slice none 0 0)) := OneC.below (by first | exact HX8.out | exact HX8.out.alloc _ | exact (HX8.out.alloc _).alloc _ | exact ((HX8.out.alloc _).alloc _).alloc _) hb
  have HA9 : Hid (OneC w9 w8.heap.size 40 (.slice a8 1 c8)) := OneC.below (by first | exact HA8.out | exact HA8.out.alloc _ | exact (HA8.out.alloc _).alloc _ | exact ((HA8.out.alloc _).alloc _).alloc _) hb
  have HS9 : Hid (U64.SV w9 (.slice a8 1 c8) [(0, 18446744073709551615)]) := (show U64.SV _ (.slice a8 1 c8) [(0, 18446744073709551615)] from by first | exact HS8.out | exact HS8.out.alloc _ | exact (HS8.out.alloc _).alloc _ | exact ((HS8.out.alloc _).alloc _).alloc _).below hb (Nat.le_refl _)
  have HB9 : Hid (Below w.heap.size w w9) := Below.trans (by first | exact HB8.out | exact HB8.out.alloc HB8.out.size _ | exact (HB8.out.alloc HB8.out.size _).alloc (by have := HB8.out.size; simp; omega) _ | exact ((HB8.out.alloc HB8.out.size _).alloc (by have := HB8.out.size; simp; omega) _).alloc (by have := HB8.out.size; simp; omega) _) (hb.mono (by have := HB8.out.size; simp; try omega))
  clear HS8
  clear he
  clear hb HR8 HX8 HA8 HB8
  have cR := HR9.out.cell
  have dR := fun o => (HR9.out.alloc o).cell
  have eR := fun o o' => ((HR9.out.alloc o).alloc o').cell
  have cX := HX9.out.cell
  have dX := fun o => (HX9.out.alloc o).cell
  have eX := fun o o' => ((HX9.out.alloc o).alloc o').cell
  have cA := HA9.out.cell
  have dA := fun o => (HA9.out.alloc o).cell
  have eA := fun o o' => ((HA9.out.alloc o).alloc o').cell
  go_wp2_with fail
  clear cR dR eR cX dX eX cA dA eA
  refine (U64.fit_any (size := 9223372036854775808) (al := 9223372036854775808) (show U64.SV _ (.slice a8 1 c8) [(0, 18446744073709551615)] from HS9.out) (canon_one (by decide)) (by decide) (by decide)).mono ?_
  rintro e w10 ⟨he, hb⟩
  obtain rfl : e = .returned (.tuple #[.int .u64 0, .bool true]) := by rw [he, show U64.fitL 9223372036854775808 9223372036854775808 [(0, 18446744073709551615)] = (0, true) by decide]
  have HR10 : Hid (OneC w10 w.heap.size 4 (.bool false)) := OneC.below (by first | exact HR9.out | exact HR9.out.alloc _ | exact (HR9.out.alloc _).alloc _ | exact ((HR9.out.alloc _).alloc _).alloc _) hb
  have HX10 : Hid (OneC w10 (w.heap.size + 1) 24 (.slice none 0 0)) := OneC.below (by first | exact HX9.out | exact HX9.out.alloc _ | exact (HX9.out.alloc _).alloc _ | exact ((HX9.out.alloc _).alloc _).alloc _) hb
  have HA10 : Hid (OneC w10 w8.heap.size 40 (.slice a8 1 c8)) := OneC.below (by first | exact HA9.out | exact HA9.out.alloc _ | exact (HA9.out.alloc _).alloc _ | exact ((HA9.out.alloc _).alloc _).alloc _) hb
  have HS10 : Hid (U64.SV w10 (.slice a8 1 c8) [(0, 18446744073709551615)]) := (show U64.SV _ (.slice a8 1 c8) [(0, 18446744073709551615)] from by first | exact HS9.out | exact HS9.out.alloc _ | exact (HS9.out.alloc _).alloc _ | exact ((HS9.out.alloc _).alloc _).alloc _).below hb (Nat.le_refl _)
  have HB10 : Hid (Below w.heap.size w w10) := Below.trans (by first | exact HB9.out | exact HB9.out.alloc HB9.out.size _ | exact (HB9.out.alloc HB9.out.size _).alloc (by have := HB9.out.size; simp; omega) _ | exact ((HB9.out.alloc HB9.out.size _).alloc (by have := HB9.out.size; simp; omega) _).alloc (by have := HB9.out.size; simp; omega) _) (hb.mono (by have := HB9.out.size; simp; try omega))
  clear HS9
  clear he
  clear hb HR9 HX9 HA9 HB9
  have cR := HR10.out.cell
  have dR := fun o => (HR10.out.alloc o).cell
  have eR := fun o o' => ((HR10.out.alloc o).alloc o').cell
  have cX := HX10.out.cell
  have dX := fun o => (HX10.out.alloc o).cell
  have eX := fun o o' => ((HX10.out.alloc o).alloc o').cell
  have cA := HA10.out.cell
  have dA := fun o => (HA10.out.alloc o).cell
  have eA := fun o o' => ((HA10.out.alloc o).alloc o').cell
  go_wp2_with fail
  clear cR dR eR cX dX eX cA dA eA
  refine (U64.has_any (p := 18446744073709551615) (show U64.SV _ (.slice a8 1 c8) [(0, 18446744073709551615)] from HS10.out) (canon_one (by decide)) (by decide)).mono ?_
  rintro e w11 ⟨he, hb⟩
  obtain rfl : e = .returned (.bool true) := by rw [he, show coversB [(0, 18446744073709551615)] (18446744073709551615, 18446744073709551615) = true by decide]
  have HR11 : Hid (OneC w11 w.heap.size 4 (.bool false)) := OneC.below (by first | exact HR10.out | exact HR10.out.alloc _ | exact (HR10.out.alloc _).alloc _ | exact ((HR10.out.alloc _).alloc _).alloc _) hb
  have HX11 : Hid (OneC w11 (w.heap.size + 1) 24 (.slice none 0 0)) := OneC.below (by first | exact HX10.out | exact HX10.out.alloc _ | exact (HX10.out.alloc _).alloc _ | exact ((HX10.out.alloc _).alloc _).alloc _) hb
  have HA11 : Hid (OneC w11 w8.heap.size 40 (.slice a8 1 c8)) := OneC.below (by first | exact HA10.out | exact HA10.out.alloc _ | exact (HA10.out.alloc _).alloc _ | exact ((HA10.out.alloc _).alloc _).alloc _) hb
  have HS11 : Hid (U64.SV w11 (.slice a8 1 c8) [(0, 18446744073709551615)]) := (show U64.SV _ (.slice a8 1 c8) [(0, 18446744073709551615)] from by first | exact HS10.out | exact HS10.out.alloc _ | exact (HS10.out.alloc _).alloc _ | exact ((HS10.out.alloc _).alloc _).alloc _).below hb (Nat.le_refl _)
  have HB11 : Hid (Below w.heap.size w w11) := Below.trans (by first | exact HB10.out | exact HB10.out.alloc HB10.out.size _ | exact (HB10.out.alloc HB10.out.size _).alloc (by have := HB10.out.size; simp; omega) _ | exact ((HB10.out.alloc HB10.out.size _).alloc (by have := HB10.out.size; simp; omega) _).alloc (by have := HB10.out.size; simp; omega) _) (hb.mono (by have := HB10.out.size; simp; try omega))
  clear HS10
  clear he
  clear hb HR10 HX10 HA10 HB10
  have cR := HR11.out.cell
  have dR := fun o => (HR11.out.alloc o).cell
  have eR := fun o o' => ((HR11.out.alloc o).alloc o').cell
  have cX := HX11.out.cell
  have dX := fun o => (HX11.out.alloc o).cell
  have eX := fun o o' => ((HX11.out.alloc o).alloc o').cell
  have cA := HA11.out.cell
  have dA := fun o => (HA11.out.alloc o).cell
  have eA := fun o o' => ((HA11.out.alloc o).alloc o').cell
  go_wp2_with fail
  clear cR dR eR cX dX eX cA dA eA
  refine U64.all_any.mono ?_
  rintro e w' ⟨rfl, hw⟩
  subst hw
  have hnf := U64.eql_func_nil
  go_wp2_with fail
  refine (fun (h : ∀ a0 : Act, a0 = ({ tmps := _, defers := [] } : Act) → Code.wp Tryz.prog (Code.rangeFunc _ _ _ _) _ a0 _) => h _ rfl) ?_
  intro a0 ha0
  have hW0 : (w11.alloc (Obj.cells #[.slice a8 1 c8] 40)).heap.size = w11.heap.size + 1 := by simp
  have hT0 : OneC ((w11.alloc (Obj.cells #[.slice a8 1 c8] 40)).alloc (Obj.cells #[.int .i64 0] 3)) (w11.heap.size + 1) 3 (.int .i64 0) := by
    have := heap_alloc_new (w11.alloc (Obj.cells #[.slice a8 1 c8] 40)) (Obj.cells #[.int .i64 0] 3)
    rwa [hW0] at this
  have hC0 : OneC ((w11.alloc (Obj.cells #[.slice a8 1 c8] 40)).alloc (Obj.cells #[.int .i64 0] 3)) w11.heap.size 40 (.slice a8 1 c8) := (show OneC (w11.alloc (Obj.cells #[.slice a8 1 c8] 40)) w11.heap.size 40 (.slice a8 1 c8) from heap_alloc_new w11 _).alloc _
  have hb11 : Below w11.heap.size w11 ((w11.alloc (Obj.cells #[.slice a8 1 c8] 40)).alloc (Obj.cells #[.int .i64 0] 3)) := ((Below.refl _ _).alloc (Nat.le_refl _) _).alloc (by simp) _
  refine (wpIn_wide (n := 6)).1 ?_
  refine wpIn_rangeFunc_ownH (F := Fence.wide) rfl (by decide) (gf := 38) (lb := #[.pointer (some ⟨w11.heap.size, 0, none⟩)]) (by rw [ha0]; rfl) trivial (enters_of Tryz.func38 (by kernel_rfl) rfl)
    (U64.all_stops Fence.wide (6 - 1) trivial rfl (by decide) w11.heap.size w11.heap.size (.slice a8 1 c8) [(0, 18446744073709551615)] _ (by simp; omega) (by simp; omega) hC0.cell ((HS11.out.spans (Nat.le_refl _)).below hb11)) belowK_t (belowK_b (by simp; omega)) (Below.refl _ _) (fun _ => rfl)
    (fun pre W => OneC W (w11.heap.size + 1) 3 (.int .i64 (pre.length : Int)) ∧ Below w11.heap.size w11 W ∧ w11.heap.size ≤ W.heap.size)
    (fun c pre _ => c = .ret ∧ Bad pre)
    (ownFrom_one (by simp; omega)) (fun c s W W' row h _ _ => h) ⟨hT0, hb11, hb11.size⟩
    (fun x a' W => ∃ Bx, w11.heap.size + 1 < Bx ∧ TwoC W Bx x ∧ a' = { tmps := (a0.tmps.setIfInBounds 101 (.agg #[.int .u64 x.1, .int .u64 x.2])).setIfInBounds 12 (.pointer (some ⟨Bx, 0, none⟩)), defers := [] })
    ?hAx ?assign ?body ?done ?stop
  case hAx =>
    rintro x a' _ W W' row ⟨Bx, h1, h2, h4⟩ hg hr
    exact ⟨Bx, h1, (hg.block Bx h2.lt (fun e => by obtain ⟨_, o, ho, hc⟩ := hr Bx e.symm; rw [show W.heap[Bx]? = _ from h2] at ho; cases ho; cases hc)).trans h2, h4⟩
  case assign =>
    rintro l pre x W K ⟨i1, i2, i3⟩ hK
    have HK : Hid (∀ a' W', KeepsFrom _ W W' → Below w11.heap.size W W' → _ → _ → K a' W') := hK
    subst ha0
    dsimp only [U64.encS]
    gi_wp2
    exact HK.out _ _ ((KeepsOthers.alloc _ _).from _) ((Below.refl _ W).alloc i3 _) ⟨i1.alloc _, i2.alloc i3 _, Nat.le_trans i3 (by simp)⟩ ⟨W.heap.size, i1.lt, heap_alloc_new W _, rfl⟩
  case body =>
    rintro l pre x a' W hl ⟨r, hr⟩ ⟨i1, i2, i3⟩ ⟨Bx, hBx, hX, rfl⟩ hlt
    obtain rfl : pre = [] := List.eq_nil_of_length_eq_zero (by have : pre.length < 1 := hlt; omega)
    have cT : W.cell? ⟨w11.heap.size + 1, 0, none⟩ = some (.int .i64 0) := i1.cell
    have fT := i1.thawed
    obtain ⟨x0, x1⟩ := hX.cells
    have hgd := guard_spans
    have HI1 : Hid (OneC W (w11.heap.size + 1) 3 (.int .i64 0)) := i1
    have HI2 : Hid (Below w11.heap.size w11 W) := i2
    have HRw := HR11.out.below i2
    have cR := HRw.cell
    have fR := HRw.thawed
    clear i1 i2 hX hr HRw
    subst ha0
    simp only [List.setIfInBounds_toArray, List.set_cons_zero, List.set_cons_succ]
    by_cases hx : x = (0, 18446744073709551615)
    · have hneq := fun w => neq_span_yes w x hx
      gi_wp2
      exact ⟨(KeepsOthers.setCell _ _ _).from _, (Below.refl w11.heap.size W).setCell (p := ⟨w11.heap.size + 1, 0, none⟩) (show w11.heap.size ≤ w11.heap.size + 1 by omega) _, HI1.out.set _, HI2.out.setCell (p := ⟨w11.heap.size + 1, 0, none⟩) (show w11.heap.size ≤ w11.heap.size + 1 by omega) _, by simpa using i3⟩
    · have hneq := fun w => neq_span_no w x hx
      gi_wp2
      exact ⟨(KeepsOthers.setCell _ _ _).from _, rfl, x, by simp, hx⟩
  case stop =>
    rintro D c pre W _ ⟨k, _, rfl⟩ ⟨rfl, x, hx, hne⟩ _
    exact absurd (by have := List.mem_of_mem_take hx; simpa using this) hne
  case done =>
    rintro D ys w12 hD rfl ⟨i1, i2, i3⟩ hK
    have HD12 : Hid (DefC w12 D) := hK
    have HDs : Hid (w11.heap.size + 2 ≤ D) := by simp at hD; show _ ≤ _; omega
    have HR12 : Hid (OneC w12 w.heap.size 4 (.bool false)) := HR11.out.below i2
    have HX12 : Hid (OneC w12 (w.heap.size + 1) 24 (.slice none 0 0)) := HX11.out.below i2
    have HB12 : Hid (Below w.heap.size w w12) := HB11.out.trans (i2.mono HB11.out.size)
    have cT := i1.cell
    have hs11 : w.heap.size ≤ w11.heap.size := HB11.out.size
    clear i1 i2 hK HR11 HX11 HB11 HS11 HA11
    subst ha0
    go_wp2_with fail
    clear cT
    refine (U8.of_any (xs := [(10, 20)]) (U8.one_sv (x := (10, 20)) (U8.new2 rfl _ _ _).1 (U8.new2 rfl _ _ _).2) (by intro x hx; simp at hx; subst hx; decide) (by decide)).mono ?_
    rintro e w13 ⟨v13, rs13, rfl, ho13, hr13, hb⟩
    obtain rfl := one_of hr13 (by decide)
    have HS13 : Hid (U8.SV w13 v13 [(10, 20)]) := ho13.sv
    obtain ⟨a13, c13, hv13, _⟩ := ho13.sv
    subst hv13
    clear ho13 hr13
    have HR13 : Hid (OneC w13 w.heap.size 4 (.bool false)) := OneC.below (by first | exact HR12.out | exact HR12.out.alloc _ | exact (HR12.out.alloc _).alloc _ | exact ((HR12.out.alloc _).alloc _).alloc _) hb
    have HX13 : Hid (OneC w13 (w.heap.size + 1) 24 (.slice none 0 0)) := OneC.below (by first | exact HX12.out | exact HX12.out.alloc _ | exact (HX12.out.alloc _).alloc _ | exact ((HX12.out.alloc _).alloc _).alloc _) hb
    have HD13 : Hid (DefC w13 D) := (show DefC _ D from by first | exact HD12.out | exact HD12.out.alloc _ | exact (HD12.out.alloc _).alloc _ | exact ((HD12.out.alloc _).alloc _).alloc _).below hb (Nat.le_refl _)
    have HB13 : Hid (Below w.heap.size w w13) := Below.trans (by first | exact HB12.out | exact HB12.out.alloc HB12.out.size _ | exact (HB12.out.alloc HB12.out.size _).alloc (by have := HB12.out.size; simp; omega) _ | exact ((HB12.out.alloc HB12.out.size _).alloc (by have := HB12.out.size; simp; omega) _).alloc (by have := HB12.out.size; simp; omega) _) (hb.mono (by have := HB12.out.size; simp; try omega))
    clear HD12
    clear hb HR12 HX12 HB12
    have cR := HR13.out.cell
    have dR := fun o => (HR13.out.alloc o).cell
    have eR := fun o o' => ((HR13.out.alloc o).alloc o').cell
    have cX := HX13.out.cell
    have dX := fun o => (HX13.out.alloc o).cell
    have eX := fun o o' => ((HX13.out.alloc o).alloc o').cell
    go_wp2_with fail
    clear cR dR eR cX dX eX
    have hn13 : ¬ w13.heap.size = w.heap.size := by have := HX13.out.lt; omega
    have hn13' : ¬ w.heap.size = w13.heap.size := by omega
    have HA13 : Hid (OneC (w13.alloc (Obj.cells #[.slice a13 1 c13] 51)) w13.heap.size 51 (.slice a13 1 c13)) := heap_alloc_new w13 _
    refine (U8.fit_any (size := 4) (al := 8) (show U8.SV _ (.slice a13 1 c13) [(10, 20)] from HS13.out.alloc _) (canon_one (by decide)) (by decide) (by decide)).mono ?_
    rintro e w14 ⟨he, hb⟩
    obtain rfl : e = .returned (.tuple #[.int .u8 16, .bool true]) := by rw [he, show U8.fitL 4 8 [(10, 20)] = (16, true) by decide]
    have HR14 : Hid (OneC w14 w.heap.size 4 (.bool false)) := OneC.below (by first | exact HR13.out | exact HR13.out.alloc _ | exact (HR13.out.alloc _).alloc _ | exact ((HR13.out.alloc _).alloc _).alloc _) hb
    have HX14 : Hid (OneC w14 (w.heap.size + 1) 24 (.slice none 0 0)) := OneC.below (by first | exact HX13.out | exact HX13.out.alloc _ | exact (HX13.out.alloc _).alloc _ | exact ((HX13.out.alloc _).alloc _).alloc _) hb
    have HA14 : Hid (OneC w14 w13.heap.size 51 (.slice a13 1 c13)) := OneC.below (by first | exact HA13.out | exact HA13.out.alloc _ | exact (HA13.out.alloc _).alloc _ | exact ((HA13.out.alloc _).alloc _).alloc _) hb
    have HD14 : Hid (DefC w14 D) := (show DefC _ D from by first | exact HD13.out | exact HD13.out.alloc _ | exact (HD13.out.alloc _).alloc _ | exact ((HD13.out.alloc _).alloc _).alloc _).below hb (Nat.le_refl _)
    have HS14 : Hid (U8.SV w14 (.slice a13 1 c13) [(10, 20)]) := (show U8.SV _ (.slice a13 1 c13) [(10, 20)] from by first | exact HS13.out | exact HS13.out.alloc _ | exact (HS13.out.alloc _).alloc _ | exact ((HS13.out.alloc _).alloc _).alloc _).below hb (Nat.le_refl _)
    have HB14 : Hid (Below w.heap.size w w14) := Below.trans (by first | exact HB13.out | exact HB13.out.alloc HB13.out.size _ | exact (HB13.out.alloc HB13.out.size _).alloc (by have := HB13.out.size; simp; omega) _ | exact ((HB13.out.alloc HB13.out.size _).alloc (by have := HB13.out.size; simp; omega) _).alloc (by have := HB13.out.size; simp; omega) _) (hb.mono (by have := HB13.out.size; simp; try omega))
    clear HD13 HS13
    clear he
    clear hb HR13 HX13 HA13 HB13
    have cR := HR14.out.cell
    have dR := fun o => (HR14.out.alloc o).cell
    have eR := fun o o' => ((HR14.out.alloc o).alloc o').cell
    have cX := HX14.out.cell
    have dX := fun o => (HX14.out.alloc o).cell
    have eX := fun o o' => ((HX14.out.alloc o).alloc o').cell
    have cA := HA14.out.cell
    have dA := fun o => (HA14.out.alloc o).cell
    have eA := fun o o' => ((HA14.out.alloc o).alloc o').cell
    go_wp2_with fail
    clear cR dR eR cX dX eX cA dA eA
    refine (U8.fit_any (size := 6) (al := 8) (show U8.SV _ (.slice a13 1 c13) [(10, 20)] from HS14.out) (canon_one (by decide)) (by decide) (by decide)).mono ?_
    rintro e w15 ⟨he, hb⟩
    obtain rfl : e = .returned (.tuple #[.int .u8 0, .bool false]) := by rw [he, show U8.fitL 6 8 [(10, 20)] = (0, false) by decide]
    have HR15 : Hid (OneC w15 w.heap.size 4 (.bool false)) := OneC.below (by first | exact HR14.out | exact HR14.out.alloc _ | exact (HR14.out.alloc _).alloc _ | exact ((HR14.out.alloc _).alloc _).alloc _) hb
    have HX15 : Hid (OneC w15 (w.heap.size + 1) 24 (.slice none 0 0)) := OneC.below (by first | exact HX14.out | exact HX14.out.alloc _ | exact (HX14.out.alloc _).alloc _ | exact ((HX14.out.alloc _).alloc _).alloc _) hb
    have HA15 : Hid (OneC w15 w13.heap.size 51 (.slice a13 1 c13)) := OneC.below (by first | exact HA14.out | exact HA14.out.alloc _ | exact (HA14.out.alloc _).alloc _ | exact ((HA14.out.alloc _).alloc _).alloc _) hb
    have HD15 : Hid (DefC w15 D) := (show DefC _ D from by first | exact HD14.out | exact HD14.out.alloc _ | exact (HD14.out.alloc _).alloc _ | exact ((HD14.out.alloc _).alloc _).alloc _).below hb (Nat.le_refl _)
    have HS15 : Hid (U8.SV w15 (.slice a13 1 c13) [(10, 20)]) := (show U8.SV _ (.slice a13 1 c13) [(10, 20)] from by first | exact HS14.out | exact HS14.out.alloc _ | exact (HS14.out.alloc _).alloc _ | exact ((HS14.out.alloc _).alloc _).alloc _).below hb (Nat.le_refl _)
    have HB15 : Hid (Below w.heap.size w w15) := Below.trans (by first | exact HB14.out | exact HB14.out.alloc HB14.out.size _ | exact (HB14.out.alloc HB14.out.size _).alloc (by have := HB14.out.size; simp; omega) _ | exact ((HB14.out.alloc HB14.out.size _).alloc (by have := HB14.out.size; simp; omega) _).alloc (by have := HB14.out.size; simp; omega) _) (hb.mono (by have := HB14.out.size; simp; try omega))
    clear HD14 HS14
    clear he
    clear hb HR14 HX14 HA14 HB14
    have cR := HR15.out.cell
    have dR := fun o => (HR15.out.alloc o).cell
    have eR := fun o o' => ((HR15.out.alloc o).alloc o').cell
    have cX := HX15.out.cell
    have dX := fun o => (HX15.out.alloc o).cell
    have eX := fun o o' => ((HX15.out.alloc o).alloc o').cell
    have cA := HA15.out.cell
    have dA := fun o => (HA15.out.alloc o).cell
    have eA := fun o o' => ((HA15.out.alloc o).alloc o').cell
    go_wp2_with fail
    have HC : Hid (∀ w', Below w15.heap.size w15 w' → (w'.cell? ⟨w.heap.size + 1, 0, none⟩ = some (.slice none 0 0) ∧ w'.cell? ⟨w13.heap.size, 0, none⟩ = some (.slice a13 1 c13) ∧ w'.cell? ⟨w.heap.size, 0, none⟩ = some (.bool false) ∧ w'.frozen? ⟨w.heap.size, 0, none⟩ = false)) := fun w' hb => ⟨(HX15.out.below hb).cell, (HA15.out.below hb).cell, (HR15.out.below hb).cell, (HR15.out.below hb).thawed⟩
    have HO16 : Hid (∀ W, Below w15.heap.size w15 W → Calls Tryz.prog 19 #[.slice none 0 0] W fun e w' => ∃ a n c, e = .returned (.agg #[.slice a n c]) ∧ (w'.cell? ⟨w.heap.size + 1, 0, none⟩ = some (.slice none 0 0) ∧ w'.cell? ⟨w13.heap.size, 0, none⟩ = some (.slice a13 1 c13) ∧ w'.cell? ⟨w.heap.size, 0, none⟩ = some (.bool false) ∧ w'.frozen? ⟨w.heap.size, 0, none⟩ = false) ∧ Hid (Below w15.heap.size w15 w') ∧ Hid (U16.SV w' (.slice a n c) [])) := fun W hW => by
      refine (U16.of_any (xs := []) (U16.SV.nil W) (fun x hx => by cases hx) (by decide)).mono ?_
      rintro e w' ⟨v, rs, rfl, ho, hr, hb⟩
      obtain rfl := none_of hr
      obtain ⟨a, c, hv, _⟩ := id ho.sv
      subst hv
      have hb' := hW.trans (hb.mono hW.size)
      exact ⟨a, _, c, rfl, HC.out _ hb', hb', ho.sv⟩
    have HS17 : Hid (∀ W a n c, Below w15.heap.size w15 W → U16.SV W (.slice a n c) [] → Calls Tryz.prog 18 #[.agg #[.slice none 0 0], .agg #[.slice a n c]] W fun e w' => e = .returned (.bool true) ∧ (w'.cell? ⟨w.heap.size + 1, 0, none⟩ = some (.slice none 0 0) ∧ w'.cell? ⟨w13.heap.size, 0, none⟩ = some (.slice a13 1 c13) ∧ w'.cell? ⟨w.heap.size, 0, none⟩ = some (.bool false) ∧ w'.frozen? ⟨w.heap.size, 0, none⟩ = false) ∧ Hid (Below w15.heap.size w15 w')) := fun W a n c hW hs => by
      refine (U16.same_any (U16.SV.nil W) hs).mono ?_
      rintro e w' ⟨rfl, hb⟩
      have hb' := hW.trans (hb.mono hW.size)
      exact ⟨rfl, HC.out _ hb', hb'⟩
    have HO18 : Hid (∀ W, Below w15.heap.size w15 W → Calls Tryz.prog 16 #[.slice none 0 0] W fun e w' => ∃ a n c, e = .returned (.agg #[.slice a n c]) ∧ (w'.cell? ⟨w.heap.size + 1, 0, none⟩ = some (.slice none 0 0) ∧ w'.cell? ⟨w13.heap.size, 0, none⟩ = some (.slice a13 1 c13) ∧ w'.cell? ⟨w.heap.size, 0, none⟩ = some (.bool false) ∧ w'.frozen? ⟨w.heap.size, 0, none⟩ = false) ∧ Hid (Below w15.heap.size w15 w') ∧ Hid (U8.SV w' (.slice a n c) [])) := fun W hW => by
      refine (U8.of_any (xs := []) (U8.SV.nil W) (fun x hx => by cases hx) (by decide)).mono ?_
      rintro e w' ⟨v, rs, rfl, ho, hr, hb⟩
      obtain rfl := none_of hr
      obtain ⟨a, c, hv, _⟩ := id ho.sv
      subst hv
      have hb' := hW.trans (hb.mono hW.size)
      exact ⟨a, _, c, rfl, HC.out _ hb', hb', ho.sv⟩
    have HS19 : Hid (∀ W a n c, Below w15.heap.size w15 W → U8.SV W (.slice a n c) [] → Calls Tryz.prog 20 #[.agg #[.slice a13 1 c13], .agg #[.slice a n c]] W fun e w' => e = .returned (.bool false) ∧ (w'.cell? ⟨w.heap.size + 1, 0, none⟩ = some (.slice none 0 0) ∧ w'.cell? ⟨w13.heap.size, 0, none⟩ = some (.slice a13 1 c13) ∧ w'.cell? ⟨w.heap.size, 0, none⟩ = some (.bool false) ∧ w'.frozen? ⟨w.heap.size, 0, none⟩ = false) ∧ Hid (Below w15.heap.size w15 w')) := fun W a n c hW hs => by
      refine (U8.same_any (show U8.SV W (.slice a13 1 c13) [(10, 20)] from HS15.out.below hW (Nat.le_refl _)) hs).mono ?_
      rintro e w' ⟨he, hb⟩
      obtain rfl : e = .returned (.bool false) := he
      have hb' := hW.trans (hb.mono hW.size)
      exact ⟨rfl, HC.out _ hb', hb'⟩
    clear dR eR dX eX dA eA
    go_region_held3 (fun w' => w'.cell? ⟨w.heap.size + 1, 0, none⟩ = some (.slice none 0 0) ∧ w'.cell? ⟨w13.heap.size, 0, none⟩ = some (.slice a13 1 c13)) (go_keep) (first | (go_at_call 19; refine (HO16.out _ (Below.refl _ _).drew).mono ?_; rintro e w16 ⟨a16, n16, c16, rfl, ⟨k0, k1, k2, k3⟩, HB16, HS16⟩) | (go_at_call 18; refine (HS17.out _ _ _ _ HB16.out HS16.out).mono ?_; rintro e w17 ⟨rfl, ⟨l0, l1, l2, l3⟩, HB17⟩) | (go_at_call 16; refine (HO18.out _ HB17.out).mono ?_; rintro e w18 ⟨a18, n18, c18, rfl, ⟨m0, m1, m2, m3⟩, HB18, HS18⟩) | (go_at_call 20; refine (HS19.out _ _ _ _ HB18.out HS18.out).mono ?_; rintro e w19 ⟨rfl, ⟨n0, n1, n2, n3⟩, HB19⟩))
    have HD20 : Hid (DefC (w19.setCell ⟨w.heap.size, 0, none⟩ (.bool true)) D) := by
      have h1 : DefC w19 D := HD15.out.below HB19.out (Nat.le_refl _)
      exact (Below.heap_setCell w19 _ _ _ (show D ≠ w.heap.size by have := HDs.out; have := hs11; omega)).trans h1
    have HR20 : Hid (OneC (w19.setCell ⟨w.heap.size, 0, none⟩ (.bool true)) w.heap.size 4 (.bool true)) := (HR15.out.below HB19.out).set _
    have HB20 : Hid (Below w.heap.size w (w19.setCell ⟨w.heap.size, 0, none⟩ (.bool true))) := (HB15.out.trans (HB19.out.mono HB15.out.size)).setCell (p := ⟨w.heap.size, 0, none⟩) (Nat.le_refl _) _
    go_wp2_with fail
    refine ⟨by simp, .inl ⟨_, _, rfl, run_takeDeferred HD20.out, ?_⟩⟩
    have hc5 := cell_kept HR20.out.cell (grownBy_putObj' _ D (.deferred none)) (fun r e => by cases e; exact ⟨_, HD20.out, rfl⟩)
    refine ⟨.bool true, ?_, rfl, HB20.out.trans (belowK_b (w := w) (Nat.le_refl _) _ D _ _ (by have := HDs.out; omega) HD20.out rfl rfl)⟩
    simp [results, Tryz.results3, go_sem, hc5]
end Go.Proofs.YtabgmlnlooiddaaGreat
