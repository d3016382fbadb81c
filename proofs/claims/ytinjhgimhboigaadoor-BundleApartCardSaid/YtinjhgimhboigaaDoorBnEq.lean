/- Bundle: structs and tables that are the same, or not (written by parts/gen_bneq.py). Own work. -/
import Derived.Test.YtinjhgimhboigaaDoorBnTbs
import Derived.Laws.StructEq
namespace Go.Proofs.YtinjhgimhboigaaDoor
open Go.RowKit Bn
set_option linter.unusedVariables false
set_option linter.unusedSimpArgs false
theorem txt_eq (a b : ByteArray) : (a.toList = b.toList) = (a = b) := propext ⟨fun h => by
    rw [ByteArray.toList_eq, ByteArray.toList_eq] at h
    cases a
    cases b
    simp at h
    rw [h], fun h => by rw [h]⟩
theorem cast_eq (a b : Nat) : ((a : Int) = (b : Int)) = (a = b) := propext ⟨fun h => by omega, fun h => by rw [h]⟩
theorem rg_equal (x y : Rg) (w : World) : (Op.equalIn 10000 45 (.agg (rgE x).toArray) (.agg (rgE y).toArray)).run Tryd.prog w = .ok (decide (x.1 = y.1 ∧ x.2 = y.2)) w := by
  have u0 := Tryd.underlying22
  have a0 := Tryd.isAgg22
  have z0 := Tryd.sizeOf22
  have hS : Tryd.prog.underlying 45 = some (.struct (Tryd.prog.fieldsOf 45)) := by kernel_rfl
  have hp : Tryd.prog.stoodInHeld 45 = false := by kernel_rfl
  unfold rgE
  rw [show (10000 : Nat) = 9999 + 1 from rfl, run_equalIn_agg w 9999 45 _ _ hS hp]
  simp only [Program.fieldsOf, Tryd.underlying45]
  go_simp
  by_cases h0 : x.1 = y.1
  · skip
    by_cases h1 : x.2 = y.2
    · simp [cast_eq, txt_eq, h0, h1]
    · simp [cast_eq, txt_eq, h0, h1]
  · simp [cast_eq, txt_eq, h0]
theorem rg_guard : Tryd.prog.eqGuardType Tryd.prog.depth 45 = false := by kernel_rfl
theorem rg_neq (x y : Rg) (w : World) : (binOp .neq 45 (.agg (rgE x).toArray) (.agg (rgE y).toArray)).run Tryd.prog w = .ok (.bool (!decide (x.1 = y.1 ∧ x.2 = y.2))) w := by
  rw [run_neq_struct, rg_equal]
  rfl
theorem st_equal (x y : (Int × Int)) (w : World) : (Op.equalIn 10000 53 (.agg (stE x).toArray) (.agg (stE y).toArray)).run Tryd.prog w = .ok (decide (x.1 = y.1 ∧ x.2 = y.2)) w := by
  have u0 := Tryd.underlying3
  have a0 := Tryd.isAgg3
  have z0 := Tryd.sizeOf3
  have hS : Tryd.prog.underlying 53 = some (.struct (Tryd.prog.fieldsOf 53)) := by kernel_rfl
  have hp : Tryd.prog.stoodInHeld 53 = false := by kernel_rfl
  unfold stE
  rw [show (10000 : Nat) = 9999 + 1 from rfl, run_equalIn_agg w 9999 53 _ _ hS hp]
  simp only [Program.fieldsOf, Tryd.underlying53]
  go_simp
  by_cases h0 : x.1 = y.1
  · skip
    by_cases h1 : x.2 = y.2
    · simp [cast_eq, txt_eq, h0, h1]
    · simp [cast_eq, txt_eq, h0, h1]
  · simp [cast_eq, txt_eq, h0]
theorem st_guard : Tryd.prog.eqGuardType Tryd.prog.depth 53 = false := by kernel_rfl
theorem st_neq (x y : (Int × Int)) (w : World) : (binOp .neq 53 (.agg (stE x).toArray) (.agg (stE y).toArray)).run Tryd.prog w = .ok (.bool (!decide (x.1 = y.1 ∧ x.2 = y.2))) w := by
  rw [run_neq_struct, st_equal]
  rfl
theorem tn_equal (x y : Tn) (w : World) : (Op.equalIn 10000 47 (.agg (tnE x).toArray) (.agg (tnE y).toArray)).run Tryd.prog w = .ok (decide (x.cpu = y.cpu ∧ x.root = y.root ∧ x.st = y.st ∧ x.rule = y.rule ∧ x.to = y.to ∧ x.vec = y.vec)) w := by
  have u0 := Tryd.underlying3
  have a0 := Tryd.isAgg3
  have z0 := Tryd.sizeOf3
  have u1 := Tryd.underlying4
  have a1 := Tryd.isAgg4
  have z1 := Tryd.sizeOf4
  have hS : Tryd.prog.underlying 47 = some (.struct (Tryd.prog.fieldsOf 47)) := by kernel_rfl
  have hp : Tryd.prog.stoodInHeld 47 = false := by kernel_rfl
  unfold tnE
  rw [show (10000 : Nat) = 9999 + 1 from rfl, run_equalIn_agg w 9999 47 _ _ hS hp]
  simp only [Program.fieldsOf, Tryd.underlying47]
  go_simp
  by_cases h0 : x.cpu = y.cpu
  · skip
    by_cases h1 : x.root = y.root
    · skip
      by_cases h2 : x.st = y.st
      · skip
        by_cases h3 : x.rule = y.rule
        · skip
          by_cases h4 : x.to = y.to
          · skip
            by_cases h5 : x.vec = y.vec
            · simp [cast_eq, txt_eq, h0, h1, h2, h3, h4, h5]
            · simp [cast_eq, txt_eq, h0, h1, h2, h3, h4, h5]
          · simp [cast_eq, txt_eq, h0, h1, h2, h3, h4]
        · simp [cast_eq, txt_eq, h0, h1, h2, h3]
      · simp [cast_eq, txt_eq, h0, h1, h2]
    · simp [cast_eq, txt_eq, h0, h1]
  · simp [cast_eq, txt_eq, h0]
theorem tn_guard : Tryd.prog.eqGuardType Tryd.prog.depth 47 = false := by kernel_rfl
theorem tn_neq (x y : Tn) (w : World) : (binOp .neq 47 (.agg (tnE x).toArray) (.agg (tnE y).toArray)).run Tryd.prog w = .ok (.bool (!decide (x.cpu = y.cpu ∧ x.root = y.root ∧ x.st = y.st ∧ x.rule = y.rule ∧ x.to = y.to ∧ x.vec = y.vec))) w := by
  rw [run_neq_struct, tn_equal]
  rfl
theorem po_equal (x y : Int) (w : World) : (Op.equalIn 10000 49 (.agg (poE x).toArray) (.agg (poE y).toArray)).run Tryd.prog w = .ok (decide (x = y)) w := by
  have u0 := Tryd.underlying3
  have a0 := Tryd.isAgg3
  have z0 := Tryd.sizeOf3
  have hS : Tryd.prog.underlying 49 = some (.struct (Tryd.prog.fieldsOf 49)) := by kernel_rfl
  have hp : Tryd.prog.stoodInHeld 49 = false := by kernel_rfl
  unfold poE
  rw [show (10000 : Nat) = 9999 + 1 from rfl, run_equalIn_agg w 9999 49 _ _ hS hp]
  simp only [Program.fieldsOf, Tryd.underlying49]
  go_simp
  by_cases h0 : x = y
  · simp [cast_eq, txt_eq, h0]
  · simp [cast_eq, txt_eq, h0]
theorem po_guard : Tryd.prog.eqGuardType Tryd.prog.depth 49 = false := by kernel_rfl
theorem po_neq (x y : Int) (w : World) : (binOp .neq 49 (.agg (poE x).toArray) (.agg (poE y).toArray)).run Tryd.prog w = .ok (.bool (!decide (x = y))) w := by
  rw [run_neq_struct, po_equal]
  rfl
theorem lk_equal (x y : Lk) (w : World) : (Op.equalIn 10000 36 (.agg (lkE x).toArray) (.agg (lkE y).toArray)).run Tryd.prog w = .ok (decide (x.fr = y.fr ∧ x.to = y.to ∧ x.eff = y.eff ∧ x.vec = y.vec ∧ x.msk = y.msk)) w := by
  have u0 := Tryd.underlying3
  have a0 := Tryd.isAgg3
  have z0 := Tryd.sizeOf3
  have u1 := Tryd.underlying4
  have a1 := Tryd.isAgg4
  have z1 := Tryd.sizeOf4
  have hS : Tryd.prog.underlying 36 = some (.struct (Tryd.prog.fieldsOf 36)) := by kernel_rfl
  have hp : Tryd.prog.stoodInHeld 36 = false := by kernel_rfl
  unfold lkE
  rw [show (10000 : Nat) = 9999 + 1 from rfl, run_equalIn_agg w 9999 36 _ _ hS hp]
  simp only [Program.fieldsOf, Tryd.underlying36]
  go_simp
  by_cases h0 : x.fr = y.fr
  · skip
    by_cases h1 : x.to = y.to
    · skip
      by_cases h2 : x.eff = y.eff
      · skip
        by_cases h3 : x.vec = y.vec
        · skip
          by_cases h4 : x.msk = y.msk
          · simp [cast_eq, txt_eq, h0, h1, h2, h3, h4]
          · simp [cast_eq, txt_eq, h0, h1, h2, h3, h4]
        · simp [cast_eq, txt_eq, h0, h1, h2, h3]
      · simp [cast_eq, txt_eq, h0, h1, h2]
    · simp [cast_eq, txt_eq, h0, h1]
  · simp [cast_eq, txt_eq, h0]
theorem lk_guard : Tryd.prog.eqGuardType Tryd.prog.depth 36 = false := by kernel_rfl
theorem lk_neq (x y : Lk) (w : World) : (binOp .neq 36 (.agg (lkE x).toArray) (.agg (lkE y).toArray)).run Tryd.prog w = .ok (.bool (!decide (x.fr = y.fr ∧ x.to = y.to ∧ x.eff = y.eff ∧ x.vec = y.vec ∧ x.msk = y.msk))) w := by
  rw [run_neq_struct, lk_equal]
  rfl
theorem gd_equal (x y : Gd) (w : World) : (Op.equalIn 10000 51 (.agg (gdE x).toArray) (.agg (gdE y).toArray)).run Tryd.prog w = .ok (decide (x.ad = y.ad ∧ x.sz = y.sz ∧ x.fill = y.fill ∧ x.txt = y.txt)) w := by
  have u0 := Tryd.underlying22
  have a0 := Tryd.isAgg22
  have z0 := Tryd.sizeOf22
  have u1 := Tryd.underlying5
  have a1 := Tryd.isAgg5
  have z1 := Tryd.sizeOf5
  have u2 := Tryd.underlying9
  have a2 := Tryd.isAgg9
  have z2 := Tryd.sizeOf9
  have hS : Tryd.prog.underlying 51 = some (.struct (Tryd.prog.fieldsOf 51)) := by kernel_rfl
  have hp : Tryd.prog.stoodInHeld 51 = false := by kernel_rfl
  unfold gdE
  rw [show (10000 : Nat) = 9999 + 1 from rfl, run_equalIn_agg w 9999 51 _ _ hS hp]
  simp only [Program.fieldsOf, Tryd.underlying51]
  go_simp
  by_cases h0 : x.ad = y.ad
  · skip
    by_cases h1 : x.sz = y.sz
    · skip
      by_cases h2 : x.fill = y.fill
      · skip
        by_cases h3 : x.txt = y.txt
        · simp [cast_eq, txt_eq, h0, h1, h2, h3]
        · simp [cast_eq, txt_eq, h0, h1, h2, h3]
      · simp [cast_eq, txt_eq, h0, h1, h2]
    · simp [cast_eq, txt_eq, h0, h1]
  · simp [cast_eq, txt_eq, h0]
theorem gd_guard : Tryd.prog.eqGuardType Tryd.prog.depth 51 = false := by kernel_rfl
theorem gd_neq (x y : Gd) (w : World) : (binOp .neq 51 (.agg (gdE x).toArray) (.agg (gdE y).toArray)).run Tryd.prog w = .ok (.bool (!decide (x.ad = y.ad ∧ x.sz = y.sz ∧ x.fill = y.fill ∧ x.txt = y.txt))) w := by
  rw [run_neq_struct, gd_equal]
  rfl
theorem eqItems_tab (f g : Nat → Nat) (w : World) {i : TypeInfo} (hi : Tryd.prog.info? 22 = some i) : True := trivial
theorem tab_equal2 (f g : Nat → Nat) (w : World) : (Op.equalIn 10000 59 (.agg (tabV f)) (.agg (tabV g))).run Tryd.prog w = .ok (decide (∀ j ∈ List.range 512, f j = g j)) w := by
  have hu : Tryd.prog.underlying 59 = some (.array 512 22) := by kernel_rfl
  have hb : Tryd.prog.underlying 22 = some (.int .u64) := by kernel_rfl
  have hs : (Tryd.prog.info? 22).isSome = true := by kernel_rfl
  obtain ⟨i, hi⟩ := Option.isSome_iff_exists.1 hs
  have hc : Tryd.prog.cellsOf 22 = 1 := by kernel_rfl
  rw [run_equalIn_array w 9999 (tabV f) (tabV g) hu hi, hc]
  have hl : ∀ j ∈ List.range 512, j < 512 := fun j hj => List.mem_range.1 hj
  generalize List.range 512 = l at hl ⊢
  induction l with
  | nil => simp [Op.eqItems]
  | cons j l ih =>
    have hj : j < 512 := hl j (by simp)
    have px : (part 22 (tabV f) (j * 1)).run Tryd.prog w = .ok (.int .u64 (f j : Int)) w := by
      have := tabV_get f hj
      simp [part, isAgg, run_underlying hb, this]
    have py : (part 22 (tabV g) (j * 1)).run Tryd.prog w = .ok (.int .u64 (g j : Int)) w := by
      have := tabV_get g hj
      simp [part, isAgg, run_underlying hb, this]
    have ih' := ih fun k hk => hl k (by simp [hk])
    by_cases h : f j = g j
    · have hbq : ((f j : Int) == (g j : Int)) = true := by simp [h]
      simp only [Op.eqItems, Sem.run_bind, px, py, run_equalIn_int w 9998 22 .u64 .u64 _ _ hb, Result.andThen_ok, hbq]
      simp [h] at ih' ⊢
      exact ih'
    · have hbq : ((f j : Int) == (g j : Int)) = false := by simp; omega
      simp only [Op.eqItems, Sem.run_bind, px, py, run_equalIn_int w 9998 22 .u64 .u64 _ _ hb, Result.andThen_ok, hbq]
      simp [h]
theorem tab_neq2 (f g : Nat → Nat) (w : World) : (binOp .neq 59 (.agg (tabV f)) (.agg (tabV g))).run Tryd.prog w = .ok (.bool (!decide (∀ j ∈ List.range 512, f j = g j))) w := by
  rw [run_neq_struct, tab_equal2]
  rfl
end Go.Proofs.YtinjhgimhboigaaDoor
