/- Same of two rows of lexemes. -/
import Derived.Test.YtlhecgokedckdaaDoorRefG
import Derived.Laws.StructEq
import Derived.Deep.RegionHeld3
import Derived.Test.YtlhecgokedckdaaDoorScKnown
namespace Go.Proofs.YtlhecgokedckdaaDoor
open Go.RowKit Sc
theorem same_tok (w : World) (k n : Nat) (s : List Nat) (a e : Nat) : (Op.equalIn 10000 38 (tokV k n s a e) (tokV k n s a e)).run Tryd.prog w = .ok true w := by
  have u1 := Tryd.underlying3
  have a1 := Tryd.isAgg3
  have z1 := Tryd.sizeOf3
  have u := Tryd.underlying36
  have a2 := Tryd.isAgg36
  have z := Tryd.sizeOf36
  have u3 := Tryd.underlying9
  have a3 := Tryd.isAgg9
  have z3 := Tryd.sizeOf9
  have hS : Tryd.prog.underlying 38 = some (.struct (Tryd.prog.fieldsOf 38)) := by kernel_rfl
  have hp : Tryd.prog.stoodInHeld 38 = false := by kernel_rfl
  rw [tokV, show (10000 : Nat) = 9999 + 1 from rfl, run_equalIn_agg w 9999 38 _ _ hS hp]
  simp only [Program.fieldsOf, Tryd.underlying38]
  go_simp
theorem neq_tok (w : World) (k n : Nat) (s : List Nat) (a e : Nat) : (binOp .neq 38 (tokV k n s a e) (tokV k n s a e)).run Tryd.prog w = .ok (.bool false) w := by
  have := same_tok w k n s a e
  rw [tokV] at *
  rw [run_neq_struct, this]
  rfl
theorem guard_tok : Tryd.prog.eqGuardType Tryd.prog.depth 38 = false := by kernel_rfl
theorem step_neq_tok {w : World} {ops : Array Oper} {o : Oper} {a : Act} {K : Act → World → Prop} {Q : Exit → Act → World → Prop} {E : Prop} (t : Tok) (hw : Region.wanted o (yielded ops a.tmps) = true) (x y : Operand) {t' : TypeId} (ho : o.op = .binOp .neq 38 x y t')
    (hx : a.eval x = tokV t.kind t.n t.s t.at_ t.end_) (hy : a.eval y = tokV t.kind t.n t.s t.at_ t.end_) (h : K (a.put o.dst (.bool false)) w) : if Region.wanted o (yielded ops a.tmps) = true then Oper.wp Tryd.prog o a w K Q else E := by
  rw [if_pos hw]
  unfold Oper.wp execOp
  have hg : (eqGuard .neq 38 x y (tokV t.kind t.n t.s t.at_ t.end_) (tokV t.kind t.n t.s t.at_ t.end_)).run Tryd.prog w = .ok () w := run_eqGuard_agg w _ _ _ _ _ _ guard_tok
  simp only [ho, hx, hy, Sem.run_bind, Sem.run_pure, Result.andThen_ok, hg, neq_tok]
  exact h
set_option maxRecDepth 100000 in
set_option maxHeartbeats 400000 in
theorem sameT_pos {w : World} {ts : List Tok} {g g2 c c2 : Nat} (hl : ts.length ≤ 1048576)
    (hc : ∀ j i, (hj : j < ts.length) → i < 5 → w.cell? ⟨g, j * 5 + i, none⟩ = (encT ts[j])[i]?) (hc2 : ∀ j i, (hj : j < ts.length) → i < 5 → w.cell? ⟨g2, j * 5 + i, none⟩ = (encT ts[j])[i]?) :
    Calls Tryd.prog 6 #[.slice (some ⟨g, 0, none⟩) ts.length c, .slice (some ⟨g2, 0, none⟩) ts.length c2] w fun e w' => e = .returned (.bool true) ∧ Below w.heap.size w w' := by
  have HC : Hid (∀ j i, (hj : j < ts.length) → i < 5 → w.cell? ⟨g, j * 5 + i, none⟩ = (encT ts[j])[i]?) := hc
  have HC2 : Hid (∀ j i, (hj : j < ts.length) → i < 5 → w.cell? ⟨g2, j * 5 + i, none⟩ = (encT ts[j])[i]?) := hc2
  clear hc hc2
  go_enter Tryd.func6, Tryd.ntmps6
  go_wp2
  go_loopw [5] (fun i wr => ∃ k : Nat, k ≤ ts.length ∧ i = .int .i64 k ∧ (∀ p, wr.cell? p = w.cell? p) ∧ Hid (Below w.heap.size w wr)) (fun i _ => ts.length - (intOf i).toNat)
  case atStart => exact ⟨0, Nat.zero_le _, rfl, fun _ => rfl, Below.refl _ _⟩
  case round =>
    obtain ⟨k, hk, rfl, hcw, HB⟩ := hrel
    by_cases hlt : k < ts.length
    · have q0 : wr.cell? ⟨g, k * 5, none⟩ = some _ := (hcw _).trans (HC.out k 0 hlt (by decide))
      have q1 : wr.cell? ⟨g, k * 5 + 1, none⟩ = some _ := (hcw _).trans (HC.out k 1 hlt (by decide))
      have q2 : wr.cell? ⟨g, k * 5 + 2, none⟩ = some _ := (hcw _).trans (HC.out k 2 hlt (by decide))
      have q3 : wr.cell? ⟨g, k * 5 + 3, none⟩ = some _ := (hcw _).trans (HC.out k 3 hlt (by decide))
      have q4 : wr.cell? ⟨g, k * 5 + 4, none⟩ = some _ := (hcw _).trans (HC.out k 4 hlt (by decide))
      have p0 : wr.cell? ⟨g2, k * 5, none⟩ = some _ := (hcw _).trans (HC2.out k 0 hlt (by decide))
      have p1 : wr.cell? ⟨g2, k * 5 + 1, none⟩ = some _ := (hcw _).trans (HC2.out k 1 hlt (by decide))
      have p2 : wr.cell? ⟨g2, k * 5 + 2, none⟩ = some _ := (hcw _).trans (HC2.out k 2 hlt (by decide))
      have p3 : wr.cell? ⟨g2, k * 5 + 3, none⟩ = some _ := (hcw _).trans (HC2.out k 3 hlt (by decide))
      have p4 : wr.cell? ⟨g2, k * 5 + 4, none⟩ = some _ := (hcw _).trans (HC2.out k 4 hlt (by decide))
      generalize ts[k] = t at *
      have HCW : Hid (∀ p, wr.cell? p = w.cell? p) := hcw
      clear hcw
      go_wp2
      go_region_law (refine step_neq_tok t (by kernel_rfl) (.tmp 20) (.tmp 24) (by rfl) (by rfl) (by rfl) ?_)
      all_goals
        go_wp2
        go_roundw
        case rel => exact ⟨k + 1, by omega, by go_num, HCW.out, by repeat (first | exact HB.out | refine Below.drew ?_)⟩
        case measure => simp [intOf]; omega
    · go_wp2
      go_ret
      exact ⟨rfl, HB.out⟩
set_option maxHeartbeats 400000 in
theorem sameT_none (ao ao2 : Option Addr) (c c2 : Nat) (w : World) :
    Calls Tryd.prog 6 #[.slice ao 0 c, .slice ao2 0 c2] w fun e w' => e = .returned (.bool true) ∧ Below w.heap.size w w' := by
  go_enter Tryd.func6, Tryd.ntmps6
  go_wp2
  go_loop [5] (fun i => i = .int .i64 0) (fun _ => 0)
  case atStart => rfl
  case round =>
    subst hrel
    go_wp2
    go_ret
    exact ⟨rfl, Below.refl _ _⟩
theorem sameT_any {u v : Value} {ts : List Tok} {w : World} {b1 b2 : Nat} (hu : OwnT w b1 u ts) (hv : OwnT w b2 v ts) (hl : ts.length ≤ 1048576) :
    Calls Tryd.prog 6 #[u, v] w fun e w' => e = .returned (.bool true) ∧ Below w.heap.size w w' := by
  by_cases hp : 0 < ts.length
  · obtain ⟨g, c, rfl, _, _, _, _, h3⟩ := hu.cells hp
    obtain ⟨g2, c2, rfl, _, _, _, _, k3⟩ := hv.cells hp
    exact sameT_pos hl h3 k3
  · obtain rfl : ts = [] := List.eq_nil_of_length_eq_zero (by omega)
    obtain ⟨ao, cap, rfl⟩ := hu.form
    obtain ⟨ao2, cap2, rfl⟩ := hv.form
    exact sameT_none ao ao2 cap cap2 w
end Go.Proofs.YtlhecgokedckdaaDoor
