/- BusNames: the walk. Own work. -/
import Derived.Test.YtmaahompmgmkfaaBNames
namespace Go.Proofs.Ytmaahompmgmkfaa
open Go.RowKit Go.Maps Go.Proofs.Ytmaahompmgmkfaa.Sp
theorem eql_fault (w : World) (a b c d : Int) : (binOp .eql 42 (.agg #[.int .i64 a, .int .u64 b]) (.agg #[.int .i64 c, .int .u64 d])).run Try.prog w = .ok (.bool ((a == c) && (b == d))) w := by
  have u1 := Try.underlying40
  have a1 := Try.isAgg40
  have z1 := Try.sizeOf40
  have u := Try.underlying25
  have a2 := Try.isAgg25
  have z := Try.sizeOf25
  have hS : Try.prog.underlying 42 = some (.struct (Try.prog.fieldsOf 42)) := by kernel_rfl
  have hp : Try.prog.stoodInHeld 42 = false := by kernel_rfl
  rw [run_eql_struct, show (10000 : Nat) = 9999 + 1 from rfl, run_equalIn_agg w 9999 42 _ _ hS hp]
  simp only [Program.fieldsOf, Try.underlying42]
  go_simp
  by_cases h1 : a = c <;> by_cases h2 : b = d <;> simp [h1, h2]
theorem eql_spot (w : World) (a b e c d f : Int) : (binOp .eql 37 (.agg #[.int .i64 a, .int .i64 b, .int .u64 e]) (.agg #[.int .i64 c, .int .i64 d, .int .u64 f])).run Try.prog w = .ok (.bool ((a == c) && (b == d) && (e == f))) w := by
  have u1 := Try.underlying3
  have a1 := Try.isAgg3
  have z1 := Try.sizeOf3
  have u := Try.underlying25
  have a2 := Try.isAgg25
  have z := Try.sizeOf25
  have hS : Try.prog.underlying 37 = some (.struct (Try.prog.fieldsOf 37)) := by kernel_rfl
  have hp : Try.prog.stoodInHeld 37 = false := by kernel_rfl
  rw [run_eql_struct, show (10000 : Nat) = 9999 + 1 from rfl, run_equalIn_agg w 9999 37 _ _ hS hp]
  simp only [Program.fieldsOf, Try.underlying37]
  go_simp
  by_cases h1 : a = c <;> by_cases h2 : b = d <;> by_cases h3 : e = f <;> simp [h1, h2, h3]
theorem guard_fault : Try.prog.eqGuardType Try.prog.depth 42 = false := by kernel_rfl
theorem guard_spot : Try.prog.eqGuardType Try.prog.depth 37 = false := by kernel_rfl
theorem wpList_eql_fault {w : World} {ops : Array Oper} {rest : List Oper} {o : Oper} {a : Act} {Q : Exit → Act → World → Prop} (hw : Region.wanted o (yielded ops a.tmps) = true) (x y : Operand) {t' : TypeId} (ho : o.op = .binOp .eql 42 x y t') {p q p' q' : Int} {b : Bool} (hx : a.eval x = .agg #[.int .i64 p, .int .u64 q]) (hy : a.eval y = .agg #[.int .i64 p', .int .u64 q']) (hb : ((p == p') && (q == q')) = b)
    (hK : wpList Try.prog ops Q rest (a.put o.dst (.bool b)) w) : wpList Try.prog ops Q (o :: rest) a w := by
  refine wpList_step fun K' hK' => ?_
  rw [if_pos hw]
  unfold Oper.wp execOp
  simp only [ho, hx, hy, Sem.run_bind, Sem.run_pure, Result.andThen_ok, run_eqGuard_agg w _ _ _ _ _ _ guard_fault, eql_fault, hb]
  exact hK' _ _ hK
theorem wpList_eql_spot {w : World} {ops : Array Oper} {rest : List Oper} {o : Oper} {a : Act} {Q : Exit → Act → World → Prop} (hw : Region.wanted o (yielded ops a.tmps) = true) (x y : Operand) {t' : TypeId} (ho : o.op = .binOp .eql 37 x y t') {p q r p' q' r' : Int} {b : Bool} (hx : a.eval x = .agg #[.int .i64 p, .int .i64 q, .int .u64 r]) (hy : a.eval y = .agg #[.int .i64 p', .int .i64 q', .int .u64 r']) (hb : ((p == p') && (q == q') && (r == r')) = b)
    (hK : wpList Try.prog ops Q rest (a.put o.dst (.bool b)) w) : wpList Try.prog ops Q (o :: rest) a w := by
  refine wpList_step fun K' hK' => ?_
  rw [if_pos hw]
  unfold Oper.wp execOp
  simp only [ho, hx, hy, Sem.run_bind, Sem.run_pure, Result.andThen_ok, run_eqGuard_agg w _ _ _ _ _ _ guard_spot, eql_spot, hb]
  exact hK' _ _ hK
end Go.Proofs.Ytmaahompmgmkfaa
