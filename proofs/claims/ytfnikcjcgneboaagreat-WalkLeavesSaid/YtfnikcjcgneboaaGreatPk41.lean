import Derived.Test.YtfnikcjcgneboaaGreatPk05
import Derived.Laws.StructEq
import Derived.Deep.RegionHeld3
/- walk's Make, and the document's Entry and Make. Own work. -/
namespace Go.Proofs.YtfnikcjcgneboaaGreat
open Go.RowKit Wk
theorem same_ent (w : World) (x y : Ent) : (Op.equalIn 10000 113 (EntV x) (EntV y)).run Tryz.prog w = .ok (x == y) w := by
  obtain ⟨a, b, c, d, e⟩ := x
  obtain ⟨a', b', c', d', e'⟩ := y
  have u1 := Tryz.underlying4
  have a1 := Tryz.isAgg4
  have z1 := Tryz.sizeOf4
  have u := Tryz.underlying34
  have a2 := Tryz.isAgg34
  have z := Tryz.sizeOf34
  have hS : Tryz.prog.underlying 113 = some (.struct (Tryz.prog.fieldsOf 113)) := by kernel_rfl
  have hp : Tryz.prog.stoodInHeld 113 = false := by kernel_rfl
  have he : (((a, b, c, d, e) : Ent) == (a', b', c', d', e')) = ((a == a') && ((b == b') && ((c == c') && ((d == d') && (e == e'))))) := rfl
  rw [he, EntV, EntV, show (10000 : Nat) = 9999 + 1 from rfl, run_equalIn_agg w 9999 113 _ _ hS hp]
  simp only [Program.fieldsOf, Tryz.underlying113]
  go_simp
  by_cases h1 : a = a'
  · subst h1
    cases b <;> cases b' <;> cases c <;> cases c' <;> cases d <;> cases d' <;> cases e <;> cases e' <;> simp
  · have : (a == a') = false := by simpa using h1
    have h2 : ¬ (a : Int) = (a' : Int) := by omega
    rw [this]
    simp [h2]
theorem eql_ent (w : World) (x y : Ent) : (binOp .eql 113 (EntV x) (EntV y)).run Tryz.prog w = .ok (.bool (x == y)) w := by
  have := same_ent w x y
  rw [EntV, EntV] at *
  rw [run_eql_struct, this]
  rfl
theorem neq_ent (w : World) (x y : Ent) : (binOp .neq 113 (EntV x) (EntV y)).run Tryz.prog w = .ok (.bool (x != y)) w := by
  have := same_ent w x y
  rw [EntV, EntV] at *
  rw [run_neq_struct, this]
  rfl
theorem guard_ent : Tryz.prog.eqGuardType Tryz.prog.depth 113 = false := by kernel_rfl
theorem wpList_eql_ent {w : World} {ops : Array Oper} {rest : List Oper} {o : Oper} {a : Act} {Q : Exit → Act → World → Prop} (hw : Region.wanted o (yielded ops a.tmps) = true) (x y : Operand) {t' : TypeId} (ho : o.op = .binOp .eql 113 x y t') {p q : Ent} {b : Bool} (hx : a.eval x = EntV p) (hy : a.eval y = EntV q) (hb : (p == q) = b)
    (hK : wpList Tryz.prog ops Q rest (a.put o.dst (.bool b)) w) : wpList Tryz.prog ops Q (o :: rest) a w := by
  refine wpList_step fun K' hK' => ?_
  rw [if_pos hw]
  unfold Oper.wp execOp
  have hg : (eqGuard .eql 113 x y (EntV p) (EntV q)).run Tryz.prog w = .ok () w := run_eqGuard_agg w _ _ _ _ _ _ guard_ent
  simp only [ho, hx, hy, Sem.run_bind, Sem.run_pure, Result.andThen_ok, hg, eql_ent, hb]
  exact hK' _ _ hK
theorem wpList_neq_ent {w : World} {ops : Array Oper} {rest : List Oper} {o : Oper} {a : Act} {Q : Exit → Act → World → Prop} (hw : Region.wanted o (yielded ops a.tmps) = true) (x y : Operand) {t' : TypeId} (ho : o.op = .binOp .neq 113 x y t') {p q : Ent} {b : Bool} (hx : a.eval x = EntV p) (hy : a.eval y = EntV q) (hb : (p != q) = b)
    (hK : wpList Tryz.prog ops Q rest (a.put o.dst (.bool b)) w) : wpList Tryz.prog ops Q (o :: rest) a w := by
  refine wpList_step fun K' hK' => ?_
  rw [if_pos hw]
  unfold Oper.wp execOp
  have hg : (eqGuard .neq 113 x y (EntV p) (EntV q)).run Tryz.prog w = .ok () w := run_eqGuard_agg w _ _ _ _ _ _ guard_ent
  simp only [ho, hx, hy, Sem.run_bind, Sem.run_pure, Result.andThen_ok, hg, neq_ent, hb]
  exact hK' _ _ hK
theorem or_lt {a b : Nat} (ha : a < 18446744073709551616) (hb : b < 18446744073709551616) : a ||| b < 18446744073709551616 := Nat.or_lt_two_pow (n := 64) ha hb
theorem nbit_lt (b : Bool) {n : Nat} (h : n < 18446744073709551616) : nbit b n < 18446744073709551616 := by
  cases b
  · exact (by decide : 0 < 18446744073709551616)
  · exact h
def MakePost (w : World) (r : Nat × Int) (x : Ending) (w' : World) : Prop := x = .returned (.tuple #[.int .u64 (r.1 : Int), .int .i64 r.2]) ∧ Below w.heap.size w w'
end Go.Proofs.YtfnikcjcgneboaaGreat
