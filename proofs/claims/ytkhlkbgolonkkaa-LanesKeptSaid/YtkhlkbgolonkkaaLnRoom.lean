/- Lanes: Roomy, Same, Intact of stints, walked. Own work. -/
import Derived.Test.YtkhlkbgolonkkaaLnBk
import Derived.Deep.RegionLaw
namespace Go.Proofs.Ytkhlkbgolonkkaa
open Go.RowKit
/-- a row with 80 more places, of which k bear the mark -/
def fill2 (p : List (Int × Int)) (k : Nat) : List (Int × Int) := p ++ (List.replicate k (0, -9) ++ List.replicate (80 - k) (0, 0))
def room2 (p : List (Int × Int)) : List (Int × Int) := p ++ List.replicate 80 (0, -9)
theorem fill2_len (p : List (Int × Int)) (k : Nat) (hk : k ≤ 80) : (fill2 p k).length = p.length + 80 := by simp [fill2]; omega
theorem room2_len (p : List (Int × Int)) : (room2 p).length = p.length + 80 := by rw [room2, List.length_append, List.length_replicate]
theorem fill2_set (p : List (Int × Int)) (k : Nat) (hk : k < 80) : (fill2 p k).set (p.length + k) (0, -9) = fill2 p (k + 1) := by
  unfold fill2
  rw [List.set_append_right _ _ (by omega), Nat.add_sub_cancel_left, List.set_append_right _ _ (by simp), List.length_replicate, Nat.sub_self, show 80 - k = (80 - (k + 1)) + 1 by omega, List.replicate_succ, List.set_cons_zero, List.replicate_succ', List.append_assoc]
  rfl
theorem fill2_end (p : List (Int × Int)) : fill2 p 80 = room2 p := by simp only [fill2, room2, Nat.sub_self, List.replicate_zero, List.append_nil]
theorem made2 {w : World} {base g n : Nat} (h : w.ownsRow base 58 2 (.slice (some ⟨g, 0, none⟩) n n) n (madeCells #[Value.int .i64 0, .int .i64 0] (n * 2)).toList) : Row2 w g (List.replicate n (0, 0)) := by
  rcases h.2 with ⟨hc, _⟩ | ⟨g', cap, cur, hv, _, hg, _, _, hs, ht⟩
  · cases hc
  · cases hv
    unfold Row2
    rw [hg]
    have e : cur.toList = enc2s (List.replicate n (0, 0)) := by
      rw [List.take_of_length_le (by simp [hs])] at ht
      rw [ht]
      apply List.ext_getElem?
      intro j
      by_cases hj : j < n * 2
      · rw [show j = j / 2 * 2 + j % 2 by omega, enc2s_get _ (j / 2) (j % 2) (by rw [List.length_replicate]; omega) (by omega), List.getElem_replicate]
        rw [Array.getElem?_toList]
        have hj' : j / 2 * 2 + j % 2 < (madeCells #[Value.int .i64 0, .int .i64 0] (n * 2)).size := by rw [size_madeCells]; omega
        rw [Array.getElem?_eq_getElem hj']
        have : (madeCells #[Value.int .i64 0, .int .i64 0] (n * 2))[j / 2 * 2 + j % 2] = .int .i64 0 := by
          simp only [madeCells, Array.getElem_map, Array.getElem_range]
          have h2 : (#[Value.int .i64 0, .int .i64 0] : Array Value).size = 2 := rfl
          rw [h2]
          rcases (by omega : (j / 2 * 2 + j % 2) % 2 = 0 ∨ (j / 2 * 2 + j % 2) % 2 = 1) with e | e <;> rw [e] <;> rfl
        rw [this]
        rcases (by omega : j % 2 = 0 ∨ j % 2 = 1) with e | e <;> rw [e] <;> rfl
      · rw [List.getElem?_eq_none (by rw [Array.length_toList, size_madeCells]; omega), List.getElem?_eq_none (by rw [enc2s_length, List.length_replicate]; omega)]
    rw [← e]
/-- two stints that are the same -/
theorem eq_st (w : World) (a b : Int) : (Op.equalIn 10000 58 (.agg #[.int .i64 a, .int .i64 b]) (.agg #[.int .i64 a, .int .i64 b])).run Try.prog w = .ok true w := by
  have u1 := Try.underlying3
  have a1 := Try.isAgg3
  have z1 := Try.sizeOf3
  have hS : Try.prog.underlying 58 = some (.struct (Try.prog.fieldsOf 58)) := by kernel_rfl
  have hp : Try.prog.stoodInHeld 58 = false := by kernel_rfl
  rw [show (10000 : Nat) = 9999 + 1 from rfl, run_equalIn_agg w 9999 58 _ _ hS hp]
  simp only [Program.fieldsOf, Try.underlying58]
  go_simp
theorem guard_st : Try.prog.eqGuardType Try.prog.depth 58 = false := by kernel_rfl
theorem neq_st (w : World) (a b : Int) : (binOp .neq 58 (.agg #[.int .i64 a, .int .i64 b]) (.agg #[.int .i64 a, .int .i64 b])).run Try.prog w = .ok (.bool false) w := by
  rw [run_neq_struct, eq_st]
  rfl
theorem step_neq_st {w : World} {ops : Array Oper} {o : Oper} {a : Act} {K : Act → World → Prop} {Q : Exit → Act → World → Prop} {E : Prop} (b c : Int) (hw : Region.wanted o (yielded ops a.tmps) = true) (x y : Operand) {t' : TypeId} (ho : o.op = .binOp .neq 58 x y t')
    (hx : a.eval x = .agg #[.int .i64 b, .int .i64 c]) (hy : a.eval y = .agg #[.int .i64 b, .int .i64 c]) (h : K (a.put o.dst (.bool false)) w) : if Region.wanted o (yielded ops a.tmps) = true then Oper.wp Try.prog o a w K Q else E := by
  rw [if_pos hw]
  unfold Oper.wp execOp
  have hg : (eqGuard .neq 58 x y (.agg #[.int .i64 b, .int .i64 c]) (.agg #[.int .i64 b, .int .i64 c])).run Try.prog w = .ok () w := run_eqGuard_agg w _ _ _ _ _ _ guard_st
  simp only [ho, hx, hy, Sem.run_bind, Sem.run_pure, Result.andThen_ok, hg, neq_st]
  exact h
end Go.Proofs.Ytkhlkbgolonkkaa
