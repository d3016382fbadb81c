/- pair, many. Own work. -/
import Derived.Test.YtogcpogoamoljaaSpOfU8
import Derived.Test.YtogcpogoamoljaaSpArg
import Derived.Deep.RegionHeld3
namespace Go.Proofs.Ytogcpogoamoljaa.U8
open Go.RowKit Go.Shelf Go.Proofs.Ytogcpogoamoljaa.Sp

theorem pair_any {a b : Int} (_ha : 0 ≤ a ∧ a ≤ 18446744073709551615) (_hb : 0 ≤ b ∧ b ≤ 18446744073709551615) (w : World) :
    Calls Try.prog 6 #[.int .u64 a, .int .u64 b] w fun e w' => e = .returned (.agg #[.int .u8 (a % (255 + 1)), .int .u8 (b % (255 + 1))]) ∧ ∃ X, w' = w.alloc X := by
  have d := new2 (W := w) rfl (.int .u8 (a % (255 + 1))) (.int .u8 (b % (255 + 1))) 28
  have e1 : IntKind.u8.wrap a = a % (255 + 1) := rfl
  have e2 : IntKind.u8.wrap b = b % (255 + 1) := rfl
  have i1 : 0 ≤ a % (255 + 1) ∧ a % (255 + 1) ≤ 255 := by omega
  have i2 : 0 ≤ b % (255 + 1) ∧ b % (255 + 1) ≤ 255 := by omega
  go_enter Try.func6, Try.ntmps6
  go_wp2_with fail
  refine bodyPost_ret (v := .agg #[.int .u8 (a % (255 + 1)), .int .u8 (b % (255 + 1))]) ?_ rfl ?_
  · simp [results, Try.results6, go_sem]
    try omega
  · exact ⟨rfl, _, rfl⟩

/-- An append of one span as a step of a region that draws. -/
theorem step_append1 {w : World} {ops : Array Oper} {o : Oper} {a : Act} {K : Act → World → Prop} {Q : Exit → Act → World → Prop} {E : Prop} (hw : Region.wanted o (yielded ops a.tmps) = true) (s x : Operand)
    (ho : o.op = .call { callee := .builtin .append, args := #[s, x], argTypes := #[23, 23] })
    {base : Nat} {v : Value} {xs : List Sp} (y : Sp) {g cap : Nat} (hs : a.eval s = v) (hown : Own w base v xs) (hx : a.eval x = .slice (some ⟨g, 0, none⟩) 1 cap) (h0 : w.cell? ⟨g, 0, none⟩ = some (.int .u8 y.1)) (h1 : w.cell? ⟨g, 1, none⟩ = some (.int .u8 y.2)) (hb : xs.length ≤ 1099511627776) (hbase : base ≤ w.heap.size)
    (h : ∀ v' w', Own w' base v' (xs ++ [y]) → w.grownBy w' v.ownBlock → K (a.put o.dst v') w') : if Region.wanted o (yielded ops a.tmps) = true then Oper.wp Try.prog o a w K Q else E := by
  rw [if_pos hw]
  obtain ⟨v', w', hr, h2, h3⟩ := run_append1 o.type hown h0 h1 hb hbase (cap := cap)
  unfold Oper.wp execOp
  simp only [ho, resolve, invoke, builtin, Sem.run_bind, Sem.run_pure, Result.andThen_ok, List.map_toArray, List.map_cons, List.map_nil, hs, hx, hr]
  exact h v' w' h2 h3
end Go.Proofs.Ytogcpogoamoljaa.U8
