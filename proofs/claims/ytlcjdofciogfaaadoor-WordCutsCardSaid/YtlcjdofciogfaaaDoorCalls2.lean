/- Calls and conversions as operations of a region that draws; a script's step. -/
import Derived.Test.YtlcjdofciogfaaaDoorOpForth
namespace Go.Proofs.YtlcjdofciogfaaaDoor
open Go.RowKit
theorem own_ge {w : World} {base : Nat} {v : Value} {xs : List Nat} (h : Own w base v xs) {k : Nat} (hk : v.ownBlock = some k) : base ≤ k := by
  rcases h.2 with hv | ⟨g, cap, cur, rfl, hb, hgg, rest⟩
  · rcases hv with ⟨rfl, _⟩; cases hk
  · cases hk; exact hb
theorem Scr.at {w wr : World} {ao : Option Addr} {n cap : Nat} {os : List OpV} (h : Scr w (.slice ao n cap) os) (hb : Below w.heap.size w wr) (k : Nat) (hk : k < os.length) : ∃ b o op, ao = some ⟨b, o, none⟩ ∧ op = os[k] ∧ Sl wr op.pv op.ps ∧ op.n < 18446744073709551616 ∧
    wr.cell? ⟨b, o + k * 6, none⟩ = some (.int .i64 op.kind) ∧ wr.cell? ⟨b, o + k * 6 + 1, none⟩ = some (.int .i64 op.pos) ∧ wr.cell? ⟨b, o + k * 6 + 2, none⟩ = some (.int .u64 (op.n : Int)) ∧
    wr.cell? ⟨b, o + k * 6 + 3, none⟩ = some (.int .i64 op.num) ∧ wr.cell? ⟨b, o + k * 6 + 4, none⟩ = some op.pv ∧ wr.cell? ⟨b, o + k * 6 + 5, none⟩ = some (.string op.s) := by
  obtain ⟨ao', cap', e, _, _, h⟩ := h
  cases e
  obtain ⟨b, o, e, h1, h2, c0, c1, c2, c3, c4, c5⟩ := h k hk
  have hc : ∀ {i : Nat} {v : Value}, w.cell? ⟨b, i, none⟩ = some v → wr.cell? ⟨b, i, none⟩ = some v := fun {i v} hx => by
    rw [hb.cell (p := ⟨b, i, none⟩) (World.block_lt_of_cell? w _ hx)]; exact hx
  exact ⟨b, o, os[k], e, rfl, h1.below hb, h2, hc c0, hc c1, hc c2, hc c3, hc c4, hc c5⟩
theorem step_call2 {P : Program} {ops : Array Oper} {o : Oper} {a : Act} {w : World} {K : Act → World → Prop} {Q : Exit → Act → World → Prop} {E : Prop} (hw : Region.wanted o (yielded ops a.tmps) = true)
    (f : FuncId) (xs : Array Operand) (ats : Array TypeId) (ho : o.op = .call { callee := .value (.func f), args := xs, argTypes := ats }) (he : Enters P f) (args : Array Value) (hargs : #[] ++ xs.map a.eval ++ #[] = args) {v : Value} {R : World → Prop}
    (hc : Calls P f args w fun e w' => e = .returned v ∧ R w') (hK : ∀ w', R w' → K (a.put o.dst v) w') :
    if Region.wanted o (yielded ops a.tmps) = true then Oper.wp P o a w K Q else E := by
  rw [if_pos hw]
  have e1 : execOp a.eval o = callFunc f args := by
    cases o
    simp only at ho
    subst ho
    rw [← hargs]
    rfl
  unfold Oper.wp
  rw [e1, he args w]
  rw [Oper.upon_enter]
  refine hc.mono ?_
  rintro e w' ⟨rfl, h⟩
  exact hK w' h
/-- a call of a Go function, as one of the operations of a region that may come next -/
theorem ready_call {P : Program} {md : Region.Mode} {ops : Array Oper} {Q : Exit → Act → World → Prop} {fuel : Nat} {listed : Array Bool} {a : Act} {w : World} {i : Nat} {o : Oper} {rs : List Nat} (hi : ops[i]? = some o) (hw : Region.wanted o (yielded ops a.tmps) = true)
    (f : FuncId) (xs : Array Operand) (ats : Array TypeId) (ho : o.op = .call { callee := .value (.func f), args := xs, argTypes := ats }) (he : Enters P f) (args : Array Value) (hargs : #[] ++ xs.map a.eval ++ #[] = args) {v : Value} {R : World → Prop}
    (hc : Calls P f args w fun e w' => e = .returned v ∧ R w') (hK : ∀ w', R w' → wpAny P md ops Q fuel (listed.setIfInBounds i true) (a.put o.dst v) w') (hs : AllReady P md ops Q fuel listed a w rs) : AllReady P md ops Q fuel listed a w (i :: rs) :=
  AllReady.cons hi (fun _ hK' => step_call2 hw f xs ats ho he args hargs hc (fun w' hr => hK' _ _ (hK w' hr))) hs
/-- string(b), as one of the operations of a region that may come next -/
theorem ready_conv {md : Region.Mode} {ops : Array Oper} {Q : Exit → Act → World → Prop} {fuel : Nat} {listed : Array Bool} {a : Act} {w : World} {i : Nat} {o : Oper} {rs : List Nat} (hi : ops[i]? = some o) (x : Operand) (hw : Region.wanted o (yielded ops a.tmps) = true) (ho : o.op = .convert 34 9 x)
    {u : Value} {zs : List Nat} (hx : a.eval x = u) (hsl : Sl w u zs) (hK : wpAny Tryd.prog md ops Q fuel (listed.setIfInBounds i true) (a.put o.dst (.string (mkS zs))) w) (hs : AllReady Tryd.prog md ops Q fuel listed a w rs) : AllReady Tryd.prog md ops Q fuel listed a w (i :: rs) := by
  refine AllReady.cons hi (fun K hK' => ?_) hs
  rw [if_pos hw]
  unfold Oper.wp execOp
  simp only [ho, Sem.run_bind, Sem.run_pure, Result.andThen_ok, hx, conv_str hsl]
  exact hK' _ _ hK
theorem row_whole {w : World} {g : Nat} {zs : List Nat} (h : Row w g zs) (hs : ∀ z ∈ zs, z < 256) (hl : zs.length ≤ 549755813888) : Sl w (.slice (some ⟨g, 0, none⟩) zs.length zs.length) zs := by
  have := h.sl hs 0 zs.length zs.length (by omega) (Nat.le_refl _) (by unfold maxLen; omega)
  rwa [List.drop_zero, List.take_length] at this
end Go.Proofs.YtlcjdofciogfaaaDoor
