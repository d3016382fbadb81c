/- Writer.Pad: a region that draws its order. -/
import Derived.Test.YtinjhgimhboigaaDoorZeros
import Derived.Deep.RegionLaw
import Derived.Shelf.Abstract
namespace Go.Proofs.YtinjhgimhboigaaDoor
open Go.RowKit
def gapN (n al : Nat) : Nat := (al - n % al) % al
/-- a call of a Go function that leaves the world alone, as one step of a region that draws -/
theorem step_call {P : Program} {ops : Array Oper} {o : Oper} {a : Act} {w : World} {K : Act → World → Prop} {Q : Exit → Act → World → Prop} {E : Prop} (hw : Region.wanted o (yielded ops a.tmps) = true)
    (f : FuncId) (xs : Array Operand) (ats : Array TypeId) (ho : o.op = .call { callee := .value (.func f), args := xs, argTypes := ats }) (he : Enters P f) (args : Array Value) (hargs : #[] ++ xs.map a.eval ++ #[] = args) (v : Value)
    (hc : Calls P f args w fun e w' => e = .returned v ∧ w' = w) (hK : K (a.put o.dst v) w) :
    if Region.wanted o (yielded ops a.tmps) = true then Oper.wp P o a w K Q else E := by
  rw [if_pos hw]
  have e1 : execOp a.eval o = callFunc f args := by
    cases o
    simp only at ho
    subst ho
    rw [← hargs]
    rfl
  unfold Oper.wp
  rw [e1, he args w]
  rw [Oper.upon_enter]
  refine hc.mono ?_
  rintro e w' ⟨rfl, rfl⟩
  exact hK
/-- append of zeros, as one step of a region that draws -/
theorem step_zeros {w : World} {ops : Array Oper} {o : Oper} {a : Act} {K : Act → World → Prop} {Q : Exit → Act → World → Prop} {E : Prop} (hw : Region.wanted o (yielded ops a.tmps) = true) (s x : Operand)
    (ho : o.op = .call { callee := .builtin .append, args := #[s, x], argTypes := #[37, 3] })
    {base n : Nat} {v : Value} {xs : List Nat} (hs : a.eval s = v) (hown : Own w base v xs) (hx : a.eval x = .int .i64 (n : Int)) (hb : xs.length + n ≤ 1099511627776) (hbase : base ≤ w.heap.size)
    (h : ∀ ao m c w', Own w' base (.slice ao m c) (xs ++ List.replicate n 0) → w.grownBy w' v.ownBlock → ((Value.slice ao m c).ownBlock = v.ownBlock ∨ (Value.slice ao m c).ownBlock = some w.heap.size) → K (a.put o.dst (.slice ao m c)) w') :
    if Region.wanted o (yielded ops a.tmps) = true then Oper.wp Tryd.prog o a w K Q else E := by
  rw [if_pos hw]
  obtain ⟨v', w', hr, h2, h3, h4⟩ := run_append_zeros o.type hown hb hbase
  obtain ⟨ao, m, c, rfl⟩ : ∃ ao m c, v' = .slice ao m c := by
    rcases h2.2 with ⟨e, h0⟩ | ⟨g, c, _, e, _⟩
    · exact ⟨_, _, _, e⟩
    · exact ⟨_, _, _, e⟩
  unfold Oper.wp execOp
  simp only [ho, resolve, invoke, builtin, Sem.run_bind, Sem.run_pure, Result.andThen_ok, List.map_toArray, List.map_cons, List.map_nil, hs, hx, hr]
  exact h ao m c w' h2 h3 h4
theorem Wr.after {w w1 : World} {p : Nat} {v : Value} {zs : List Nat} {why : Int} {base : Nat} (h : Wr w p v zs why base) (hg : w.grownBy w1 v.ownBlock) : w1.heap[p]? = some (.cells #[v, .int .i64 why] 76 (0, 0)) :=
  (hg.block p h.lt (fun e => h.2.2.1 e.symm)).trans h.1
theorem cell0_of {w : World} {p : Nat} {v : Value} {why : Int} (h : w.heap[p]? = some (.cells #[v, .int .i64 why] 76 (0, 0))) : w.cell? ⟨p, 0, none⟩ = some v := by rw [cell_of_row w p 0 _ _ _ h]; rfl
theorem thawed_of {w : World} {p : Nat} {v : Value} {why : Int} (h : w.heap[p]? = some (.cells #[v, .int .i64 why] 76 (0, 0))) : w.frozen? ⟨p, 0, none⟩ = false := by simp [World.frozen?, h]
theorem small_append {xs ys : List Nat} (hx : ∀ z ∈ xs, z < 256) (hy : ∀ z ∈ ys, z < 256) : ∀ z ∈ xs ++ ys, z < 256 := fun z hz => (List.mem_append.1 hz).elim (hx z) (hy z)
theorem small_zeros (n : Nat) : ∀ z ∈ List.replicate n 0, z < 256 := fun z hz => by rw [List.eq_of_mem_replicate hz]; decide
/-- the row's new value is stored in the Writer: what the call leaves -/
theorem Wr.stored {w w0 w1 : World} {p : Nat} {v v' : Value} {zs ys : List Nat} {base : Nat} (h : Wr w p v zs 0 base) (hw : Keeps (Foot p v) w w0) (hs : w.heap.size ≤ w0.heap.size) (hp : w1.heap[p]? = some (.cells #[v, .int .i64 0] 76 (0, 0))) (ho : Own w1 base v' (zs ++ ys)) (hg : w0.grownBy w1 v.ownBlock) (hat : v'.ownBlock = v.ownBlock ∨ v'.ownBlock = some w0.heap.size) (hy : ∀ z ∈ ys, z < 256) :
    ∃ v'', Wr (w1.setCell ⟨p, 0, none⟩ v') p v'' (zs ++ ys) 0 base ∧ Keeps (Foot p v) w (w1.setCell ⟨p, 0, none⟩ v') ∧ At w v v'' := by
  have hA : At w v v' := (At.refl w v).step hs hat
  refine ⟨v', Wr.store hp ho (fun e => h.2.2.1 (hA.foot p h.lt e)) (small_append h.2.2.2 hy), (hw.trans (Keeps.of_grown hg) (fun i _ e => Or.inr e)).trans (Keeps.setCell w1 p 0 _) (fun i _ e => .inl e), hA⟩
end Go.Proofs.YtinjhgimhboigaaDoor
