import Derived.Test.YtnifefmfhjfbnaaGreatDoorPk04
import Derived.Deep.RegionLaw
import Derived.Shelf.Abstract
/- append(dst, make([]byte, n)...): n zeros onto a row of bytes that the call owns. -/
namespace Go.Proofs.YtnifefmfhjfbnaaGreatDoor
open Go.RowKit
end Go.Proofs.YtnifefmfhjfbnaaGreatDoor
/- Writer.Pad: a region that draws its order. -/
namespace Go.Proofs.YtnifefmfhjfbnaaGreatDoor
open Go.RowKit
def gapN (n al : Nat) : Nat := (al - n % al) % al
set_option maxHeartbeats 400000 in
theorem gap_any (n al : Nat) (w : World) (h1 : 1 ≤ al) (h2 : al ≤ 4096) (hn : n ≤ 4611686018427387904) :
  Calls Tryz.prog 147 #[.int .i64 n, .int .i64 al] w fun e w' => e = .returned (.int .i64 (gapN n al : Nat)) ∧ w' = w := by
 have := hn
 have m0 : 0 ≤ (n : Int) % al := Int.emod_nonneg _ (by omega)
 have m1 : (n : Int) % al < al := Int.emod_lt_of_pos _ (by omega)
 have e1 : ((gapN n al : Nat) : Int) = ((al : Int) - (n : Int) % al) % al := by
  unfold gapN
  have hlt : n % al < al := Nat.mod_lt _ h1
  rw [Int.natCast_emod, Int.natCast_sub (Nat.le_of_lt hlt), Int.natCast_emod]
 have HE : Hid (((gapN n al : Nat) : Int) = ((al : Int) - (n : Int) % al) % al) := e1
 clear e1
 go_enter Tryz.func147, Tryz.ntmps147
 go_wp2
 go_ret
 exact ⟨by rw [HE.out]; rfl, rfl⟩
set_option maxHeartbeats 400000 in
theorem isAlign_yes (al : Int) (w : World) (h1 : 1 ≤ al) (h2 : al ≤ 4096) :
  Calls Tryz.prog 146 #[.int .i64 al] w fun e w' => e = .returned (.bool true) ∧ w' = w := by
 have := h1; have := h2
 go_enter Tryz.func146, Tryz.ntmps146
 go_wp2
 go_ret
 exact ⟨rfl, rfl⟩
/-- a call of a Go function that leaves the world alone, as one step of a region that draws -/
theorem step_call {P : Program} {ops : Array Oper} {o : Oper} {a : Act} {w : World} {K : Act → World → Prop} {Q : Exit → Act → World → Prop} {E : Prop} (hw : Region.wanted o (yielded ops a.tmps) = true)
  (f : FuncId) (xs : Array Operand) (ats : Array TypeId) (ho : o.op = .call { callee := .value (.func f), args := xs, argTypes := ats }) (he : Enters P f) (args : Array Value) (hargs : #[] ++ xs.map a.eval ++ #[] = args) (v : Value)
  (hc : Calls P f args w fun e w' => e = .returned v ∧ w' = w) (hK : K (a.put o.dst v) w) :
  if Region.wanted o (yielded ops a.tmps) = true then Oper.wp P o a w K Q else E := by
 rw [if_pos hw]
 have e1 : execOp a.eval o = callFunc f args := by
  cases o
  simp only at ho
  subst ho
  rw [← hargs]
  rfl
 unfold Oper.wp
 rw [e1, he args w]
 rw [Oper.upon_enter]
 refine hc.mono ?_
 rintro e w' ⟨rfl, rfl⟩
 exact hK
theorem Wr.after {w w1 : World} {p : Nat} {v : Value} {zs : List Nat} {why : Int} {base : Nat} (h : Wr w p v zs why base) (hg : w.grownBy w1 v.ownBlock) : w1.heap[p]? = some (.cells #[v, .int .i64 why] 92 (0, 0)) :=
 (hg.block p h.lt (fun e => h.2.2.1 e.symm)).trans h.1
theorem cell0_of {w : World} {p : Nat} {v : Value} {why : Int} (h : w.heap[p]? = some (.cells #[v, .int .i64 why] 92 (0, 0))) : w.cell? ⟨p, 0, none⟩ = some v := by rw [cell_of_row w p 0 _ _ _ h]; rfl
theorem thawed_of {w : World} {p : Nat} {v : Value} {why : Int} (h : w.heap[p]? = some (.cells #[v, .int .i64 why] 92 (0, 0))) : w.frozen? ⟨p, 0, none⟩ = false := by simp [World.frozen?, h]
theorem small_append {xs ys : List Nat} (hx : ∀ z ∈ xs, z < 256) (hy : ∀ z ∈ ys, z < 256) : ∀ z ∈ xs ++ ys, z < 256 := fun z hz => (List.mem_append.1 hz).elim (hx z) (hy z)
/-- the row's new value is stored in the Writer: what the call leaves -/
theorem Wr.stored {w w0 w1 : World} {p : Nat} {v v' : Value} {zs ys : List Nat} {base : Nat} (h : Wr w p v zs 0 base) (hw : Keeps (Foot p v) w w0) (hs : w.heap.size ≤ w0.heap.size) (hp : w1.heap[p]? = some (.cells #[v, .int .i64 0] 92 (0, 0))) (ho : Own w1 base v' (zs ++ ys)) (hg : w0.grownBy w1 v.ownBlock) (hat : v'.ownBlock = v.ownBlock ∨ v'.ownBlock = some w0.heap.size) (hy : ∀ z ∈ ys, z < 256) :
  ∃ v'', Wr (w1.setCell ⟨p, 0, none⟩ v') p v'' (zs ++ ys) 0 base ∧ Keeps (Foot p v) w (w1.setCell ⟨p, 0, none⟩ v') ∧ At w v v'' := by
 have hA : At w v v' := (At.refl w v).step hs hat
 refine ⟨v', Wr.store hp ho (fun e => h.2.2.1 (hA.foot p h.lt e)) (small_append h.2.2.2 hy), (hw.trans (Keeps.of_grown hg) (fun i _ e => Or.inr e)).trans (Keeps.setCell w1 p 0 _) (fun i _ e => .inl e), hA⟩
end Go.Proofs.YtnifefmfhjfbnaaGreatDoor
