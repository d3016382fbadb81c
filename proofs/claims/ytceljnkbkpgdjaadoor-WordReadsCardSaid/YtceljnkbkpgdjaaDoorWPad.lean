/- Writer.Pad: a region that draws its order. -/
import Derived.Test.YtceljnkbkpgdjaaDoorZeros
import Derived.Deep.RegionLaw
import Derived.Shelf.Abstract
namespace Go.Proofs.YtceljnkbkpgdjaaDoor
open Go.RowKit
def gapN (n al : Nat) : Nat := (al - n % al) % al
set_option maxHeartbeats 400000 in
theorem gap_any (n al : Nat) (w : World) (h1 : 1 ≤ al) (h2 : al ≤ 4096) (hn : n ≤ 4611686018427387904) :
    Calls Tryd.prog 66 #[.int .i64 n, .int .i64 al] w fun e w' => e = .returned (.int .i64 (gapN n al : Nat)) ∧ w' = w := by
  have := hn
  have m0 : 0 ≤ (n : Int) % al := Int.emod_nonneg _ (by omega)
  have m1 : (n : Int) % al < al := Int.emod_lt_of_pos _ (by omega)
  have e1 : ((gapN n al : Nat) : Int) = ((al : Int) - (n : Int) % al) % al := by
    unfold gapN
    have hlt : n % al < al := Nat.mod_lt _ h1
    rw [Int.natCast_emod, Int.natCast_sub (Nat.le_of_lt hlt), Int.natCast_emod]
  have HE : Hid (((gapN n al : Nat) : Int) = ((al : Int) - (n : Int) % al) % al) := e1
  clear e1
  go_enter Tryd.func66, Tryd.ntmps66
  go_wp2
  go_ret
  exact ⟨by rw [HE.out]; rfl, rfl⟩
set_option maxHeartbeats 400000 in
theorem isAlign_yes (al : Int) (w : World) (h1 : 1 ≤ al) (h2 : al ≤ 4096) :
    Calls Tryd.prog 65 #[.int .i64 al] w fun e w' => e = .returned (.bool true) ∧ w' = w := by
  have := h1; have := h2
  go_enter Tryd.func65, Tryd.ntmps65
  go_wp2
  go_ret
  exact ⟨rfl, rfl⟩
set_option maxHeartbeats 400000 in
theorem isAlign_no (al : Int) (w : World) (h : al < 1 ∨ 4096 < al) :
    Calls Tryd.prog 65 #[.int .i64 al] w fun e w' => e = .returned (.bool false) ∧ w' = w := by
  rcases h with h | h
  · have := h
    go_enter Tryd.func65, Tryd.ntmps65
    go_wp2
    go_ret
    exact ⟨rfl, rfl⟩
  · have hd : decide (al ≤ 4096) = false := by simpa using h
    go_enter Tryd.func65, Tryd.ntmps65
    go_wp2
    go_ret
    exact ⟨by rw [← hd]; rfl, rfl⟩
/-- a call of a Go function that leaves the world alone, as one step of a region that draws -/
theorem step_call {P : Program} {ops : Array Oper} {o : Oper} {a : Act} {w : World} {K : Act → World → Prop} {Q : Exit → Act → World → Prop} {E : Prop} (hw : Region.wanted o (yielded ops a.tmps) = true)
    (f : FuncId) (xs : Array Operand) (ats : Array TypeId) (ho : o.op = .call { callee := .value (.func f), args := xs, argTypes := ats }) (he : Enters P f) (args : Array Value) (hargs : #[] ++ xs.map a.eval ++ #[] = args) (v : Value)
    (hc : Calls P f args w fun e w' => e = .returned v ∧ w' = w) (hK : K (a.put o.dst v) w) :
    if Region.wanted o (yielded ops a.tmps) = true then Oper.wp P o a w K Q else E := by
  rw [if_pos hw]
  have e1 : execOp a.eval o = callFunc f args := by
    cases o
    simp only at ho
    subst ho
    rw [← hargs]
    rfl
  unfold Oper.wp
  rw [e1, he args w]
  rw [Oper.upon_enter]
  refine hc.mono ?_
  rintro e w' ⟨rfl, rfl⟩
  exact hK
/-- append of zeros, as one step of a region that draws -/
theorem step_zeros {w : World} {ops : Array Oper} {o : Oper} {a : Act} {K : Act → World → Prop} {Q : Exit → Act → World → Prop} {E : Prop} (hw : Region.wanted o (yielded ops a.tmps) = true) (s x : Operand)
    (ho : o.op = .call { callee := .builtin .append, args := #[s, x], argTypes := #[34, 3] })
    {base n : Nat} {v : Value} {xs : List Nat} (hs : a.eval s = v) (hown : Own w base v xs) (hx : a.eval x = .int .i64 (n : Int)) (hb : xs.length + n ≤ 1099511627776) (hbase : base ≤ w.heap.size)
    (h : ∀ ao m c w', Own w' base (.slice ao m c) (xs ++ List.replicate n 0) → w.grownBy w' v.ownBlock → ((Value.slice ao m c).ownBlock = v.ownBlock ∨ (Value.slice ao m c).ownBlock = some w.heap.size) → K (a.put o.dst (.slice ao m c)) w') :
    if Region.wanted o (yielded ops a.tmps) = true then Oper.wp Tryd.prog o a w K Q else E := by
  rw [if_pos hw]
  obtain ⟨v', w', hr, h2, h3, h4⟩ := run_append_zeros o.type hown hb hbase
  obtain ⟨ao, m, c, rfl⟩ : ∃ ao m c, v' = .slice ao m c := by
    rcases h2.2 with ⟨e, h0⟩ | ⟨g, c, _, e, _⟩
    · exact ⟨_, _, _, e⟩
    · exact ⟨_, _, _, e⟩
  unfold Oper.wp execOp
  simp only [ho, resolve, invoke, builtin, Sem.run_bind, Sem.run_pure, Result.andThen_ok, List.map_toArray, List.map_cons, List.map_nil, hs, hx, hr]
  exact h ao m c w' h2 h3 h4
theorem Wr.after {w w1 : World} {p : Nat} {v : Value} {zs : List Nat} {why : Int} {base : Nat} (h : Wr w p v zs why base) (hg : w.grownBy w1 v.ownBlock) : w1.heap[p]? = some (.cells #[v, .int .i64 why] 73 (0, 0)) :=
  (hg.block p h.lt (fun e => h.2.2.1 e.symm)).trans h.1
theorem cell0_of {w : World} {p : Nat} {v : Value} {why : Int} (h : w.heap[p]? = some (.cells #[v, .int .i64 why] 73 (0, 0))) : w.cell? ⟨p, 0, none⟩ = some v := by rw [cell_of_row w p 0 _ _ _ h]; rfl
theorem thawed_of {w : World} {p : Nat} {v : Value} {why : Int} (h : w.heap[p]? = some (.cells #[v, .int .i64 why] 73 (0, 0))) : w.frozen? ⟨p, 0, none⟩ = false := by simp [World.frozen?, h]
theorem small_append {xs ys : List Nat} (hx : ∀ z ∈ xs, z < 256) (hy : ∀ z ∈ ys, z < 256) : ∀ z ∈ xs ++ ys, z < 256 := fun z hz => (List.mem_append.1 hz).elim (hx z) (hy z)
theorem small_zeros (n : Nat) : ∀ z ∈ List.replicate n 0, z < 256 := fun z hz => by rw [List.eq_of_mem_replicate hz]; decide
/-- the row's new value is stored in the Writer: what the call leaves -/
theorem Wr.stored {w w0 w1 : World} {p : Nat} {v v' : Value} {zs ys : List Nat} {base : Nat} (h : Wr w p v zs 0 base) (hw : Keeps (Foot p v) w w0) (hs : w.heap.size ≤ w0.heap.size) (hp : w1.heap[p]? = some (.cells #[v, .int .i64 0] 73 (0, 0))) (ho : Own w1 base v' (zs ++ ys)) (hg : w0.grownBy w1 v.ownBlock) (hat : v'.ownBlock = v.ownBlock ∨ v'.ownBlock = some w0.heap.size) (hy : ∀ z ∈ ys, z < 256) :
    ∃ v'', Wr (w1.setCell ⟨p, 0, none⟩ v') p v'' (zs ++ ys) 0 base ∧ Keeps (Foot p v) w (w1.setCell ⟨p, 0, none⟩ v') ∧ At w v v'' := by
  have hA : At w v v' := (At.refl w v).step hs hat
  refine ⟨v', Wr.store hp ho (fun e => h.2.2.1 (hA.foot p h.lt e)) (small_append h.2.2.2 hy), (hw.trans (Keeps.of_grown hg) (fun i _ e => Or.inr e)).trans (Keeps.setCell w1 p 0 _) (fun i _ e => .inl e), hA⟩
set_option maxRecDepth 100000 in
set_option maxHeartbeats 2000000 in
theorem wpad_any {w : World} {p base al : Nat} {v : Value} {zs : List Nat} (h : Wr w p v zs 0 base) (h1 : 1 ≤ al) (h2 : al ≤ 4096) (hl : zs.length ≤ 549755813888) (hb : base ≤ w.heap.size) :
    Calls Tryd.prog 40 #[.pointer (some ⟨p, 0, none⟩), .int .i64 (al : Int)] w fun e w' => e = .returned (.tuple #[]) ∧ ∃ v', Wr w' p v' (zs ++ List.replicate (gapN zs.length al) 0) 0 base ∧ Keeps (Foot p v) w w' ∧ At w v v' := by
  have c0 := h.cell0
  have c1 := h.cell1
  have HW : Hid (Wr w p v zs 0 base) := h
  have HWd : Hid (Wr w.drew p v zs 0 base) := HW.out
  have HE12 : Hid (Enters Tryd.prog 17) := enters_of Tryd.func17 (by kernel_rfl) rfl
  have HE48 : Hid (Enters Tryd.prog 66) := enters_of Tryd.func66 (by kernel_rfl) rfl
  have hgl : gapN zs.length al ≤ 4096 := Nat.le_trans (Nat.le_of_lt (Nat.mod_lt _ h1)) h2
  clear h
  go_enter Tryd.func40, Tryd.ntmps40
  go_wp2_with (go_at_call 65; refine (isAlign_yes (al : Int) _ (by omega) (by omega)).mono ?_; rintro e w' ⟨rfl, hw⟩; have hw := hw.symm; subst hw)
  go_region_law (first
    | (refine step_call rfl 17 #[.tmp 9] #[51] rfl HE12.out #[.pointer (some ⟨p, 0, none⟩)] (by first | (simp [Act.eval]; done) | simp [Act.eval, Act.put]) (.int .i64 zs.length) (len_any (show Wr w.drew p v zs 0 base from HW.out)) ?_)
    | (refine step_call rfl 66 #[.tmp 10, .tmp 11] #[3, 3] rfl HE48.out #[.int .i64 zs.length, .int .i64 al] (by first | (simp [Act.eval]; done) | simp [Act.eval, Act.put]) (.int .i64 (gapN zs.length al : Nat)) (gap_any zs.length al _ h1 h2 (by omega)) ?_)
    | (refine step_zeros rfl (.tmp 8) (.tmp 12) rfl (v := v) rfl (show Own w.drew base v zs from HW.out.2.1) rfl (by omega) hb ?_; intro ao m c w1 ho hg hat; have hc1 := cell0_of (HWd.out.after hg); have ht1 := thawed_of (HWd.out.after hg); have HP : Hid (w1.heap[p]? = some (.cells #[v, .int .i64 0] 73 (0, 0))) := HWd.out.after hg; have HO : Hid (Own w1 base (.slice ao m c) (zs ++ List.replicate (gapN zs.length al) 0)) := ho; have HG : Hid (w.drew.grownBy w1 v.ownBlock) := hg; have HA : Hid ((Value.slice ao m c).ownBlock = v.ownBlock ∨ (Value.slice ao m c).ownBlock = some w.drew.heap.size) := hat; clear ho hg hat))
  all_goals
    go_wp2
    go_end0
    exact ⟨rfl, HW.out.stored (w0 := w.drew) (Keeps.of_below ((Below.refl _ _).drew)) (Nat.le_refl _) HP.out HO.out HG.out HA.out (small_zeros _)⟩
set_option maxHeartbeats 400000 in
theorem wpad_bad {w : World} {p base : Nat} {al : Int} {v : Value} {zs : List Nat} (h : Wr w p v zs 0 base) (ha : al < 1 ∨ 4096 < al) :
    Calls Tryd.prog 40 #[.pointer (some ⟨p, 0, none⟩), .int .i64 al] w fun e w' => e = .returned (.tuple #[]) ∧ Wr w' p v zs 1 base ∧ Keeps (fun k => k = p) w w' := by
  have c1 := h.cell1
  have t1 := h.thawed 1
  have HW : Hid (Wr w p v zs 0 base) := h
  have HA : Hid (al < 1 ∨ 4096 < al) := ha
  clear h ha
  go_enter Tryd.func40, Tryd.ntmps40
  go_wp2_with (go_at_call 65; refine (isAlign_no al _ HA.out).mono ?_; rintro e w' ⟨rfl, hw⟩; have hw := hw.symm; subst hw)
  go_end0
  exact ⟨rfl, HW.out.refuse 1, Keeps.setCell w p 1 _⟩
set_option maxHeartbeats 400000 in
theorem wpad_not {w : World} {p base : Nat} {al why : Int} {v : Value} {zs : List Nat} (h : Wr w p v zs why base) (hw : why ≠ 0) :
    Calls Tryd.prog 40 #[.pointer (some ⟨p, 0, none⟩), .int .i64 al] w fun e w' => e = .returned (.tuple #[]) ∧ w' = w := by
  have c1 := h.cell1
  have hb : (why != 0) = true := by simpa using hw
  clear h
  go_enter Tryd.func40, Tryd.ntmps40
  go_wp2
  go_end0
  exact ⟨rfl, rfl⟩
end Go.Proofs.YtceljnkbkpgdjaaDoor
