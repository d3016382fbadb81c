/- The document's own Writer in memory (bulkheadref1.Writer). Own work. -/
import Derived.Test.YtceljnkbkpgdjaaDoorWnFl
import Derived.Test.YtceljnkbkpgdjaaDoorRefCrc
namespace Go.Proofs.YtceljnkbkpgdjaaDoor
open Go.RowKit
/-- the document's own Writer in block p -/
def Rw (w : World) (p : Nat) (v : Value) (zs : List Nat) (why : Int) (base : Nat) : Prop :=
  w.heap[p]? = some (.cells #[v, .int .i64 why] 55 (0, 0)) ∧ Own w base v zs ∧ v.ownBlock ≠ some p ∧ ∀ z ∈ zs, z < 256
theorem Rw.lt {w : World} {p : Nat} {v : Value} {zs : List Nat} {why : Int} {base : Nat} (h : Rw w p v zs why base) : p < w.heap.size := (Array.getElem?_eq_some_iff.1 h.1).1
theorem Rw.cell0 {w : World} {p : Nat} {v : Value} {zs : List Nat} {why : Int} {base : Nat} (h : Rw w p v zs why base) : w.cell? ⟨p, 0, none⟩ = some v := by
  rw [cell_of_row w p 0 _ _ _ h.1]; rfl
theorem Rw.cell1 {w : World} {p : Nat} {v : Value} {zs : List Nat} {why : Int} {base : Nat} (h : Rw w p v zs why base) : w.cell? ⟨p, 1, none⟩ = some (.int .i64 why) := by
  rw [cell_of_row w p 1 _ _ _ h.1]; rfl
theorem Rw.thawed {w : World} {p : Nat} {v : Value} {zs : List Nat} {why : Int} {base : Nat} (h : Rw w p v zs why base) (i : Nat) : w.frozen? ⟨p, i, none⟩ = false := by
  simp [World.frozen?, h.1]
theorem Rw.keeps {S : Nat → Prop} {w w' : World} {p : Nat} {v : Value} {zs : List Nat} {why : Int} {base : Nat} (h : Rw w p v zs why base) (hk : Keeps S w w') (hp : ¬ S p) (hn : ∀ k, v.ownBlock = some k → ¬ S k) : Rw w' p v zs why base :=
  ⟨(hk.block p h.lt hp).trans h.1, h.2.1.keeps hk hn, h.2.2⟩
theorem Rw.refuse {w : World} {p : Nat} {v : Value} {zs : List Nat} {why : Int} {base : Nat} (h : Rw w p v zs why base) (e : Int) : Rw (w.setCell ⟨p, 1, none⟩ (.int .i64 e)) p v zs e base := by
  refine ⟨?_, h.2.1.keeps (Keeps.setCell w p 1 _) (fun k hk e => h.2.2.1 (by rw [hk, e])), h.2.2⟩
  simp only [World.setCell, Array.getElem?_modify]
  rw [if_pos trivial, h.1]
  simp
theorem Rw.store {w : World} {p : Nat} {v v' : Value} {zs' : List Nat} {why : Int} {base : Nat} (hh : w.heap[p]? = some (.cells #[v, .int .i64 why] 55 (0, 0))) (ho : Own w base v' zs') (hp : v'.ownBlock ≠ some p) (hz : ∀ z ∈ zs', z < 256) : Rw (w.setCell ⟨p, 0, none⟩ v') p v' zs' why base := by
  refine ⟨?_, ho.keeps (Keeps.setCell w p 0 _) (fun k hk e => hp (by rw [hk, e])), hp, hz⟩
  simp only [World.setCell, Array.getElem?_modify]
  rw [if_pos trivial, hh]
  simp
theorem Rw.after {w w1 : World} {p : Nat} {v : Value} {zs : List Nat} {why : Int} {base : Nat} (h : Rw w p v zs why base) (hg : w.grownBy w1 v.ownBlock) : w1.heap[p]? = some (.cells #[v, .int .i64 why] 55 (0, 0)) :=
  (hg.block p h.lt (fun e => h.2.2.1 e.symm)).trans h.1
theorem rw_cell0_of {w : World} {p : Nat} {v : Value} {why : Int} (h : w.heap[p]? = some (.cells #[v, .int .i64 why] 55 (0, 0))) : w.cell? ⟨p, 0, none⟩ = some v := by rw [cell_of_row w p 0 _ _ _ h]; rfl
theorem rw_thawed_of {w : World} {p : Nat} {v : Value} {why : Int} (h : w.heap[p]? = some (.cells #[v, .int .i64 why] 55 (0, 0))) : w.frozen? ⟨p, 0, none⟩ = false := by simp [World.frozen?, h]
theorem Rw.stored {w w0 w1 : World} {p : Nat} {v v' : Value} {zs ys : List Nat} {base : Nat} (h : Rw w p v zs 0 base) (hw : Keeps (Foot p v) w w0) (hs : w.heap.size ≤ w0.heap.size) (hp : w1.heap[p]? = some (.cells #[v, .int .i64 0] 55 (0, 0))) (ho : Own w1 base v' (zs ++ ys)) (hg : w0.grownBy w1 v.ownBlock) (ha : v'.ownBlock = v.ownBlock ∨ v'.ownBlock = some w0.heap.size) (hy : ∀ z ∈ ys, z < 256) :
    ∃ v'', Rw (w1.setCell ⟨p, 0, none⟩ v') p v'' (zs ++ ys) 0 base ∧ Keeps (Foot p v) w (w1.setCell ⟨p, 0, none⟩ v') ∧ At w v v'' := by
  have hA : At w v v' := (At.refl w v).step hs ha
  refine ⟨v', Rw.store hp ho (fun e => h.2.2.1 (hA.foot p h.lt e)) (small_append h.2.2.2 hy), (hw.trans (Keeps.of_grown hg) (fun i _ e => Or.inr e)).trans (Keeps.setCell w1 p 0 _) (fun i _ e => .inl e), hA⟩
theorem step_append_sl {w : World} {ops : Array Oper} {o : Oper} {a : Act} {K : Act → World → Prop} {Q : Exit → Act → World → Prop} {E : Prop} (hw : Region.wanted o (yielded ops a.tmps) = true) (s x : Operand)
    (ho : o.op = .call { callee := .builtin .append, args := #[s, x], argTypes := #[34, 34] })
    {base : Nat} {v u : Value} {xs ys : List Nat} (hs : a.eval s = v) (hown : Own w base v xs) (hx : a.eval x = u) (hsl : Sl w u ys) (hb : xs.length + ys.length ≤ 1099511627776) (hbase : base ≤ w.heap.size)
    (h : ∀ v' w', Own w' base v' (xs ++ ys) → w.grownBy w' v.ownBlock → (v'.ownBlock = v.ownBlock ∨ v'.ownBlock = some w.heap.size) → K (a.put o.dst v') w') : if Region.wanted o (yielded ops a.tmps) = true then Oper.wp Tryd.prog o a w K Q else E := by
  rw [if_pos hw]
  obtain ⟨v', w', hr, h2, h3, h4⟩ := run_append_sl o.type hown hsl hb hbase
  unfold Oper.wp execOp
  simp only [ho, resolve, invoke, builtin, Sem.run_bind, Sem.run_pure, Result.andThen_ok, List.map_toArray, List.map_cons, List.map_nil, hs, hx, hr]
  exact h v' w' h2 h3 h4
/-- a call of a Go function that answers one value, as one step of a region that draws -/
theorem step_callP {P : Program} {ops : Array Oper} {o : Oper} {a : Act} {w : World} {K : Act → World → Prop} {Q : Exit → Act → World → Prop} {E : Prop} (hw : Region.wanted o (yielded ops a.tmps) = true)
    (f : FuncId) (xs : Array Operand) (ats : Array TypeId) (ho : o.op = .call { callee := .value (.func f), args := xs, argTypes := ats }) (he : Enters P f) (args : Array Value) (hargs : #[] ++ xs.map a.eval ++ #[] = args) {R : Value → World → Prop}
    (hc : Calls P f args w fun e w' => ∃ v, e = .returned v ∧ R v w') (hK : ∀ v w', R v w' → K (a.put o.dst v) w') :
    if Region.wanted o (yielded ops a.tmps) = true then Oper.wp P o a w K Q else E := by
  rw [if_pos hw]
  have e1 : execOp a.eval o = callFunc f args := by
    cases o
    simp only at ho
    subst ho
    rw [← hargs]
    rfl
  unfold Oper.wp
  rw [e1, he args w]
  rw [Oper.upon_enter]
  refine hc.mono ?_
  rintro e w' ⟨v, rfl, hr⟩
  exact hK v w' hr
set_option maxRecDepth 100000 in
set_option maxHeartbeats 1000000 in
theorem rwBytes_any {w : World} {p base : Nat} {v u : Value} {zs ys : List Nat} (h : Rw w p v zs 0 base) (hs : Sl w u ys) (hl : zs.length ≤ 549755813888) (hy : ys.length ≤ 549755813888) (hb : base ≤ w.heap.size) :
    Calls Tryd.prog 37 #[.pointer (some ⟨p, 0, none⟩), u] w fun e w' => e = .returned (.tuple #[]) ∧ ∃ v', Rw w' p v' (zs ++ ys) 0 base ∧ Keeps (Foot p v) w w' ∧ At w v v' := by
  have c0 := h.cell0
  have c1 := h.cell1
  have HW : Hid (Rw w p v zs 0 base) := h
  have HS : Hid (Sl w u ys) := hs
  clear h hs
  go_enter Tryd.func37, Tryd.ntmps37
  go_wp2_with (at_builtin; refine wpList_append_sl (v := v) (.tmp 13) (.tmp 14) (by rfl) rfl rfl HW.out.2.1 rfl HS.out (by omega) hb ?_; intro v1 w1 ho hg hat; have hc1 := rw_cell0_of (HW.out.after hg); have ht1 := rw_thawed_of (HW.out.after hg); obtain ⟨ao, m, c, hv1⟩ : ∃ a m c, v1 = .slice a m c := (by rcases ho.2 with ⟨e, h0⟩ | ⟨g, c, _, e, _⟩ <;> exact ⟨_, _, _, e⟩); subst hv1; have HP : Hid (w1.heap[p]? = some (.cells #[v, .int .i64 0] 55 (0, 0))) := HW.out.after hg; have HO : Hid (Own w1 base (.slice ao m c) (zs ++ ys)) := ho; have HG : Hid (w.grownBy w1 v.ownBlock) := hg; have HA : Hid ((Value.slice ao m c).ownBlock = v.ownBlock ∨ (Value.slice ao m c).ownBlock = some w.heap.size) := hat; clear ho hg hat)
  go_end0
  exact ⟨rfl, HW.out.stored (w0 := w) (Keeps.refl _ _) (Nat.le_refl _) HP.out HO.out HG.out HA.out HS.out.small⟩
set_option maxHeartbeats 400000 in
theorem rwBytes_not {w : World} {p base : Nat} {why : Int} {v u : Value} {zs : List Nat} (h : Rw w p v zs why base) (hw : why ≠ 0) :
    Calls Tryd.prog 37 #[.pointer (some ⟨p, 0, none⟩), u] w fun e w' => e = .returned (.tuple #[]) ∧ w' = w := by
  have c1 := h.cell1
  have hb : (why == 0) = false := by simpa using hw
  clear h
  go_enter Tryd.func37, Tryd.ntmps37
  go_wp2
  go_end0
  exact ⟨rfl, rfl⟩
set_option maxHeartbeats 400000 in
theorem rwNumber_not {w : World} {p base : Nat} {n s why : Int} {v : Value} {zs : List Nat} (h : Rw w p v zs why base) (hw : why ≠ 0) :
    Calls Tryd.prog 32 #[.pointer (some ⟨p, 0, none⟩), .int .u64 n, .int .i64 s] w fun e w' => e = .returned (.tuple #[]) ∧ w' = w := by
  have c1 := h.cell1
  have hb : (why == 0) = false := by simpa using hw
  clear h
  go_enter Tryd.func32, Tryd.ntmps32
  go_wp2
  go_end0
  exact ⟨rfl, rfl⟩
set_option maxRecDepth 100000 in
set_option maxHeartbeats 2000000 in
theorem rwNumber_any {w : World} {p base n s : Nat} {v : Value} {zs : List Nat} (h : Rw w p v zs 0 base) (hs : s ≤ 8) (hn : n ≤ 18446744073709551615) (hl : zs.length ≤ 549755813888) (hb : base ≤ w.heap.size) :
    Calls Tryd.prog 32 #[.pointer (some ⟨p, 0, none⟩), .int .u64 (n : Int), .int .i64 (s : Int)] w fun e w' => e = .returned (.tuple #[]) ∧ ∃ v', Rw w' p v' (zs ++ Pl.le s n) 0 base ∧ Keeps (Foot p v) w w' ∧ At w v v' := by
  have c0 := h.cell0
  have c1 := h.cell1
  have HW : Hid (Rw w p v zs 0 base) := h
  have HWd : Hid (Rw w.drew p v zs 0 base) := HW.out
  have HC : Hid (∀ W, Calls Tryd.prog 60 #[.int .u64 (n : Int), .int .i64 (s : Int)] W fun e w' => ∃ v, e = .returned v ∧ (Own w' W.heap.size v (Pl.le s n) ∧ Below W.heap.size W w')) := fun W => rBytes_any hs hn W
  have HE : Hid (Enters Tryd.prog 60) := enters_of Tryd.func60 (by kernel_rfl) rfl
  have HLe : Hid ((Pl.le s n).length = s) := Pl.le_length s n
  clear h hn
  go_enter Tryd.func32, Tryd.ntmps32
  go_wp2_with fail
  go_region_law (first
    | (refine step_callP rfl 60 #[.tmp 16, .tmp 17] #[33, 3] rfl HE.out #[.int .u64 (n : Int), .int .i64 (s : Int)] (by first | (simp [Act.eval]; done) | simp [Act.eval, Act.put]) (HC.out _) ?_; intro u w1 hR; have HW1 : Hid (Rw w1 p v zs 0 base) := HWd.out.keeps (S := fun _ => False) (Keeps.of_below hR.2) id (fun _ _ => id); have c01 := HW1.out.cell0; have HSl : Hid (Sl w1 u (Pl.le s n)) := hR.1.sl (Pl.le_small _ _); have HB1 : Hid (Below w.heap.size w w1) := (Below.refl _ _).drew.trans hR.2; clear hR)
    | (refine step_append_sl (v := v) rfl (.tmp 15) (.tmp 18) rfl rfl HW1.out.2.1 rfl HSl.out (by rw [HLe.out]; omega) (Nat.le_trans hb HB1.out.size) ?_; intro v2 w2 h2 g2 l2; have hc2 := rw_cell0_of (HW1.out.after g2); have ht2 := rw_thawed_of (HW1.out.after g2); obtain ⟨ao, m, c, hv2⟩ : ∃ a m c, v2 = .slice a m c := (by rcases h2.2 with ⟨e, h0⟩ | ⟨g, c, _, e, _⟩ <;> exact ⟨_, _, _, e⟩); subst hv2; have HP : Hid (w2.heap[p]? = some (.cells #[v, .int .i64 0] 55 (0, 0))) := HW1.out.after g2; have HO : Hid (Own w2 base (.slice ao m c) (zs ++ Pl.le s n)) := h2; have HG : Hid (w1.grownBy w2 v.ownBlock) := g2; have HA : Hid ((Value.slice ao m c).ownBlock = v.ownBlock ∨ (Value.slice ao m c).ownBlock = some w1.heap.size) := l2; clear h2 g2 l2))
  all_goals
    go_wp2
    go_end0
    exact ⟨rfl, HW.out.stored (w0 := w1) (Keeps.of_below HB1.out) HB1.out.size HP.out HO.out HG.out HA.out (Pl.le_small _ _)⟩
set_option maxHeartbeats 400000 in
theorem rgap_any (n al : Nat) (w : World) (h1 : 1 ≤ al) (h2 : al ≤ 4096) :
    Calls Tryd.prog 67 #[.int .i64 (n : Int), .int .i64 (al : Int)] w fun e w' => e = .returned (.int .i64 (gapN n al : Nat)) ∧ w' = w := by
  obtain ⟨r, hr⟩ : ∃ r, n % al = r := ⟨_, rfl⟩
  have hra : r < al := by rw [← hr]; exact Nat.mod_lt _ h1
  have jr : (n : Int).tmod (al : Int) = (r : Int) := by rw [← hr]; rfl
  have ja : (al : Int) ≠ 0 := by omega
  by_cases h0 : r = 0
  · subst h0
    have e : gapN n al = 0 := by unfold gapN; rw [hr]; simp
    rw [e]
    clear hr e
    go_enter Tryd.func67, Tryd.ntmps67
    go_wp2
    go_ret
    exact ⟨rfl, rfl⟩
  · have e : gapN n al = al - r := by unfold gapN; rw [hr]; exact Nat.mod_eq_of_lt (by omega)
    rw [e]
    have j0 : (0 : Int) < (r : Int) := by omega
    have js : (al : Int) - (r : Int) = ((al - r : Nat) : Int) := by omega
    have jw : IntKind.i64.wrap ((al : Int) - (r : Int)) = ((al - r : Nat) : Int) := by rw [IntKind.wrap_i64]; omega
    clear hr e
    go_enter Tryd.func67, Tryd.ntmps67
    go_wp2
    go_ret
    exact ⟨rfl, rfl⟩
end Go.Proofs.YtceljnkbkpgdjaaDoor
