import Derived.Test.YtgjamnhepbblhaaProg
import Derived.WalkKit
import Derived.WalkSpells
import Derived.Deep.RegionHeld3
import Derived.Test.YtgjamnhepbblhaaPk09
import Derived.Test.YtgjamnhepbblhaaPk05
import Derived.Test.YtgjamnhepbblhaaPk10
import Derived.BigQuiet
/- Operations of a region that draws, taken by hand. Own work. -/
namespace Go.Proofs.Ytgjamnhepbblhaa
open Go.RowKit
theorem takeH {P : Program} {md : Region.Mode} {ops : Array Oper} {Q : Exit → Act → World → Prop} {S : World → Prop} {i d : Nat} {oi : Oper} {v : Value} {fuel : Nat} {listed : Array Bool} {a : Act} {w : World} (hi : ops[i]? = some oi) (hd : oi.dst = some d)
    (hs : Region.noSelect ops = true) (hf : Region.free md ops listed i = true) (hr : (Region.ready md ops listed).contains i = true)
    (hQ : ∀ c a w, Q (.panic c) (a.put (some d) v) w → Q (.panic c) a w) (hy : YieldsIf P ops S oi v a) (hS : S w)
    (h : wpAnyH P md ops Q S fuel (listed.setIfInBounds i true) (a.put (some d) v) w) : wpAnyH P md ops Q S (fuel + 1) listed a w := by
  rw [← hd] at h hQ
  exact wpAnyH_take hi hs hf hr hQ hy hS h
/-- a call of a Go function, whatever it answers -/
theorem step_call3 {P : Program} {ops : Array Oper} {o : Oper} {a : Act} {w : World} {K : Act → World → Prop} {Q : Exit → Act → World → Prop} {E : Prop} (hw : Region.wanted o (yielded ops a.tmps) = true)
    (f : FuncId) (xs : Array Operand) (ats : Array TypeId) (ho : o.op = .call { callee := .value (.func f), args := xs, argTypes := ats }) (he : ∀ args w, (callFunc f args).run P w = .ok (.enter f args) w) (args : Array Value) (hargs : #[] ++ xs.map a.eval ++ #[] = args) {R : Value → World → Prop}
    (hc : Calls P f args w fun e w' => ∃ v, e = .returned v ∧ R v w') (hK : ∀ v w', R v w' → K (a.put o.dst v) w') :
    if Region.wanted o (yielded ops a.tmps) = true then Oper.wp P o a w K Q else E := by
  rw [if_pos hw]
  have e1 : execOp a.eval o = callFunc f args := by
    cases o
    simp only at ho
    subst ho
    rw [← hargs]
    rfl
  unfold Oper.wp
  rw [e1, he args w]
  rw [Oper.upon_enter]
  refine hc.mono ?_
  rintro e w' ⟨v, rfl, h⟩
  exact hK v w' h
/-- one of the operations that may come next: a call -/
theorem readyCall {P : Program} {md : Region.Mode} {ops : Array Oper} {Q : Exit → Act → World → Prop} {S : World → Prop} {i d : Nat} {o : Oper} {fuel : Nat} {listed : Array Bool} {a : Act} {w : World} {rs : List Nat} (hi : ops[i]? = some o) (hd : o.dst = some d) (hw : Region.wanted o (yielded ops a.tmps) = true)
    (f : FuncId) (xs : Array Operand) (ats : Array TypeId) (ho : o.op = .call { callee := .value (.func f), args := xs, argTypes := ats }) (he : ∀ args w, (callFunc f args).run P w = .ok (.enter f args) w) (args : Array Value) (hargs : #[] ++ xs.map a.eval ++ #[] = args) {R : Value → World → Prop}
    (hc : Calls P f args w fun e w' => ∃ v, e = .returned v ∧ R v w') (hS : ∀ v w', R v w' → S w') (hK : ∀ v w', R v w' → S w' → wpAnyH P md ops Q S fuel (listed.setIfInBounds i true) (a.put (some d) v) w') (hs : AllReadyH P md ops Q S fuel listed a w rs) : AllReadyH P md ops Q S fuel listed a w (i :: rs) := by
  rw [← hd] at hK
  exact AllReadyH.cons hi (fun K hK' => step_call3 hw f xs ats ho he args hargs hc (fun v w' hR => hK'.out _ _ (hS v w' hR) (hK v w' hR))) hs
/-- one of the operations that may come next: a value is read -/
theorem readyVal {P : Program} {md : Region.Mode} {ops : Array Oper} {Q : Exit → Act → World → Prop} {S : World → Prop} {i d : Nat} {o : Oper} {fuel : Nat} {listed : Array Bool} {a : Act} {w : World} {rs : List Nat} (hi : ops[i]? = some o) (hd : o.dst = some d) (hw : Region.wanted o (yielded ops a.tmps) = true) (v : Value) (hv : (execOp a.eval o).run P w = .ok (.value v) w) (hS : S w)
    (hK : wpAnyH P md ops Q S fuel (listed.setIfInBounds i true) (a.put (some d) v) w) (hs : AllReadyH P md ops Q S fuel listed a w rs) : AllReadyH P md ops Q S fuel listed a w (i :: rs) := by
  rw [← hd] at hK
  refine AllReadyH.cons hi (fun K hK' => ?_) hs
  rw [if_pos hw]
  unfold Oper.wp
  rw [hv, Oper.upon_value]
  exact hK'.out _ _ hS (fun _ => hK)
/-- one of the operations that may come next: a store -/
theorem readySkip {P : Program} {md : Region.Mode} {ops : Array Oper} {Q : Exit → Act → World → Prop} {S : World → Prop} {i : Nat} {o : Oper} {fuel : Nat} {listed : Array Bool} {a : Act} {w w' : World} {rs : List Nat} (hi : ops[i]? = some o) (hd : o.dst = none) (hw : Region.wanted o (yielded ops a.tmps) = true) (hv : (execOp a.eval o).run P w = .ok .skip w') (hS : S w')
    (hK : wpAnyH P md ops Q S fuel (listed.setIfInBounds i true) a w') (hs : AllReadyH P md ops Q S fuel listed a w rs) : AllReadyH P md ops Q S fuel listed a w (i :: rs) := by
  refine AllReadyH.cons hi (fun K hK' => ?_) hs
  rw [if_pos hw]
  unfold Oper.wp
  rw [hv, Oper.upon_skip, hd]
  exact hK'.out _ _ hS (fun _ => hK)
end Go.Proofs.Ytgjamnhepbblhaa
/- Pages: lists of tables that are the same; few. Own work. -/
namespace Go.Proofs.Ytgjamnhepbblhaa
open Go.RowKit Wk
set_option linter.unusedVariables false
/-- a table of a list, by value -/
theorem GAt.load {w : World} {G n : Nat} {M : Nat → Nat} (h : GAt w G n M) {k : Nat} (hk : k < n) : (Instr.loadAt 40 (.pointer (some ⟨G, k * 512, none⟩))).run Try.prog w = .ok (.agg (tabV fun i => M (k * 512 + i))) w := by
  have hu : Try.prog.underlying 40 = some (.array 512 23) := by kernel_rfl
  have := run_loadAt_mid (P := Try.prog) w G (k * 512) 40 (tabV fun i => M (k * 512 + i)).toList (.array 512 23) (fun j v hv => by
    have hj : j < 512 := by have := (List.getElem?_eq_some_iff.1 hv).1; rw [Array.length_toList, tabV_size] at this; exact this
    rw [h.cell (by omega)]
    rw [Array.getElem?_toList, tabV_get _ hj] at hv
    exact hv) hu rfl (by rw [Array.length_toList, tabV_size]; exact tab_zero.2)
  simpa using this
theorem quiet_load_tab {o : Oper} {a : Act} {C : World → Prop} {K : Act → Prop} (x : Operand) (ho : o.op = .load 40 x) {p V : Value} (hx : a.eval x = p) (hl : ∀ w, C w → (Instr.loadAt 40 p).run Try.prog w = .ok V w) (hk : ∀ a', a.put o.dst V = a' → K a') : o.quiet Try.prog a C K :=
  ⟨V, fun w hw => by
    unfold Oper.quietAt execOp
    simp only [ho, hx, Sem.run_bind, Sem.run_pure, Result.andThen_ok, hl w hw]
    exact ⟨rfl, rfl⟩, hk _ rfl⟩
theorem quiet_neq_tab {o : Oper} {a : Act} {C : World → Prop} {K : Act → Prop} (x y : Operand) {t' : TypeId} (ho : o.op = .binOp .neq 40 x y t') {V : Value} {f : Nat → Nat} (hV : V = .agg (tabV f)) (hx : a.eval x = V) (hy : a.eval y = V) (hk : ∀ a', a.put o.dst (.bool false) = a' → K a') : o.quiet Try.prog a C K :=
  ⟨_, fun w hw => by
    subst hV
    have hg : (eqGuard .neq 40 x y (.agg (tabV f)) (.agg (tabV f))).run Try.prog w = .ok () w := run_eqGuard_agg w _ _ _ _ _ _ tab_guard
    unfold Oper.quietAt execOp
    simp only [ho, hx, hy, Sem.run_bind, Sem.run_pure, Result.andThen_ok, hg, tab_neq]
    exact ⟨rfl, rfl⟩, hk _ rfl⟩
set_option maxRecDepth 100000 in
set_option maxHeartbeats 4000000 in
theorem sameT_yes {w : World} {G G' n : Nat} {M : Nat → Nat} (h : GAt w G n M) (h' : GAt w G' n M) (hn : n ≤ 1024) : Calls Try.prog 19 #[.slice (some ⟨G, 0, none⟩) n n, .slice (some ⟨G', 0, none⟩) n n] w fun e w' => e = .returned (.bool true) ∧ Below w.heap.size w w' := by
  have HG := Lib.hid h
  have HG' := Lib.hid h'
  clear h h'
  have HB0 : Hid (Below w.heap.size w w) := Below.refl _ _
  go_enter Try.func19, Try.ntmps19
  go_wp2_with fail
  go_loopw [5] (fun iv wr => ∃ i : Nat, i ≤ n ∧ iv = .int .i64 (i : Int) ∧ Hid (Below w.heap.size w wr)) (fun iv _ => n - (intOf iv).toNat)
  case atStart => exact ⟨0, by omega, rfl, HB0⟩
  case round =>
    clear HB0
    obtain ⟨i, hi, rfl, HB⟩ := hrel
    by_cases hin : i < n
    · have ji : (i : Int) < (n : Int) := by omega
      have hw1 : IntKind.i64.wrap ((i : Int) + 1) = ((i + 1 : Nat) : Int) := by rw [IntKind.wrap_i64]; omega
      obtain ⟨T, hT⟩ : ∃ T, Value.agg (tabV fun j => M (i * 512 + j)) = T := ⟨_, rfl⟩
      have l1 : ∀ k, (Instr.loadAt 40 (.pointer (some ⟨G, i * 512, none⟩))).run Try.prog (wr.drewN k) = .ok T (wr.drewN k) := fun k => by
        have h5 : GAt (wr.drewN k) G n M := HG.out.below (w' := wr) HB.out
        rw [h5.load hin, hT]
      have l2 : ∀ k, (Instr.loadAt 40 (.pointer (some ⟨G', i * 512, none⟩))).run Try.prog (wr.drewN k) = .ok T (wr.drewN k) := fun k => by
        have h5 : GAt (wr.drewN k) G' n M := HG'.out.below (w' := wr) HB.out
        rw [h5.load hin, hT]
      have HT := Lib.hid hT.symm
      clear hT
      go_upto_region 6 with fail
      refine wp_region_quiet_lit (by kernel_rfl) (by kernel_rfl) ?_
      go_big_quiet_step (fail)
      go_big_quiet_step (fail)
      go_big_quiet_step (fail)
      go_big_quiet_want
      refine quiet_load_tab (.tmp 19) rfl rfl (fun W hW => by obtain ⟨k, rfl⟩ := hW; exact l1 k) ?_
      intro a' ha'
      simp only [Act.put, List.setIfInBounds_toArray, List.set_cons_succ, List.set_cons_zero] at ha'
      subst ha'
      go_big_quiet_on
      go_big_quiet_step (fail)
      go_big_quiet_step (fail)
      go_big_quiet_step (fail)
      go_big_quiet_want
      refine quiet_load_tab (.tmp 23) rfl rfl (fun W hW => by obtain ⟨k, rfl⟩ := hW; exact l2 k) ?_
      intro a' ha'
      simp only [Act.put, List.setIfInBounds_toArray, List.set_cons_succ, List.set_cons_zero] at ha'
      subst ha'
      go_big_quiet_on
      go_big_quiet_want
      refine quiet_neq_tab (.tmp 20) (.tmp 24) rfl HT.out rfl rfl ?_
      intro a' ha'
      simp only [Act.put, List.setIfInBounds_toArray, List.set_cons_succ, List.set_cons_zero] at ha'
      subst ha'
      go_big_quiet_on
      refine wpQuiet_nil ?_
      intro W1 hw1'
      obtain ⟨nq, hw2'⟩ := hw1'
      subst hw2'
      all_goals
        have HB1 : Hid (Below w.heap.size w (wr.drewN nq)) := HB.out.trans ⟨rfl, rfl, rfl, Nat.le_refl _, fun _ _ => rfl⟩
        clear HB l1 l2
        generalize (wr.drewN nq) = W1 at *
        go_wp2_with fail
        go_roundw
        case rel => exact ⟨i + 1, by omega, rfl, HB1⟩
        case measure => simp [intOf]; omega
    · have ji : ¬ (i : Int) < (n : Int) := by omega
      go_wp2_with fail
      go_ret
      exact ⟨rfl, HB.out⟩
end Go.Proofs.Ytgjamnhepbblhaa
