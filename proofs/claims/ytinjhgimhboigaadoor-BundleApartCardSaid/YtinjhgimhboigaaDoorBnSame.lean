/- Bundle: the document's sameLinks, sameBus, exactly (written by parts/gen_bnsame.py). Own work. -/
import Derived.Test.YtinjhgimhboigaaDoorBnEq
import Derived.BigQuiet
import Derived.Deep.DeepCutAuto
import Derived.Deep.CutBlock
namespace Go.Proofs.YtinjhgimhboigaaDoor
open Go.RowKit Bn
set_option linter.unusedVariables false
set_option linter.unusedSimpArgs false
theorem quiet_load_ty {o : Oper} {a : Act} {C : World → Prop} {K : Act → Prop} (ty : TypeId) (x : Operand) (ho : o.op = .load ty x) {p V : Value} (hx : a.eval x = p) (hl : ∀ w, C w → (Instr.loadAt ty p).run Tryd.prog w = .ok V w) (hk : ∀ a', a.put o.dst V = a' → K a') : o.quiet Tryd.prog a C K :=
  ⟨V, fun w hw => by
    unfold Oper.quietAt execOp
    simp only [ho, hx, Sem.run_bind, Sem.run_pure, Result.andThen_ok, hl w hw]
    exact ⟨rfl, rfl⟩, hk _ rfl⟩
theorem quiet_neq_ty {o : Oper} {a : Act} {C : World → Prop} {K : Act → Prop} (ty : TypeId) (x y : Operand) {t' : TypeId} (ho : o.op = .binOp .neq ty x y t') {V U : Value} {A B : Array Value} {r : Bool} (hV : V = .agg A) (hU : U = .agg B) (hg : Tryd.prog.eqGuardType Tryd.prog.depth ty = false) (hn : ∀ w, (binOp .neq ty (.agg A) (.agg B)).run Tryd.prog w = .ok (.bool r) w) (hx : a.eval x = V) (hy : a.eval y = U) (hk : ∀ a', a.put o.dst (.bool r) = a' → K a') : o.quiet Tryd.prog a C K :=
  ⟨_, fun w hw => by
    subst hV hU
    have hgd : (eqGuard .neq ty x y (.agg A) (.agg B)).run Tryd.prog w = .ok () w := run_eqGuard_agg w _ _ _ _ _ _ hg
    unfold Oper.quietAt execOp
    simp only [ho, hx, hy, Sem.run_bind, Sem.run_pure, Result.andThen_ok, hgd, hn]
    exact ⟨rfl, rfl⟩, hk _ rfl⟩
/-- two lists differ at a place, or are the same -/
theorem list_eq_of {α : Type} {xs ys : List α} (hl : xs.length = ys.length) (h : ∀ i (h1 : i < xs.length) (h2 : i < ys.length), xs[i] = ys[i]) : xs = ys := List.ext_getElem hl (fun i h1 h2 => h i h1 h2)
theorem lk_load {w : World} {b o : Nat} {x : Lk} (h : ∀ j, j < 5 → w.cell? ⟨b, o + j, none⟩ = (lkE x)[j]?) : (Instr.loadAt 36 (.pointer (some ⟨b, o, none⟩))).run Tryd.prog w = .ok (.agg (lkE x).toArray) w := by
  have hS : Tryd.prog.underlying 36 = some (.struct (Tryd.prog.fieldsOf 36)) := by kernel_rfl
  have hz : (Tryd.prog.info? 36).map (·.size) = some 5 := by kernel_rfl
  have := run_loadAt_mid (P := Tryd.prog) w b o 36 (lkE x) _ (fun j v hv => by
    have hj : j < 5 := (List.getElem?_eq_some_iff.1 hv).1
    rw [h j hj, hv]) hS rfl hz
  simpa using this
theorem lk_iff (x y : Lk) : (x.fr = y.fr ∧ x.to = y.to ∧ x.eff = y.eff ∧ x.vec = y.vec ∧ x.msk = y.msk) ↔ x = y := by
  constructor
  · intro h
    cases x
    cases y
    simp at h
    simp [h]
  · intro h
    subst h
    simp
theorem rg_load {w : World} {b o : Nat} {x : Rg} (h : ∀ j, j < 2 → w.cell? ⟨b, o + j, none⟩ = (rgE x)[j]?) : (Instr.loadAt 45 (.pointer (some ⟨b, o, none⟩))).run Tryd.prog w = .ok (.agg (rgE x).toArray) w := by
  have hS : Tryd.prog.underlying 45 = some (.struct (Tryd.prog.fieldsOf 45)) := by kernel_rfl
  have hz : (Tryd.prog.info? 45).map (·.size) = some 2 := by kernel_rfl
  have := run_loadAt_mid (P := Tryd.prog) w b o 45 (rgE x) _ (fun j v hv => by
    have hj : j < 2 := (List.getElem?_eq_some_iff.1 hv).1
    rw [h j hj, hv]) hS rfl hz
  simpa using this
theorem rg_iff (x y : Rg) : (x.1 = y.1 ∧ x.2 = y.2) ↔ x = y := by
  constructor
  · intro h
    cases x
    cases y
    simp at h
    simp [h]
  · intro h
    subst h
    simp
theorem tn_load {w : World} {b o : Nat} {x : Tn} (h : ∀ j, j < 6 → w.cell? ⟨b, o + j, none⟩ = (tnE x)[j]?) : (Instr.loadAt 47 (.pointer (some ⟨b, o, none⟩))).run Tryd.prog w = .ok (.agg (tnE x).toArray) w := by
  have hS : Tryd.prog.underlying 47 = some (.struct (Tryd.prog.fieldsOf 47)) := by kernel_rfl
  have hz : (Tryd.prog.info? 47).map (·.size) = some 6 := by kernel_rfl
  have := run_loadAt_mid (P := Tryd.prog) w b o 47 (tnE x) _ (fun j v hv => by
    have hj : j < 6 := (List.getElem?_eq_some_iff.1 hv).1
    rw [h j hj, hv]) hS rfl hz
  simpa using this
theorem tn_iff (x y : Tn) : (x.cpu = y.cpu ∧ x.root = y.root ∧ x.st = y.st ∧ x.rule = y.rule ∧ x.to = y.to ∧ x.vec = y.vec) ↔ x = y := by
  constructor
  · intro h
    cases x
    cases y
    simp at h
    simp [h]
  · intro h
    subst h
    simp
theorem po_load {w : World} {b o : Nat} {x : Int} (h : ∀ j, j < 1 → w.cell? ⟨b, o + j, none⟩ = (poE x)[j]?) : (Instr.loadAt 49 (.pointer (some ⟨b, o, none⟩))).run Tryd.prog w = .ok (.agg (poE x).toArray) w := by
  have hS : Tryd.prog.underlying 49 = some (.struct (Tryd.prog.fieldsOf 49)) := by kernel_rfl
  have hz : (Tryd.prog.info? 49).map (·.size) = some 1 := by kernel_rfl
  have := run_loadAt_mid (P := Tryd.prog) w b o 49 (poE x) _ (fun j v hv => by
    have hj : j < 1 := (List.getElem?_eq_some_iff.1 hv).1
    rw [h j hj, hv]) hS rfl hz
  simpa using this
theorem po_iff (x y : Int) : (x = y) ↔ x = y := Iff.rfl
theorem gd_load {w : World} {b o : Nat} {x : Gd} (h : ∀ j, j < 4 → w.cell? ⟨b, o + j, none⟩ = (gdE x)[j]?) : (Instr.loadAt 51 (.pointer (some ⟨b, o, none⟩))).run Tryd.prog w = .ok (.agg (gdE x).toArray) w := by
  have hS : Tryd.prog.underlying 51 = some (.struct (Tryd.prog.fieldsOf 51)) := by kernel_rfl
  have hz : (Tryd.prog.info? 51).map (·.size) = some 4 := by kernel_rfl
  have := run_loadAt_mid (P := Tryd.prog) w b o 51 (gdE x) _ (fun j v hv => by
    have hj : j < 4 := (List.getElem?_eq_some_iff.1 hv).1
    rw [h j hj, hv]) hS rfl hz
  simpa using this
theorem gd_iff (x y : Gd) : (x.ad = y.ad ∧ x.sz = y.sz ∧ x.fill = y.fill ∧ x.txt = y.txt) ↔ x = y := by
  constructor
  · intro h
    cases x
    cases y
    simp at h
    simp [h]
  · intro h
    subst h
    simp
theorem st_load {w : World} {b o : Nat} {x : (Int × Int)} (h : ∀ j, j < 2 → w.cell? ⟨b, o + j, none⟩ = (stE x)[j]?) : (Instr.loadAt 53 (.pointer (some ⟨b, o, none⟩))).run Tryd.prog w = .ok (.agg (stE x).toArray) w := by
  have hS : Tryd.prog.underlying 53 = some (.struct (Tryd.prog.fieldsOf 53)) := by kernel_rfl
  have hz : (Tryd.prog.info? 53).map (·.size) = some 2 := by kernel_rfl
  have := run_loadAt_mid (P := Tryd.prog) w b o 53 (stE x) _ (fun j v hv => by
    have hj : j < 2 := (List.getElem?_eq_some_iff.1 hv).1
    rw [h j hj, hv]) hS rfl hz
  simpa using this
theorem st_iff (x y : (Int × Int)) : (x.1 = y.1 ∧ x.2 = y.2) ↔ x = y := by
  constructor
  · intro h
    cases x
    cases y
    simp at h
    simp [h]
  · intro h
    subst h
    simp
set_option maxRecDepth 100000 in
set_option maxHeartbeats 8000000 in
theorem sameLinksX {w : World} {u v : Value} {xs ys : List Lk} (hu : RowG 5 lkE w u xs) (hv : RowG 5 lkE w v ys) : Calls Tryd.prog 14 #[u, v] w fun e w' => ∃ r : Bool, e = .returned (.bool r) ∧ (r = true ↔ xs = ys) ∧ Below w.heap.size w w' := by
  have HU := Lib.hid hu
  have HV := Lib.hid hv
  obtain ⟨ao, cap, rfl, h1, h2, _⟩ := hu
  obtain ⟨bo, bap, rfl, g1, g2, _⟩ := hv
  unfold maxLen at h2 g2
  obtain ⟨n, hn⟩ : ∃ n, xs.length = n := ⟨_, rfl⟩
  obtain ⟨m, hm⟩ : ∃ m, ys.length = m := ⟨_, rfl⟩
  have HN := Lib.hid hn
  have HM := Lib.hid hm
  rw [hn] at h1 HU ⊢
  rw [hm] at g1 HV ⊢
  clear hn hm
  have HB0 : Hid (Below w.heap.size w w) := Below.refl _ _
  by_cases hnm : n = m
  · subst hnm
    go_enter Tryd.func14, Tryd.ntmps14
    go_wp2_with fail
    go_loopw [5] (fun iv wr => ∃ i : Nat, i ≤ n ∧ iv = .int .i64 (i : Int) ∧ Hid (∀ j (h1 : j < xs.length) (h2 : j < ys.length), j < i → xs[j] = ys[j]) ∧ Hid (Below w.heap.size w wr)) (fun iv _ => n - (intOf iv).toNat)
    case atStart => exact ⟨0, by omega, rfl, (fun j _ _ h => absurd h (Nat.not_lt_zero _)), HB0⟩
    case round =>
      clear HB0
      obtain ⟨i, hi, rfl, HEq, HB⟩ := hrel
      by_cases hin : i < n
      · have ji : (i : Int) < (n : Int) := by omega
        have hix : i < xs.length := by rw [HN.out]; exact hin
        have hiy : i < ys.length := by rw [HM.out]; exact hin
        have hw1 : IntKind.i64.wrap ((i : Int) + 1) = ((i + 1 : Nat) : Int) := by rw [IntKind.wrap_i64]; omega
        obtain ⟨_, _, e', _, _, hc⟩ := HU.out.below HB.out
        simp only [Value.slice.injEq] at e'
        obtain ⟨rfl, e9, rfl⟩ := e'
        clear e9
        obtain ⟨b, of, rfl, _, hc⟩ := hc i hix
        obtain ⟨_, _, e', _, _, hd⟩ := HV.out.below HB.out
        simp only [Value.slice.injEq] at e'
        obtain ⟨rfl, e9, rfl⟩ := e'
        clear e9
        obtain ⟨b', of', rfl, _, hd⟩ := hd i hiy
        have HNx : Hid (xs[i] = ys[i] → ∀ j (h1 : j < xs.length) (h2 : j < ys.length), j < i + 1 → xs[j] = ys[j]) := fun e j h1 h2 h3 => by
          by_cases h : j = i
          · subst h; exact e
          · exact HEq.out j h1 h2 (by omega)
        have HNo : Hid (xs[i] ≠ ys[i] → ¬ xs = ys) := fun e h => e (by subst h; rfl)
        generalize xs[i] = x at *
        generalize ys[i] = y at *
        obtain ⟨T1, hT1⟩ : ∃ T1, Value.agg (lkE x).toArray = T1 := ⟨_, rfl⟩
        obtain ⟨T2, hT2⟩ : ∃ T2, Value.agg (lkE y).toArray = T2 := ⟨_, rfl⟩
        have l1 : ∀ k, (Instr.loadAt 36 (.pointer (some ⟨b, of + i * 5, none⟩))).run Tryd.prog (wr.drewN k) = .ok T1 (wr.drewN k) := fun k => by
          rw [← hT1]
          exact lk_load (w := wr.drewN k) hc
        have l2 : ∀ k, (Instr.loadAt 36 (.pointer (some ⟨b', of' + i * 5, none⟩))).run Tryd.prog (wr.drewN k) = .ok T2 (wr.drewN k) := fun k => by
          rw [← hT2]
          exact lk_load (w := wr.drewN k) hd
        have HT1 := Lib.hid hT1.symm
        have HT2 := Lib.hid hT2.symm
        clear hT1 hT2 hc hd
        by_cases hxy : x = y
        · have HNq : Hid (∀ w, (binOp .neq 36 (.agg (lkE x).toArray) (.agg (lkE y).toArray)).run Tryd.prog w = .ok (.bool false) w) := fun w => by
            rw [lk_neq, decide_eq_true ((lk_iff x y).2 hxy)]
            rfl
          have HNz := Lib.hid (HNx.out hxy)
          go_upto_region 6 with fail
          refine wp_region_quiet_lit (by kernel_rfl) (by kernel_rfl) ?_
          go_big_quiet_step (fail)
          go_big_quiet_step (fail)
          go_big_quiet_step (fail)
          go_big_quiet_want
          refine quiet_load_ty 36 (.tmp 19) rfl rfl (fun W hW => by obtain ⟨k, rfl⟩ := hW; exact l1 k) ?_
          intro a' ha'
          simp only [Act.put, List.setIfInBounds_toArray, List.set_cons_succ, List.set_cons_zero] at ha'
          subst ha'
          go_big_quiet_on
          go_big_quiet_step (fail)
          go_big_quiet_step (fail)
          go_big_quiet_step (fail)
          go_big_quiet_want
          refine quiet_load_ty 36 (.tmp 23) rfl rfl (fun W hW => by obtain ⟨k, rfl⟩ := hW; exact l2 k) ?_
          intro a' ha'
          simp only [Act.put, List.setIfInBounds_toArray, List.set_cons_succ, List.set_cons_zero] at ha'
          subst ha'
          go_big_quiet_on
          go_big_quiet_want
          refine quiet_neq_ty 36 (.tmp 20) (.tmp 24) rfl HT1.out HT2.out lk_guard HNq.out rfl rfl ?_
          intro a' ha'
          simp only [Act.put, List.setIfInBounds_toArray, List.set_cons_succ, List.set_cons_zero] at ha'
          subst ha'
          go_big_quiet_on
          refine wpQuiet_nil ?_
          intro W1 hw1'
          obtain ⟨nq, hw2'⟩ := hw1'
          subst hw2'
          have HB1 : Hid (Below w.heap.size w (wr.drewN nq)) := HB.out.trans ⟨rfl, rfl, rfl, Nat.le_refl _, fun _ _ => rfl⟩
          clear HB l1 l2
          generalize (wr.drewN nq) = W1 at *
          go_wp2_with fail
          go_roundw
          case rel => exact ⟨i + 1, by omega, rfl, HNz, HB1⟩
          case measure => simp [intOf]; omega
        · have HNq : Hid (∀ w, (binOp .neq 36 (.agg (lkE x).toArray) (.agg (lkE y).toArray)).run Tryd.prog w = .ok (.bool true) w) := fun w => by
            rw [lk_neq, decide_eq_false (fun h => hxy ((lk_iff x y).1 h))]
            rfl
          have HNz := Lib.hid (HNo.out hxy)
          go_upto_region 6 with fail
          refine wp_region_quiet_lit (by kernel_rfl) (by kernel_rfl) ?_
          go_big_quiet_step (fail)
          go_big_quiet_step (fail)
          go_big_quiet_step (fail)
          go_big_quiet_want
          refine quiet_load_ty 36 (.tmp 19) rfl rfl (fun W hW => by obtain ⟨k, rfl⟩ := hW; exact l1 k) ?_
          intro a' ha'
          simp only [Act.put, List.setIfInBounds_toArray, List.set_cons_succ, List.set_cons_zero] at ha'
          subst ha'
          go_big_quiet_on
          go_big_quiet_step (fail)
          go_big_quiet_step (fail)
          go_big_quiet_step (fail)
          go_big_quiet_want
          refine quiet_load_ty 36 (.tmp 23) rfl rfl (fun W hW => by obtain ⟨k, rfl⟩ := hW; exact l2 k) ?_
          intro a' ha'
          simp only [Act.put, List.setIfInBounds_toArray, List.set_cons_succ, List.set_cons_zero] at ha'
          subst ha'
          go_big_quiet_on
          go_big_quiet_want
          refine quiet_neq_ty 36 (.tmp 20) (.tmp 24) rfl HT1.out HT2.out lk_guard HNq.out rfl rfl ?_
          intro a' ha'
          simp only [Act.put, List.setIfInBounds_toArray, List.set_cons_succ, List.set_cons_zero] at ha'
          subst ha'
          go_big_quiet_on
          refine wpQuiet_nil ?_
          intro W1 hw1'
          obtain ⟨nq, hw2'⟩ := hw1'
          subst hw2'
          have HB1 : Hid (Below w.heap.size w (wr.drewN nq)) := HB.out.trans ⟨rfl, rfl, rfl, Nat.le_refl _, fun _ _ => rfl⟩
          clear HB l1 l2
          generalize (wr.drewN nq) = W1 at *
          go_wp2_with fail
          go_ret
          first | exact .inl ⟨rfl, HNz.out, HB1.out⟩ | exact .inl ⟨HNz.out, HB1.out⟩ | exact ⟨false, rfl, ⟨(fun h => by cases h), fun h => absurd h HNz.out⟩, HB1.out⟩
      · have ji : ¬ (i : Int) < (n : Int) := by omega
        have HFin : Hid (xs = ys) := list_eq_of (by rw [HN.out, HM.out]) (fun j h1 h2 => HEq.out j h1 h2 (by rw [HN.out] at h1; omega))
        go_wp2_with fail
        go_ret
        first | exact .inr ⟨rfl, HFin.out, HB.out⟩ | exact .inr ⟨HFin.out, HB.out⟩ | exact ⟨true, rfl, ⟨fun _ => HFin.out, fun _ => rfl⟩, HB.out⟩
  · have jn : ¬ (n : Int) = (m : Int) := by omega
    have HNe : Hid (¬ xs = ys) := fun h => hnm (by rw [← HN.out, ← HM.out, h])
    go_enter Tryd.func14, Tryd.ntmps14
    go_wp2_with fail
    go_ret
    first | exact .inl ⟨rfl, HNe.out, HB0.out⟩ | exact .inl ⟨HNe.out, HB0.out⟩ | exact ⟨false, rfl, ⟨(fun h => by cases h), fun h => absurd h HNe.out⟩, HB0.out⟩
end Go.Proofs.YtinjhgimhboigaaDoor
