import Derived.Test.YtmfkggngjeolcaaGreatDoorPk23
import Derived.BigQuiet
import Derived.Deep.DeepCutAuto
import Derived.Deep.CutBlock
/- Bundle: the document's sameLinks, sameBus, exactly (written by parts/gen_bnsame.py). Own work. -/
namespace Go.Proofs.YtmfkggngjeolcaaGreatDoor
open Go.RowKit Bn
set_option linter.unusedVariables false
set_option linter.unusedSimpArgs false
theorem quiet_load_ty {o : Oper} {a : Act} {C : World → Prop} {K : Act → Prop} (ty : TypeId) (x : Operand) (ho : o.op = .load ty x) {p V : Value} (hx : a.eval x = p) (hl : ∀ w, C w → (Instr.loadAt ty p).run Tryz.prog w = .ok V w) (hk : ∀ a', a.put o.dst V = a' → K a') : o.quiet Tryz.prog a C K :=
  ⟨V, fun w hw => by
    unfold Oper.quietAt execOp
    simp only [ho, hx, Sem.run_bind, Sem.run_pure, Result.andThen_ok, hl w hw]
    exact ⟨rfl, rfl⟩, hk _ rfl⟩
theorem quiet_neq_ty {o : Oper} {a : Act} {C : World → Prop} {K : Act → Prop} (ty : TypeId) (x y : Operand) {t' : TypeId} (ho : o.op = .binOp .neq ty x y t') {V U : Value} {A B : Array Value} {r : Bool} (hV : V = .agg A) (hU : U = .agg B) (hg : Tryz.prog.eqGuardType Tryz.prog.depth ty = false) (hn : ∀ w, (binOp .neq ty (.agg A) (.agg B)).run Tryz.prog w = .ok (.bool r) w) (hx : a.eval x = V) (hy : a.eval y = U) (hk : ∀ a', a.put o.dst (.bool r) = a' → K a') : o.quiet Tryz.prog a C K :=
  ⟨_, fun w hw => by
    subst hV hU
    have hgd : (eqGuard .neq ty x y (.agg A) (.agg B)).run Tryz.prog w = .ok () w := run_eqGuard_agg w _ _ _ _ _ _ hg
    unfold Oper.quietAt execOp
    simp only [ho, hx, hy, Sem.run_bind, Sem.run_pure, Result.andThen_ok, hgd, hn]
    exact ⟨rfl, rfl⟩, hk _ rfl⟩
/-- two lists differ at a place, or are the same -/
theorem list_eq_of {α : Type} {xs ys : List α} (hl : xs.length = ys.length) (h : ∀ i (h1 : i < xs.length) (h2 : i < ys.length), xs[i] = ys[i]) : xs = ys := List.ext_getElem hl (fun i h1 h2 => h i h1 h2)
theorem lk_load {w : World} {b o : Nat} {x : Lk} (h : ∀ j, j < 5 → w.cell? ⟨b, o + j, none⟩ = (lkE x)[j]?) : (Instr.loadAt 72 (.pointer (some ⟨b, o, none⟩))).run Tryz.prog w = .ok (.agg (lkE x).toArray) w := by
  have hS : Tryz.prog.underlying 72 = some (.struct (Tryz.prog.fieldsOf 72)) := by kernel_rfl
  have hz : (Tryz.prog.info? 72).map (·.size) = some 5 := by kernel_rfl
  have := run_loadAt_mid (P := Tryz.prog) w b o 72 (lkE x) _ (fun j v hv => by
    have hj : j < 5 := (List.getElem?_eq_some_iff.1 hv).1
    rw [h j hj, hv]) hS rfl hz
  simpa using this
theorem lk_iff (x y : Lk) : (x.fr = y.fr ∧ x.to = y.to ∧ x.eff = y.eff ∧ x.vec = y.vec ∧ x.msk = y.msk) ↔ x = y := by
  constructor
  · intro h
    cases x
    cases y
    simp at h
    simp [h]
  · intro h
    subst h
    simp
theorem rg_load {w : World} {b o : Nat} {x : Rg} (h : ∀ j, j < 2 → w.cell? ⟨b, o + j, none⟩ = (rgE x)[j]?) : (Instr.loadAt 64 (.pointer (some ⟨b, o, none⟩))).run Tryz.prog w = .ok (.agg (rgE x).toArray) w := by
  have hS : Tryz.prog.underlying 64 = some (.struct (Tryz.prog.fieldsOf 64)) := by kernel_rfl
  have hz : (Tryz.prog.info? 64).map (·.size) = some 2 := by kernel_rfl
  have := run_loadAt_mid (P := Tryz.prog) w b o 64 (rgE x) _ (fun j v hv => by
    have hj : j < 2 := (List.getElem?_eq_some_iff.1 hv).1
    rw [h j hj, hv]) hS rfl hz
  simpa using this
theorem rg_iff (x y : Rg) : (x.1 = y.1 ∧ x.2 = y.2) ↔ x = y := by
  constructor
  · intro h
    cases x
    cases y
    simp at h
    simp [h]
  · intro h
    subst h
    simp
theorem tn_load {w : World} {b o : Nat} {x : Tn} (h : ∀ j, j < 6 → w.cell? ⟨b, o + j, none⟩ = (tnE x)[j]?) : (Instr.loadAt 66 (.pointer (some ⟨b, o, none⟩))).run Tryz.prog w = .ok (.agg (tnE x).toArray) w := by
  have hS : Tryz.prog.underlying 66 = some (.struct (Tryz.prog.fieldsOf 66)) := by kernel_rfl
  have hz : (Tryz.prog.info? 66).map (·.size) = some 6 := by kernel_rfl
  have := run_loadAt_mid (P := Tryz.prog) w b o 66 (tnE x) _ (fun j v hv => by
    have hj : j < 6 := (List.getElem?_eq_some_iff.1 hv).1
    rw [h j hj, hv]) hS rfl hz
  simpa using this
theorem tn_iff (x y : Tn) : (x.cpu = y.cpu ∧ x.root = y.root ∧ x.st = y.st ∧ x.rule = y.rule ∧ x.to = y.to ∧ x.vec = y.vec) ↔ x = y := by
  constructor
  · intro h
    cases x
    cases y
    simp at h
    simp [h]
  · intro h
    subst h
    simp
theorem po_load {w : World} {b o : Nat} {x : Int} (h : ∀ j, j < 1 → w.cell? ⟨b, o + j, none⟩ = (poE x)[j]?) : (Instr.loadAt 68 (.pointer (some ⟨b, o, none⟩))).run Tryz.prog w = .ok (.agg (poE x).toArray) w := by
  have hS : Tryz.prog.underlying 68 = some (.struct (Tryz.prog.fieldsOf 68)) := by kernel_rfl
  have hz : (Tryz.prog.info? 68).map (·.size) = some 1 := by kernel_rfl
  have := run_loadAt_mid (P := Tryz.prog) w b o 68 (poE x) _ (fun j v hv => by
    have hj : j < 1 := (List.getElem?_eq_some_iff.1 hv).1
    rw [h j hj, hv]) hS rfl hz
  simpa using this
theorem po_iff (x y : Int) : (x = y) ↔ x = y := Iff.rfl
theorem gd_load {w : World} {b o : Nat} {x : Gd} (h : ∀ j, j < 4 → w.cell? ⟨b, o + j, none⟩ = (gdE x)[j]?) : (Instr.loadAt 70 (.pointer (some ⟨b, o, none⟩))).run Tryz.prog w = .ok (.agg (gdE x).toArray) w := by
  have hS : Tryz.prog.underlying 70 = some (.struct (Tryz.prog.fieldsOf 70)) := by kernel_rfl
  have hz : (Tryz.prog.info? 70).map (·.size) = some 4 := by kernel_rfl
  have := run_loadAt_mid (P := Tryz.prog) w b o 70 (gdE x) _ (fun j v hv => by
    have hj : j < 4 := (List.getElem?_eq_some_iff.1 hv).1
    rw [h j hj, hv]) hS rfl hz
  simpa using this
theorem gd_iff (x y : Gd) : (x.ad = y.ad ∧ x.sz = y.sz ∧ x.fill = y.fill ∧ x.txt = y.txt) ↔ x = y := by
  constructor
  · intro h
    cases x
    cases y
    simp at h
    simp [h]
  · intro h
    subst h
    simp
theorem st_load {w : World} {b o : Nat} {x : (Int × Int)} (h : ∀ j, j < 2 → w.cell? ⟨b, o + j, none⟩ = (stE x)[j]?) : (Instr.loadAt 74 (.pointer (some ⟨b, o, none⟩))).run Tryz.prog w = .ok (.agg (stE x).toArray) w := by
  have hS : Tryz.prog.underlying 74 = some (.struct (Tryz.prog.fieldsOf 74)) := by kernel_rfl
  have hz : (Tryz.prog.info? 74).map (·.size) = some 2 := by kernel_rfl
  have := run_loadAt_mid (P := Tryz.prog) w b o 74 (stE x) _ (fun j v hv => by
    have hj : j < 2 := (List.getElem?_eq_some_iff.1 hv).1
    rw [h j hj, hv]) hS rfl hz
  simpa using this
theorem st_iff (x y : (Int × Int)) : (x.1 = y.1 ∧ x.2 = y.2) ↔ x = y := by
  constructor
  · intro h
    cases x
    cases y
    simp at h
    simp [h]
  · intro h
    subst h
    simp
set_option maxRecDepth 100000 in
set_option maxHeartbeats 8000000 in
theorem sameLinksX {w : World} {u v : Value} {xs ys : List Lk} (hu : RowG 5 lkE w u xs) (hv : RowG 5 lkE w v ys) : Calls Tryz.prog 45 #[u, v] w fun e w' => ∃ r : Bool, e = .returned (.bool r) ∧ (r = true ↔ xs = ys) ∧ Below w.heap.size w w' := by
  have HU := Lib.hid hu
  have HV := Lib.hid hv
  obtain ⟨ao, cap, rfl, h1, h2, _⟩ := hu
  obtain ⟨bo, bap, rfl, g1, g2, _⟩ := hv
  unfold maxLen at h2 g2
  obtain ⟨n, hn⟩ : ∃ n, xs.length = n := ⟨_, rfl⟩
  obtain ⟨m, hm⟩ : ∃ m, ys.length = m := ⟨_, rfl⟩
  have HN := Lib.hid hn
  have HM := Lib.hid hm
  rw [hn] at h1 HU ⊢
  rw [hm] at g1 HV ⊢
  clear hn hm
  have HB0 : Hid (Below w.heap.size w w) := Below.refl _ _
  by_cases hnm : n = m
  · subst hnm
    go_enter Tryz.func45, Tryz.ntmps45
    go_wp2_with fail
    go_loopw [5] (fun iv wr => ∃ i : Nat, i ≤ n ∧ iv = .int .i64 (i : Int) ∧ Hid (∀ j (h1 : j < xs.length) (h2 : j < ys.length), j < i → xs[j] = ys[j]) ∧ Hid (Below w.heap.size w wr)) (fun iv _ => n - (intOf iv).toNat)
    case atStart => exact ⟨0, by omega, rfl, (fun j _ _ h => absurd h (Nat.not_lt_zero _)), HB0⟩
    case round =>
      clear HB0
      obtain ⟨i, hi, rfl, HEq, HB⟩ := hrel
      by_cases hin : i < n
      · have ji : (i : Int) < (n : Int) := by omega
        have hix : i < xs.length := by rw [HN.out]; exact hin
        have hiy : i < ys.length := by rw [HM.out]; exact hin
        have hw1 : IntKind.i64.wrap ((i : Int) + 1) = ((i + 1 : Nat) : Int) := by rw [IntKind.wrap_i64]; omega
        obtain ⟨_, _, e', _, _, hc⟩ := HU.out.below HB.out
        simp only [Value.slice.injEq] at e'
        obtain ⟨rfl, e9, rfl⟩ := e'
        clear e9
        obtain ⟨b, of, rfl, _, hc⟩ := hc i hix
        obtain ⟨_, _, e', _, _, hd⟩ := HV.out.below HB.out
        simp only [Value.slice.injEq] at e'
        obtain ⟨rfl, e9, rfl⟩ := e'
        clear e9
        obtain ⟨b', of', rfl, _, hd⟩ := hd i hiy
        have HNx : Hid (xs[i] = ys[i] → ∀ j (h1 : j < xs.length) (h2 : j < ys.length), j < i + 1 → xs[j] = ys[j]) := fun e j h1 h2 h3 => by
          by_cases h : j = i
          · subst h; exact e
          · exact HEq.out j h1 h2 (by omega)
        have HNo : Hid (xs[i] ≠ ys[i] → ¬ xs = ys) := fun e h => e (by subst h; rfl)
        generalize xs[i] = x at *
        generalize ys[i] = y at *
        obtain ⟨T1, hT1⟩ : ∃ T1, Value.agg (lkE x).toArray = T1 := ⟨_, rfl⟩
        obtain ⟨T2, hT2⟩ : ∃ T2, Value.agg (lkE y).toArray = T2 := ⟨_, rfl⟩
        have l1 : ∀ k, (Instr.loadAt 72 (.pointer (some ⟨b, of + i * 5, none⟩))).run Tryz.prog (wr.drewN k) = .ok T1 (wr.drewN k) := fun k => by
          rw [← hT1]
          exact lk_load (w := wr.drewN k) hc
        have l2 : ∀ k, (Instr.loadAt 72 (.pointer (some ⟨b', of' + i * 5, none⟩))).run Tryz.prog (wr.drewN k) = .ok T2 (wr.drewN k) := fun k => by
          rw [← hT2]
          exact lk_load (w := wr.drewN k) hd
        have HT1 := Lib.hid hT1.symm
        have HT2 := Lib.hid hT2.symm
        clear hT1 hT2 hc hd
        by_cases hxy : x = y
        · have HNq : Hid (∀ w, (binOp .neq 72 (.agg (lkE x).toArray) (.agg (lkE y).toArray)).run Tryz.prog w = .ok (.bool false) w) := fun w => by
            rw [lk_neq, decide_eq_true ((lk_iff x y).2 hxy)]
            rfl
          have HNz := Lib.hid (HNx.out hxy)
          go_upto_region 6 with fail
          refine wp_region_quiet_lit (by kernel_rfl) (by kernel_rfl) ?_
          go_big_quiet_step (fail)
          go_big_quiet_step (fail)
          go_big_quiet_step (fail)
          go_big_quiet_want
          refine quiet_load_ty 72 (.tmp 19) rfl rfl (fun W hW => by obtain ⟨k, rfl⟩ := hW; exact l1 k) ?_
          intro a' ha'
          simp only [Act.put, List.setIfInBounds_toArray, List.set_cons_succ, List.set_cons_zero] at ha'
          subst ha'
          go_big_quiet_on
          go_big_quiet_step (fail)
          go_big_quiet_step (fail)
          go_big_quiet_step (fail)
          go_big_quiet_want
          refine quiet_load_ty 72 (.tmp 23) rfl rfl (fun W hW => by obtain ⟨k, rfl⟩ := hW; exact l2 k) ?_
          intro a' ha'
          simp only [Act.put, List.setIfInBounds_toArray, List.set_cons_succ, List.set_cons_zero] at ha'
          subst ha'
          go_big_quiet_on
          go_big_quiet_want
          refine quiet_neq_ty 72 (.tmp 20) (.tmp 24) rfl HT1.out HT2.out lk_guard HNq.out rfl rfl ?_
          intro a' ha'
          simp only [Act.put, List.setIfInBounds_toArray, List.set_cons_succ, List.set_cons_zero] at ha'
          subst ha'
          go_big_quiet_on
          refine wpQuiet_nil ?_
          intro W1 hw1'
          obtain ⟨nq, hw2'⟩ := hw1'
          subst hw2'
          have HB1 : Hid (Below w.heap.size w (wr.drewN nq)) := HB.out.trans ⟨rfl, rfl, rfl, Nat.le_refl _, fun _ _ => rfl⟩
          clear HB l1 l2
          generalize (wr.drewN nq) = W1 at *
          go_wp2_with fail
          go_roundw
          case rel => exact ⟨i + 1, by omega, rfl, HNz, HB1⟩
          case measure => simp [intOf]; omega
        · have HNq : Hid (∀ w, (binOp .neq 72 (.agg (lkE x).toArray) (.agg (lkE y).toArray)).run Tryz.prog w = .ok (.bool true) w) := fun w => by
            rw [lk_neq, decide_eq_false (fun h => hxy ((lk_iff x y).1 h))]
            rfl
          have HNz := Lib.hid (HNo.out hxy)
          go_upto_region 6 with fail
          refine wp_region_quiet_lit (by kernel_rfl) (by kernel_rfl) ?_
          go_big_quiet_step (fail)
          go_big_quiet_step (fail)
          go_big_quiet_step (fail)
          go_big_quiet_want
          refine quiet_load_ty 72 (.tmp 19) rfl rfl (fun W hW => by obtain ⟨k, rfl⟩ := hW; exact l1 k) ?_
          intro a' ha'
          simp only [Act.put, List.setIfInBounds_toArray, List.set_cons_succ, List.set_cons_zero] at ha'
          subst ha'
          go_big_quiet_on
          go_big_quiet_step (fail)
          go_big_quiet_step (fail)
          go_big_quiet_step (fail)
          go_big_quiet_want
          refine quiet_load_ty 72 (.tmp 23) rfl rfl (fun W hW => by obtain ⟨k, rfl⟩ := hW; exact l2 k) ?_
          intro a' ha'
          simp only [Act.put, List.setIfInBounds_toArray, List.set_cons_succ, List.set_cons_zero] at ha'
          subst ha'
          go_big_quiet_on
          go_big_quiet_want
          refine quiet_neq_ty 72 (.tmp 20) (.tmp 24) rfl HT1.out HT2.out lk_guard HNq.out rfl rfl ?_
          intro a' ha'
          simp only [Act.put, List.setIfInBounds_toArray, List.set_cons_succ, List.set_cons_zero] at ha'
          subst ha'
          go_big_quiet_on
          refine wpQuiet_nil ?_
          intro W1 hw1'
          obtain ⟨nq, hw2'⟩ := hw1'
          subst hw2'
          have HB1 : Hid (Below w.heap.size w (wr.drewN nq)) := HB.out.trans ⟨rfl, rfl, rfl, Nat.le_refl _, fun _ _ => rfl⟩
          clear HB l1 l2
          generalize (wr.drewN nq) = W1 at *
          go_wp2_with fail
          go_ret
          first | exact .inl ⟨rfl, HNz.out, HB1.out⟩ | exact .inl ⟨HNz.out, HB1.out⟩ | exact ⟨false, rfl, ⟨(fun h => by cases h), fun h => absurd h HNz.out⟩, HB1.out⟩
      · have ji : ¬ (i : Int) < (n : Int) := by omega
        have HFin : Hid (xs = ys) := list_eq_of (by rw [HN.out, HM.out]) (fun j h1 h2 => HEq.out j h1 h2 (by rw [HN.out] at h1; omega))
        go_wp2_with fail
        go_ret
        first | exact .inr ⟨rfl, HFin.out, HB.out⟩ | exact .inr ⟨HFin.out, HB.out⟩ | exact ⟨true, rfl, ⟨fun _ => HFin.out, fun _ => rfl⟩, HB.out⟩
  · have jn : ¬ (n : Int) = (m : Int) := by omega
    have HNe : Hid (¬ xs = ys) := fun h => hnm (by rw [← HN.out, ← HM.out, h])
    go_enter Tryz.func45, Tryz.ntmps45
    go_wp2_with fail
    go_ret
    first | exact .inl ⟨rfl, HNe.out, HB0.out⟩ | exact .inl ⟨HNe.out, HB0.out⟩ | exact ⟨false, rfl, ⟨(fun h => by cases h), fun h => absurd h HNe.out⟩, HB0.out⟩
end Go.Proofs.YtmfkggngjeolcaaGreatDoor
/- Bundle: the document's sameBus, exactly (written by parts/gen_bnbus.py). Own work. -/
namespace Go.Proofs.YtmfkggngjeolcaaGreatDoor
open Go.RowKit Bn
set_option linter.unusedVariables false
set_option linter.unusedSimpArgs false
/-- a yes or no, and no more -/
def YN (p : Prop) (w : World) (e : Ending) (w' : World) : Prop := ∃ r : Bool, e = .returned (.bool r) ∧ (r = true ↔ p) ∧ Below w.heap.size w w'
theorem YN.no {p : Prop} {w w' : World} (h : ¬ p) (hb : Below w.heap.size w w') : YN p w (.returned (.bool false)) w' := ⟨false, rfl, ⟨(fun h => by cases h), fun h' => absurd h' h⟩, hb⟩
theorem YN.yes {p : Prop} {w w' : World} (h : p) (hb : Below w.heap.size w w') : YN p w (.returned (.bool true)) w' := ⟨true, rfl, ⟨fun _ => h, fun _ => rfl⟩, hb⟩
set_option maxRecDepth 100000 in
set_option maxHeartbeats 8000000 in
theorem sameBusX {w : World} {u1 u2 v1 v2 : Value} {xs1 xs2 ys1 ys2 : List Rg} (hu1 : RowG 2 rgE w u1 xs1) (hu2 : RowG 2 rgE w u2 xs2) (hv1 : RowG 2 rgE w v1 ys1) (hv2 : RowG 2 rgE w v2 ys2) : Calls Tryz.prog 44 #[.agg #[u1, u2], .agg #[v1, v2]] w (YN (xs1 = ys1 ∧ xs2 = ys2) w) := by
  have HU1 := Lib.hid hu1
  have HU2 := Lib.hid hu2
  have HV1 := Lib.hid hv1
  have HV2 := Lib.hid hv2
  obtain ⟨a1, p1, rfl, h1, h2, _⟩ := hu1
  obtain ⟨a2, p2, rfl, h3, h4, _⟩ := hu2
  obtain ⟨b1, q1, rfl, h5, h6, _⟩ := hv1
  obtain ⟨b2, q2, rfl, h7, h8, _⟩ := hv2
  unfold maxLen at h2 h4 h6 h8
  obtain ⟨n1, hn1⟩ : ∃ n, xs1.length = n := ⟨_, rfl⟩
  obtain ⟨n2, hn2⟩ : ∃ n, xs2.length = n := ⟨_, rfl⟩
  obtain ⟨m1, hm1⟩ : ∃ n, ys1.length = n := ⟨_, rfl⟩
  obtain ⟨m2, hm2⟩ : ∃ n, ys2.length = n := ⟨_, rfl⟩
  have HN1 := Lib.hid hn1
  have HN2 := Lib.hid hn2
  have HM1 := Lib.hid hm1
  have HM2 := Lib.hid hm2
  rw [hn1] at h1 HU1 ⊢
  rw [hn2] at h3 HU2 ⊢
  rw [hm1] at h5 HV1 ⊢
  rw [hm2] at h7 HV2 ⊢
  clear hn1 hn2 hm1 hm2
  by_cases e1 : n1 = m1
  · by_cases e2 : n2 = m2
    · subst e1 e2
      have s1 : (w.alloc (.cells #[.slice a1 n1 p1, .slice a2 n2 p2] 25)).heap.size = w.heap.size + 1 := by simp
      have HB9 : Hid (Below w.heap.size w ((w.alloc (.cells #[.slice a1 n1 p1, .slice a2 n2 p2] 25)).alloc (.cells #[.slice b1 n1 q1, .slice b2 n2 q2] 25))) := ((Below.refl _ _).alloc (Nat.le_refl _) _).alloc (by rw [s1]; omega) _
      have HC1 : Hid (((w.alloc (.cells #[.slice a1 n1 p1, .slice a2 n2 p2] 25)).alloc (.cells #[.slice b1 n1 q1, .slice b2 n2 q2] 25)).cell? ⟨w.heap.size, 0, none⟩ = some (.slice a1 n1 p1)) := show _ = _ by simp [go_sem]
      have HC2 : Hid (((w.alloc (.cells #[.slice a1 n1 p1, .slice a2 n2 p2] 25)).alloc (.cells #[.slice b1 n1 q1, .slice b2 n2 q2] 25)).cell? ⟨w.heap.size, 1, none⟩ = some (.slice a2 n2 p2)) := show _ = _ by simp [go_sem]
      have HD1 : Hid (((w.alloc (.cells #[.slice a1 n1 p1, .slice a2 n2 p2] 25)).alloc (.cells #[.slice b1 n1 q1, .slice b2 n2 q2] 25)).cell? ⟨w.heap.size + 1, 0, none⟩ = some (.slice b1 n1 q1)) := show _ = _ by simp [go_sem]
      have HD2 : Hid (((w.alloc (.cells #[.slice a1 n1 p1, .slice a2 n2 p2] 25)).alloc (.cells #[.slice b1 n1 q1, .slice b2 n2 q2] 25)).cell? ⟨w.heap.size + 1, 1, none⟩ = some (.slice b2 n2 q2)) := show _ = _ by simp [go_sem]
      have HX1 := Lib.hid (HU1.out.below HB9.out)
      have HX2 := Lib.hid (HU2.out.below HB9.out)
      have HY1 := Lib.hid (HV1.out.below HB9.out)
      have HY2 := Lib.hid (HV2.out.below HB9.out)
      clear HU1 HU2 HV1 HV2 s1
      go_enter Tryz.func44, Tryz.ntmps44
      go_wp2_with fail
      generalize ((w.alloc (.cells #[.slice a1 n1 p1, .slice a2 n2 p2] 25)).alloc (.cells #[.slice b1 n1 q1, .slice b2 n2 q2] 25)) = W at *
      have HB0 : Hid (Below W.heap.size W W) := Below.refl _ _
      go_loopw [5] (fun iv wr => ∃ i : Nat, i ≤ n1 ∧ iv = .int .i64 (i : Int) ∧ Hid (∀ j (h1 : j < xs1.length) (h2 : j < ys1.length), j < i → xs1[j] = ys1[j]) ∧ Hid (Below W.heap.size W wr)) (fun iv _ => n1 - (intOf iv).toNat)
      case atStart => exact ⟨0, by omega, rfl, (fun j _ _ h => absurd h (Nat.not_lt_zero _)), HB0⟩
      clear HB0
      obtain ⟨i, hi, rfl, HEq, HB⟩ := hrel
      have c1 := cell_low HB.out HC1.out
      have c2 := cell_low HB.out HD1.out
      by_cases hin : i < n1
      · have ji : (i : Int) < (n1 : Int) := by omega
        have hix : i < xs1.length := by rw [HN1.out]; exact hin
        have hiy : i < ys1.length := by rw [HM1.out]; exact hin
        have hw1 : IntKind.i64.wrap ((i : Int) + 1) = ((i + 1 : Nat) : Int) := by rw [IntKind.wrap_i64]; omega
        obtain ⟨_, _, e', _, _, hc⟩ := HX1.out.below HB.out
        simp only [Value.slice.injEq] at e'
        obtain ⟨rfl, e9, rfl⟩ := e'
        clear e9
        obtain ⟨b, of, rfl, _, hc⟩ := hc i hix
        obtain ⟨_, _, e', _, _, hd⟩ := HY1.out.below HB.out
        simp only [Value.slice.injEq] at e'
        obtain ⟨rfl, e9, rfl⟩ := e'
        clear e9
        obtain ⟨b', of', rfl, _, hd⟩ := hd i hiy
        have HNx : Hid (xs1[i] = ys1[i] → ∀ j (h1 : j < xs1.length) (h2 : j < ys1.length), j < i + 1 → xs1[j] = ys1[j]) := fun e j h1 h2 h3 => by
          by_cases h : j = i
          · subst h; exact e
          · exact HEq.out j h1 h2 (by omega)
        have HNo : Hid (xs1[i] ≠ ys1[i] → ¬ xs1 = ys1) := fun e h => e (by subst h; rfl)
        generalize xs1[i] = x at *
        generalize ys1[i] = y at *
        obtain ⟨T1, hT1⟩ : ∃ T1, Value.agg (rgE x).toArray = T1 := ⟨_, rfl⟩
        obtain ⟨T2, hT2⟩ : ∃ T2, Value.agg (rgE y).toArray = T2 := ⟨_, rfl⟩
        have l1 : ∀ k, (Instr.loadAt 64 (.pointer (some ⟨b, of + i * 2, none⟩))).run Tryz.prog (wr.drewN k) = .ok T1 (wr.drewN k) := fun k => by
          rw [← hT1]
          exact rg_load (w := wr.drewN k) hc
        have l2 : ∀ k, (Instr.loadAt 64 (.pointer (some ⟨b', of' + i * 2, none⟩))).run Tryz.prog (wr.drewN k) = .ok T2 (wr.drewN k) := fun k => by
          rw [← hT2]
          exact rg_load (w := wr.drewN k) hd
        have HT1 := Lib.hid hT1.symm
        have HT2 := Lib.hid hT2.symm
        clear hT1 hT2 hc hd
        by_cases hxy : x = y
        · have HNq : Hid (∀ w, (binOp .neq 64 (.agg (rgE x).toArray) (.agg (rgE y).toArray)).run Tryz.prog w = .ok (.bool false) w) := fun w => by
            rw [rg_neq, decide_eq_true ((rg_iff x y).2 hxy)]
            rfl
          have HNz := Lib.hid (HNx.out hxy)
          go_upto_region 6 with fail
          refine wp_region_quiet_lit (by kernel_rfl) (by kernel_rfl) ?_
          go_big_quiet_step (fail)
          go_big_quiet_step (fail)
          go_big_quiet_step (fail)
          go_big_quiet_step (fail)
          go_big_quiet_want
          refine quiet_load_ty 64 (.tmp 33) rfl rfl (fun W hW => by obtain ⟨k, rfl⟩ := hW; exact l1 k) ?_
          intro a' ha'
          simp only [Act.put, List.setIfInBounds_toArray, List.set_cons_succ, List.set_cons_zero] at ha'
          subst ha'
          go_big_quiet_on
          go_big_quiet_step (fail)
          go_big_quiet_step (fail)
          go_big_quiet_step (fail)
          go_big_quiet_step (fail)
          go_big_quiet_want
          refine quiet_load_ty 64 (.tmp 38) rfl rfl (fun W hW => by obtain ⟨k, rfl⟩ := hW; exact l2 k) ?_
          intro a' ha'
          simp only [Act.put, List.setIfInBounds_toArray, List.set_cons_succ, List.set_cons_zero] at ha'
          subst ha'
          go_big_quiet_on
          go_big_quiet_want
          refine quiet_neq_ty 64 (.tmp 34) (.tmp 39) rfl HT1.out HT2.out rg_guard HNq.out rfl rfl ?_
          intro a' ha'
          simp only [Act.put, List.setIfInBounds_toArray, List.set_cons_succ, List.set_cons_zero] at ha'
          subst ha'
          go_big_quiet_on
          refine wpQuiet_nil ?_
          intro W1 hw1'
          obtain ⟨nq, hw2'⟩ := hw1'
          subst hw2'
          have HB1 : Hid (Below W.heap.size W (wr.drewN nq)) := HB.out.trans ⟨rfl, rfl, rfl, Nat.le_refl _, fun _ _ => rfl⟩
          clear HB l1 l2
          generalize (wr.drewN nq) = W1 at *
          go_wp2_with fail
          go_roundw
          case rel => exact ⟨i + 1, by omega, rfl, HNz, HB1⟩
          case measure => simp [intOf]; omega
        · have HNq : Hid (∀ w, (binOp .neq 64 (.agg (rgE x).toArray) (.agg (rgE y).toArray)).run Tryz.prog w = .ok (.bool true) w) := fun w => by
            rw [rg_neq, decide_eq_false (fun h => hxy ((rg_iff x y).1 h))]
            rfl
          have HNz := Lib.hid (HNo.out hxy)
          go_upto_region 6 with fail
          refine wp_region_quiet_lit (by kernel_rfl) (by kernel_rfl) ?_
          go_big_quiet_step (fail)
          go_big_quiet_step (fail)
          go_big_quiet_step (fail)
          go_big_quiet_step (fail)
          go_big_quiet_want
          refine quiet_load_ty 64 (.tmp 33) rfl rfl (fun W hW => by obtain ⟨k, rfl⟩ := hW; exact l1 k) ?_
          intro a' ha'
          simp only [Act.put, List.setIfInBounds_toArray, List.set_cons_succ, List.set_cons_zero] at ha'
          subst ha'
          go_big_quiet_on
          go_big_quiet_step (fail)
          go_big_quiet_step (fail)
          go_big_quiet_step (fail)
          go_big_quiet_step (fail)
          go_big_quiet_want
          refine quiet_load_ty 64 (.tmp 38) rfl rfl (fun W hW => by obtain ⟨k, rfl⟩ := hW; exact l2 k) ?_
          intro a' ha'
          simp only [Act.put, List.setIfInBounds_toArray, List.set_cons_succ, List.set_cons_zero] at ha'
          subst ha'
          go_big_quiet_on
          go_big_quiet_want
          refine quiet_neq_ty 64 (.tmp 34) (.tmp 39) rfl HT1.out HT2.out rg_guard HNq.out rfl rfl ?_
          intro a' ha'
          simp only [Act.put, List.setIfInBounds_toArray, List.set_cons_succ, List.set_cons_zero] at ha'
          subst ha'
          go_big_quiet_on
          refine wpQuiet_nil ?_
          intro W1 hw1'
          obtain ⟨nq, hw2'⟩ := hw1'
          subst hw2'
          have HB1 : Hid (Below W.heap.size W (wr.drewN nq)) := HB.out.trans ⟨rfl, rfl, rfl, Nat.le_refl _, fun _ _ => rfl⟩
          clear HB l1 l2
          generalize (wr.drewN nq) = W1 at *
          go_wp2_with fail
          go_ret
          exact YN.no (fun hp => HNz.out hp.1) (HB9.out.trans (HB1.out.mono HB9.out.size))
      have ji : ¬ (i : Int) < (n1 : Int) := by omega
      have HFin : Hid (xs1 = ys1) := list_eq_of (by rw [HN1.out, HM1.out]) (fun j h1 h2 => HEq.out j h1 h2 (by rw [HN1.out] at h1; omega))
      have HF1 := HFin
      clear HFin HEq
      go_wp2_with fail
      clear c1 c2 ji hin hi
      have HB0 := HB
      clear HB
      generalize wr = w5 at *
      go_loopw [6] (fun iv wr => ∃ i : Nat, i ≤ n2 ∧ iv = .int .i64 (i : Int) ∧ Hid (∀ j (h1 : j < xs2.length) (h2 : j < ys2.length), j < i → xs2[j] = ys2[j]) ∧ Hid (Below W.heap.size W wr)) (fun iv _ => n2 - (intOf iv).toNat)
      case atStart => exact ⟨0, by omega, rfl, (fun j _ _ h => absurd h (Nat.not_lt_zero _)), HB0⟩
      clear HB0
      obtain ⟨i, hi, rfl, HEq, HB⟩ := hrel
      have c1 := cell_low HB.out HC2.out
      have c2 := cell_low HB.out HD2.out
      by_cases hin : i < n2
      · have ji : (i : Int) < (n2 : Int) := by omega
        have hix : i < xs2.length := by rw [HN2.out]; exact hin
        have hiy : i < ys2.length := by rw [HM2.out]; exact hin
        have hw1 : IntKind.i64.wrap ((i : Int) + 1) = ((i + 1 : Nat) : Int) := by rw [IntKind.wrap_i64]; omega
        obtain ⟨_, _, e', _, _, hc⟩ := HX2.out.below HB.out
        simp only [Value.slice.injEq] at e'
        obtain ⟨rfl, e9, rfl⟩ := e'
        clear e9
        obtain ⟨b, of, rfl, _, hc⟩ := hc i hix
        obtain ⟨_, _, e', _, _, hd⟩ := HY2.out.below HB.out
        simp only [Value.slice.injEq] at e'
        obtain ⟨rfl, e9, rfl⟩ := e'
        clear e9
        obtain ⟨b', of', rfl, _, hd⟩ := hd i hiy
        have HNx : Hid (xs2[i] = ys2[i] → ∀ j (h1 : j < xs2.length) (h2 : j < ys2.length), j < i + 1 → xs2[j] = ys2[j]) := fun e j h1 h2 h3 => by
          by_cases h : j = i
          · subst h; exact e
          · exact HEq.out j h1 h2 (by omega)
        have HNo : Hid (xs2[i] ≠ ys2[i] → ¬ xs2 = ys2) := fun e h => e (by subst h; rfl)
        generalize xs2[i] = x at *
        generalize ys2[i] = y at *
        obtain ⟨T1, hT1⟩ : ∃ T1, Value.agg (rgE x).toArray = T1 := ⟨_, rfl⟩
        obtain ⟨T2, hT2⟩ : ∃ T2, Value.agg (rgE y).toArray = T2 := ⟨_, rfl⟩
        have l1 : ∀ k, (Instr.loadAt 64 (.pointer (some ⟨b, of + i * 2, none⟩))).run Tryz.prog (wr.drewN k) = .ok T1 (wr.drewN k) := fun k => by
          rw [← hT1]
          exact rg_load (w := wr.drewN k) hc
        have l2 : ∀ k, (Instr.loadAt 64 (.pointer (some ⟨b', of' + i * 2, none⟩))).run Tryz.prog (wr.drewN k) = .ok T2 (wr.drewN k) := fun k => by
          rw [← hT2]
          exact rg_load (w := wr.drewN k) hd
        have HT1 := Lib.hid hT1.symm
        have HT2 := Lib.hid hT2.symm
        clear hT1 hT2 hc hd
        by_cases hxy : x = y
        · have HNq : Hid (∀ w, (binOp .neq 64 (.agg (rgE x).toArray) (.agg (rgE y).toArray)).run Tryz.prog w = .ok (.bool false) w) := fun w => by
            rw [rg_neq, decide_eq_true ((rg_iff x y).2 hxy)]
            rfl
          have HNz := Lib.hid (HNx.out hxy)
          go_upto_region 11 with fail
          refine wp_region_quiet_lit (by kernel_rfl) (by kernel_rfl) ?_
          go_big_quiet_step (fail)
          go_big_quiet_step (fail)
          go_big_quiet_step (fail)
          go_big_quiet_step (fail)
          go_big_quiet_want
          refine quiet_load_ty 64 (.tmp 51) rfl rfl (fun W hW => by obtain ⟨k, rfl⟩ := hW; exact l1 k) ?_
          intro a' ha'
          simp only [Act.put, List.setIfInBounds_toArray, List.set_cons_succ, List.set_cons_zero] at ha'
          subst ha'
          go_big_quiet_on
          go_big_quiet_step (fail)
          go_big_quiet_step (fail)
          go_big_quiet_step (fail)
          go_big_quiet_step (fail)
          go_big_quiet_want
          refine quiet_load_ty 64 (.tmp 56) rfl rfl (fun W hW => by obtain ⟨k, rfl⟩ := hW; exact l2 k) ?_
          intro a' ha'
          simp only [Act.put, List.setIfInBounds_toArray, List.set_cons_succ, List.set_cons_zero] at ha'
          subst ha'
          go_big_quiet_on
          go_big_quiet_want
          refine quiet_neq_ty 64 (.tmp 52) (.tmp 57) rfl HT1.out HT2.out rg_guard HNq.out rfl rfl ?_
          intro a' ha'
          simp only [Act.put, List.setIfInBounds_toArray, List.set_cons_succ, List.set_cons_zero] at ha'
          subst ha'
          go_big_quiet_on
          refine wpQuiet_nil ?_
          intro W1 hw1'
          obtain ⟨nq, hw2'⟩ := hw1'
          subst hw2'
          have HB1 : Hid (Below W.heap.size W (wr.drewN nq)) := HB.out.trans ⟨rfl, rfl, rfl, Nat.le_refl _, fun _ _ => rfl⟩
          clear HB l1 l2
          generalize (wr.drewN nq) = W1 at *
          go_wp2_with fail
          go_roundw
          case rel => exact ⟨i + 1, by omega, rfl, HNz, HB1⟩
          case measure => simp [intOf]; omega
        · have HNq : Hid (∀ w, (binOp .neq 64 (.agg (rgE x).toArray) (.agg (rgE y).toArray)).run Tryz.prog w = .ok (.bool true) w) := fun w => by
            rw [rg_neq, decide_eq_false (fun h => hxy ((rg_iff x y).1 h))]
            rfl
          have HNz := Lib.hid (HNo.out hxy)
          go_upto_region 11 with fail
          refine wp_region_quiet_lit (by kernel_rfl) (by kernel_rfl) ?_
          go_big_quiet_step (fail)
          go_big_quiet_step (fail)
          go_big_quiet_step (fail)
          go_big_quiet_step (fail)
          go_big_quiet_want
          refine quiet_load_ty 64 (.tmp 51) rfl rfl (fun W hW => by obtain ⟨k, rfl⟩ := hW; exact l1 k) ?_
          intro a' ha'
          simp only [Act.put, List.setIfInBounds_toArray, List.set_cons_succ, List.set_cons_zero] at ha'
          subst ha'
          go_big_quiet_on
          go_big_quiet_step (fail)
          go_big_quiet_step (fail)
          go_big_quiet_step (fail)
          go_big_quiet_step (fail)
          go_big_quiet_want
          refine quiet_load_ty 64 (.tmp 56) rfl rfl (fun W hW => by obtain ⟨k, rfl⟩ := hW; exact l2 k) ?_
          intro a' ha'
          simp only [Act.put, List.setIfInBounds_toArray, List.set_cons_succ, List.set_cons_zero] at ha'
          subst ha'
          go_big_quiet_on
          go_big_quiet_want
          refine quiet_neq_ty 64 (.tmp 52) (.tmp 57) rfl HT1.out HT2.out rg_guard HNq.out rfl rfl ?_
          intro a' ha'
          simp only [Act.put, List.setIfInBounds_toArray, List.set_cons_succ, List.set_cons_zero] at ha'
          subst ha'
          go_big_quiet_on
          refine wpQuiet_nil ?_
          intro W1 hw1'
          obtain ⟨nq, hw2'⟩ := hw1'
          subst hw2'
          have HB1 : Hid (Below W.heap.size W (wr.drewN nq)) := HB.out.trans ⟨rfl, rfl, rfl, Nat.le_refl _, fun _ _ => rfl⟩
          clear HB l1 l2
          generalize (wr.drewN nq) = W1 at *
          go_wp2_with fail
          go_ret
          exact YN.no (fun hp => HNz.out hp.2) (HB9.out.trans (HB1.out.mono HB9.out.size))
      have ji : ¬ (i : Int) < (n2 : Int) := by omega
      have HFin : Hid (xs2 = ys2) := list_eq_of (by rw [HN2.out, HM2.out]) (fun j h1 h2 => HEq.out j h1 h2 (by rw [HN2.out] at h1; omega))
      go_wp2_with fail
      go_ret
      exact YN.yes ⟨HF1.out, HFin.out⟩ (HB9.out.trans (HB.out.mono HB9.out.size))
    · have jn : ¬ (n2 : Int) = (m2 : Int) := by omega
      subst e1
      have HB9 : Hid (∀ W, Below w.heap.size (w.alloc (.cells #[.slice a1 n1 p1, .slice a2 n2 p2] 25)) W → Below w.heap.size w W) := fun W h => ((Below.refl _ _).alloc (Nat.le_refl _) _).trans h
      have s1 : w.heap.size ≤ (w.alloc (.cells #[.slice a1 n1 p1, .slice a2 n2 p2] 25)).heap.size := by simp
      have HS := Lib.hid s1
      clear s1
      go_enter Tryz.func44, Tryz.ntmps44
      go_wp2_with fail
      go_ret
      exact YN.no (fun hp => e2 (by rw [← HN2.out, ← HM2.out, hp.2])) (HB9.out _ ((Below.refl _ _).alloc HS.out _))
  · have jn : ¬ (n1 : Int) = (m1 : Int) := by omega
    have HB9 : Hid (∀ W, Below w.heap.size (w.alloc (.cells #[.slice a1 n1 p1, .slice a2 n2 p2] 25)) W → Below w.heap.size w W) := fun W h => ((Below.refl _ _).alloc (Nat.le_refl _) _).trans h
    have s1 : w.heap.size ≤ (w.alloc (.cells #[.slice a1 n1 p1, .slice a2 n2 p2] 25)).heap.size := by simp
    have HS := Lib.hid s1
    clear s1
    go_enter Tryz.func44, Tryz.ntmps44
    go_wp2_with fail
    go_ret
    exact YN.no (fun hp => e1 (by rw [← HN1.out, ← HM1.out, hp.1])) (HB9.out _ ((Below.refl _ _).alloc HS.out _))
end Go.Proofs.YtmfkggngjeolcaaGreatDoor
/- Bundle: the document's samePlans, exactly (written by parts/gen_bnspl.py). Own work. -/
namespace Go.Proofs.YtmfkggngjeolcaaGreatDoor
open Go.RowKit Bn
set_option linter.unusedVariables false
set_option linter.unusedSimpArgs false
theorem list_at {α : Type} {l m : List α} (h : l = m) {i : Nat} (h1 : i < l.length) (h2 : i < m.length) : l[i] = m[i] := by subst h; rfl
theorem sc_eq {X Y : Sc} (h1 : X.maj = Y.maj) (h2 : X.lanes = Y.lanes) : X = Y := by
  cases X; cases Y; simp at h1 h2; simp [h1, h2]
set_option maxRecDepth 100000 in
set_option maxHeartbeats 8000000 in
theorem samePlansX {w : World} {u v : Value} {xs ys : List Sc} (hu : PlG w u xs) (hv : PlG w v ys) : Calls Tryz.prog 46 #[u, v] w (YN (xs = ys) w) := by
  have HU := Lib.hid hu
  have HV := Lib.hid hv
  obtain ⟨ao, cap, rfl, h1, h2, _⟩ := hu
  obtain ⟨bo, bap, rfl, g1, g2, _⟩ := hv
  unfold maxLen at h2 g2
  obtain ⟨n, hn⟩ : ∃ n, xs.length = n := ⟨_, rfl⟩
  obtain ⟨m, hm⟩ : ∃ m, ys.length = m := ⟨_, rfl⟩
  have HN := Lib.hid hn
  have HM := Lib.hid hm
  rw [hn] at h1 HU ⊢
  rw [hm] at g1 HV ⊢
  clear hn hm
  have HB0 : Hid (Below w.heap.size w w) := Below.refl _ _
  by_cases hnm : n = m
  · subst hnm
    go_enter Tryz.func46, Tryz.ntmps46
    go_wp2_with fail
    go_loopw [5] (fun iv wr => ∃ i : Nat, i ≤ n ∧ iv = .int .i64 (i : Int) ∧ Hid (∀ j (h1 : j < xs.length) (h2 : j < ys.length), j < i → xs[j] = ys[j]) ∧ Hid (Below w.heap.size w wr)) (fun iv _ => n - (intOf iv).toNat)
    case atStart => exact ⟨0, by omega, rfl, (fun j _ _ h => absurd h (Nat.not_lt_zero _)), HB0⟩
    clear HB0
    obtain ⟨i, hi, rfl, HEq, HB⟩ := hrel
    by_cases hin : i < n
    · have ji : (i : Int) < (n : Int) := by omega
      have hix : i < xs.length := by rw [HN.out]; exact hin
      have hiy : i < ys.length := by rw [HM.out]; exact hin
      have hw1 : IntKind.i64.wrap ((i : Int) + 1) = ((i + 1 : Nat) : Int) := by rw [IntKind.wrap_i64]; omega
      obtain ⟨_, _, e', _, _, hc⟩ := HU.out.below HB.out
      simp only [Value.slice.injEq] at e'
      obtain ⟨rfl, e9, rfl⟩ := e'
      clear e9
      obtain ⟨b, of, u, rfl, cm, cl, hL⟩ := hc i hix
      obtain ⟨_, _, e', _, _, hd⟩ := HV.out.below HB.out
      simp only [Value.slice.injEq] at e'
      obtain ⟨rfl, e9, rfl⟩ := e'
      clear e9
      obtain ⟨b', of', u', rfl, dm, dl, hM⟩ := hd i hiy
      have HNx : Hid (xs[i] = ys[i] → ∀ t (h1 : t < xs.length) (h2 : t < ys.length), t < i + 1 → xs[t] = ys[t]) := fun e t h1 h2 h3 => by
        by_cases h : t = i
        · subst h; exact e
        · exact HEq.out t h1 h2 (by omega)
      have HNo : Hid (xs[i] ≠ ys[i] → ¬ xs = ys) := fun e h => e (list_at h _ _)
      generalize xs[i] = X at *
      generalize ys[i] = Y at *
      have HL := Lib.hid hL
      have HL2 := Lib.hid hM
      obtain ⟨la, lc, rfl, k1, k2, _⟩ := hL
      obtain ⟨ma, mc, rfl, k3, k4, _⟩ := hM
      unfold maxLen at k2 k4
      obtain ⟨p, hp⟩ : ∃ p, X.lanes.length = p := ⟨_, rfl⟩
      obtain ⟨r, hr⟩ : ∃ r, Y.lanes.length = r := ⟨_, rfl⟩
      have HP := Lib.hid hp
      have HR := Lib.hid hr
      rw [hp] at k1 cl HL
      rw [hr] at k3 dl HL2
      obtain ⟨xm, hxm⟩ : ∃ x, X.maj = x := ⟨_, rfl⟩
      obtain ⟨ym, hym⟩ : ∃ x, Y.maj = x := ⟨_, rfl⟩
      have HXm := Lib.hid hxm
      have HYm := Lib.hid hym
      rw [hxm] at cm
      rw [hym] at dm
      clear hp hr hxm hym
      generalize wr = w1 at *
      have HBa := HB
      by_cases em : xm = ym
      · by_cases el : p = r
        · subst em el
          have HCl := Lib.hid cl
          have HDl := Lib.hid dl
          go_upto_region 6 with fail
          go_quiet (fail)
          have HB0 : Hid (Below w1.heap.size w1 (w1.drewN nq)) := ⟨rfl, rfl, rfl, Nat.le_refl _, fun _ _ => rfl⟩
          clear cm dm cl dl
          generalize (w1.drewN nq) = w5 at *
          go_wp2_with fail
          go_loopw [6] (fun iv wr => ∃ j : Nat, j ≤ p ∧ iv = .int .i64 (j : Int) ∧ Hid (∀ t (h1 : t < X.lanes.length) (h2 : t < Y.lanes.length), t < j → X.lanes[t] = Y.lanes[t]) ∧ Hid (Below w1.heap.size w1 wr)) (fun iv _ => p - (intOf iv).toNat)
          case atStart => exact ⟨0, by omega, rfl, (fun j _ _ h => absurd h (Nat.not_lt_zero _)), HB0⟩
          clear HB0
          obtain ⟨j, hj, rfl, HEq2, HB2⟩ := hrel
          have c1 := cell_low HB2.out HCl.out
          have c2 := cell_low HB2.out HDl.out
          by_cases hjp : j < p
          · have jj : (j : Int) < (p : Int) := by omega
            have hjx : j < X.lanes.length := by rw [HP.out]; exact hjp
            have hjy : j < Y.lanes.length := by rw [HR.out]; exact hjp
            have hw2 : IntKind.i64.wrap ((j : Int) + 1) = ((j + 1 : Nat) : Int) := by rw [IntKind.wrap_i64]; omega
            obtain ⟨_, _, e', _, _, hc⟩ := HL.out.below HB2.out
            simp only [Value.slice.injEq] at e'
            obtain ⟨rfl, e9, rfl⟩ := e'
            clear e9
            obtain ⟨lb, lo, u, rfl, e1, hA⟩ := hc j hjx
            obtain ⟨_, _, e', _, _, hd⟩ := HL2.out.below HB2.out
            simp only [Value.slice.injEq] at e'
            obtain ⟨rfl, e9, rfl⟩ := e'
            clear e9
            obtain ⟨lb', lo', u', rfl, e2, hB⟩ := hd j hjy
            have HNx2 : Hid (X.lanes[j] = Y.lanes[j] → ∀ t (h1 : t < X.lanes.length) (h2 : t < Y.lanes.length), t < j + 1 → X.lanes[t] = Y.lanes[t]) := fun e t h1 h2 h3 => by
              by_cases h : t = j
              · subst h; exact e
              · exact HEq2.out t h1 h2 (by omega)
            have HNo2 : Hid (X.lanes[j] ≠ Y.lanes[j] → ¬ X.lanes = Y.lanes) := fun e h => e (list_at h _ _)
            generalize X.lanes[j] = La at *
            generalize Y.lanes[j] = Lb at *
            have HA := Lib.hid hA
            have HAb := Lib.hid hB
            obtain ⟨ra, rc, rfl, y1, y2, _⟩ := hA
            obtain ⟨sa, sc, rfl, y3, y4, _⟩ := hB
            unfold maxLen at y2 y4
            obtain ⟨q, hq⟩ : ∃ p, La.length = p := ⟨_, rfl⟩
            obtain ⟨s, hs⟩ : ∃ r, Lb.length = r := ⟨_, rfl⟩
            have HQ := Lib.hid hq
            have HS := Lib.hid hs
            rw [hq] at y1 e1 HA
            rw [hs] at y3 e2 HAb
            clear hq hs
            generalize wr = w2 at *
            by_cases eq : q = s
            · subst eq
              have HC1 := Lib.hid c1
              have HC2 := Lib.hid c2
              have HE1 := Lib.hid e1
              have HE2 := Lib.hid e2
              go_upto_region 11 with fail
              go_quiet (fail)
              have HB0 : Hid (Below w2.heap.size w2 (w2.drewN nq)) := ⟨rfl, rfl, rfl, Nat.le_refl _, fun _ _ => rfl⟩
              clear c1 c2 e1 e2
              generalize (w2.drewN nq) = w6 at *
              go_wp2_with fail
              go_loopw [7] (fun iv wr => ∃ k : Nat, k ≤ q ∧ iv = .int .i64 (k : Int) ∧ Hid (∀ t (h1 : t < La.length) (h2 : t < Lb.length), t < k → La[t] = Lb[t]) ∧ Hid (Below w2.heap.size w2 wr)) (fun iv _ => q - (intOf iv).toNat)
              case atStart => exact ⟨0, by omega, rfl, (fun j _ _ h => absurd h (Nat.not_lt_zero _)), HB0⟩
              clear HB0
              obtain ⟨k, hk, rfl, HEq3, HB3⟩ := hrel
              have c1 := cell_low HB3.out HC1.out
              have c2 := cell_low HB3.out HC2.out
              have c3 := cell_low HB3.out HE1.out
              have c4 := cell_low HB3.out HE2.out
              by_cases hkq : k < q
              · have jk : (k : Int) < (q : Int) := by omega
                have hkx : k < La.length := by rw [HQ.out]; exact hkq
                have hky : k < Lb.length := by rw [HS.out]; exact hkq
                have hw3 : IntKind.i64.wrap ((k : Int) + 1) = ((k + 1 : Nat) : Int) := by rw [IntKind.wrap_i64]; omega
                obtain ⟨_, _, e', _, _, hc⟩ := HA.out.below HB3.out
                simp only [Value.slice.injEq] at e'
                obtain ⟨rfl, e9, rfl⟩ := e'
                clear e9
                obtain ⟨tb, tu, rfl, _, hc⟩ := hc k hkx
                obtain ⟨_, _, e', _, _, hd⟩ := HAb.out.below HB3.out
                simp only [Value.slice.injEq] at e'
                obtain ⟨rfl, e9, rfl⟩ := e'
                clear e9
                obtain ⟨tb', tu', rfl, _, hd⟩ := hd k hky
                have HNx3 : Hid (La[k] = Lb[k] → ∀ t (h1 : t < La.length) (h2 : t < Lb.length), t < k + 1 → La[t] = Lb[t]) := fun e t h1 h2 h3 => by
                  by_cases h : t = k
                  · subst h; exact e
                  · exact HEq3.out t h1 h2 (by omega)
                have HNo3 : Hid (La[k] ≠ Lb[k] → ¬ La = Lb) := fun e h => e (list_at h _ _)
                generalize La[k] = x at *
                generalize Lb[k] = y at *
                obtain ⟨T1, hT1⟩ : ∃ T1, Value.agg (stE x).toArray = T1 := ⟨_, rfl⟩
                obtain ⟨T2, hT2⟩ : ∃ T2, Value.agg (stE y).toArray = T2 := ⟨_, rfl⟩
                have l1 : ∀ z, (Instr.loadAt 74 (.pointer (some ⟨tb, tu + k * 2, none⟩))).run Tryz.prog (wr.drewN z) = .ok T1 (wr.drewN z) := fun z => by
                  rw [← hT1]
                  exact st_load (w := wr.drewN z) hc
                have l2 : ∀ z, (Instr.loadAt 74 (.pointer (some ⟨tb', tu' + k * 2, none⟩))).run Tryz.prog (wr.drewN z) = .ok T2 (wr.drewN z) := fun z => by
                  rw [← hT2]
                  exact st_load (w := wr.drewN z) hd
                have HT1 := Lib.hid hT1.symm
                have HT2 := Lib.hid hT2.symm
                have HB := HB3
                clear hT1 hT2 hc hd HB3
                by_cases hxy : x = y
                · have HNq : Hid (∀ w, (binOp .neq 74 (.agg (stE x).toArray) (.agg (stE y).toArray)).run Tryz.prog w = .ok (.bool false) w) := fun w => by
                    rw [st_neq, decide_eq_true ((st_iff x y).2 hxy)]
                    rfl
                  have HNz := Lib.hid (HNx3.out hxy)
                  go_upto_region 16 with fail
                  refine wp_region_quiet_lit (by kernel_rfl) (by kernel_rfl) ?_
                  go_big_quiet_step (fail)
                  go_big_quiet_step (fail)
                  go_big_quiet_step (fail)
                  go_big_quiet_step (fail)
                  go_big_quiet_step (fail)
                  go_big_quiet_step (fail)
                  go_big_quiet_step (fail)
                  go_big_quiet_step (fail)
                  go_big_quiet_step (fail)
                  go_big_quiet_step (fail)
                  go_big_quiet_want
                  refine quiet_load_ty 74 (.tmp 96) rfl rfl (fun W hW => by obtain ⟨k, rfl⟩ := hW; exact l1 k) ?_
                  intro a' ha'
                  simp only [Act.put, List.setIfInBounds_toArray, List.set_cons_succ, List.set_cons_zero] at ha'
                  subst ha'
                  go_big_quiet_on
                  go_big_quiet_step (fail)
                  go_big_quiet_step (fail)
                  go_big_quiet_step (fail)
                  go_big_quiet_step (fail)
                  go_big_quiet_step (fail)
                  go_big_quiet_step (fail)
                  go_big_quiet_step (fail)
                  go_big_quiet_step (fail)
                  go_big_quiet_step (fail)
                  go_big_quiet_step (fail)
                  go_big_quiet_want
                  refine quiet_load_ty 74 (.tmp 107) rfl rfl (fun W hW => by obtain ⟨k, rfl⟩ := hW; exact l2 k) ?_
                  intro a' ha'
                  simp only [Act.put, List.setIfInBounds_toArray, List.set_cons_succ, List.set_cons_zero] at ha'
                  subst ha'
                  go_big_quiet_on
                  go_big_quiet_want
                  refine quiet_neq_ty 74 (.tmp 97) (.tmp 108) rfl HT1.out HT2.out st_guard HNq.out rfl rfl ?_
                  intro a' ha'
                  simp only [Act.put, List.setIfInBounds_toArray, List.set_cons_succ, List.set_cons_zero] at ha'
                  subst ha'
                  go_big_quiet_on
                  refine wpQuiet_nil ?_
                  intro W1 hw1'
                  obtain ⟨nq, hw2'⟩ := hw1'
                  subst hw2'
                  have HB1 : Hid (Below w2.heap.size w2 (wr.drewN nq)) := HB.out.trans ⟨rfl, rfl, rfl, Nat.le_refl _, fun _ _ => rfl⟩
                  clear HB l1 l2
                  generalize (wr.drewN nq) = W1 at *
                  go_wp2_with fail
                  go_roundw
                  case rel => exact ⟨k + 1, by omega, rfl, HNz, HB1⟩
                  case measure => simp [intOf]; omega
                · have HNq : Hid (∀ w, (binOp .neq 74 (.agg (stE x).toArray) (.agg (stE y).toArray)).run Tryz.prog w = .ok (.bool true) w) := fun w => by
                    rw [st_neq, decide_eq_false (fun h => hxy ((st_iff x y).1 h))]
                    rfl
                  have HNz : Hid (¬ xs = ys) := HNo.out (fun h => HNo2.out (HNo3.out hxy) (by rw [h]))
                  have HBo : Hid (∀ W, Below w2.heap.size w2 W → Below w.heap.size w W) := fun W h => HBa.out.trans ((HB2.out.trans (h.mono HB2.out.size)).mono HBa.out.size)
                  go_upto_region 16 with fail
                  refine wp_region_quiet_lit (by kernel_rfl) (by kernel_rfl) ?_
                  go_big_quiet_step (fail)
                  go_big_quiet_step (fail)
                  go_big_quiet_step (fail)
                  go_big_quiet_step (fail)
                  go_big_quiet_step (fail)
                  go_big_quiet_step (fail)
                  go_big_quiet_step (fail)
                  go_big_quiet_step (fail)
                  go_big_quiet_step (fail)
                  go_big_quiet_step (fail)
                  go_big_quiet_want
                  refine quiet_load_ty 74 (.tmp 96) rfl rfl (fun W hW => by obtain ⟨k, rfl⟩ := hW; exact l1 k) ?_
                  intro a' ha'
                  simp only [Act.put, List.setIfInBounds_toArray, List.set_cons_succ, List.set_cons_zero] at ha'
                  subst ha'
                  go_big_quiet_on
                  go_big_quiet_step (fail)
                  go_big_quiet_step (fail)
                  go_big_quiet_step (fail)
                  go_big_quiet_step (fail)
                  go_big_quiet_step (fail)
                  go_big_quiet_step (fail)
                  go_big_quiet_step (fail)
                  go_big_quiet_step (fail)
                  go_big_quiet_step (fail)
                  go_big_quiet_step (fail)
                  go_big_quiet_want
                  refine quiet_load_ty 74 (.tmp 107) rfl rfl (fun W hW => by obtain ⟨k, rfl⟩ := hW; exact l2 k) ?_
                  intro a' ha'
                  simp only [Act.put, List.setIfInBounds_toArray, List.set_cons_succ, List.set_cons_zero] at ha'
                  subst ha'
                  go_big_quiet_on
                  go_big_quiet_want
                  refine quiet_neq_ty 74 (.tmp 97) (.tmp 108) rfl HT1.out HT2.out st_guard HNq.out rfl rfl ?_
                  intro a' ha'
                  simp only [Act.put, List.setIfInBounds_toArray, List.set_cons_succ, List.set_cons_zero] at ha'
                  subst ha'
                  go_big_quiet_on
                  refine wpQuiet_nil ?_
                  intro W1 hw1'
                  obtain ⟨nq, hw2'⟩ := hw1'
                  subst hw2'
                  have HB1 : Hid (Below w2.heap.size w2 (wr.drewN nq)) := HB.out.trans ⟨rfl, rfl, rfl, Nat.le_refl _, fun _ _ => rfl⟩
                  clear HB l1 l2
                  generalize (wr.drewN nq) = W1 at *
                  go_wp2_with fail
                  go_ret
                  exact YN.no HNz.out (HBo.out _ HB1.out)
              · have jk : ¬ (k : Int) < (q : Int) := by omega
                have HFin : Hid (La = Lb) := list_eq_of (by rw [HQ.out, HS.out]) (fun t h1 h2 => HEq3.out t h1 h2 (by rw [HQ.out] at h1; omega))
                have HNz := Lib.hid (HNx2.out HFin.out)
                have HB4 : Hid (Below w1.heap.size w1 wr) := HB2.out.trans (HB3.out.mono HB2.out.size)
                go_wp2_with fail
                go_roundw
                case rel => exact ⟨j + 1, by omega, rfl, HNz, HB4⟩
                case measure => simp [intOf]; omega
            · have je : ¬ (q : Int) = (s : Int) := by omega
              have HNz : Hid (¬ xs = ys) := HNo.out (fun h => HNo2.out (fun h' => eq (by rw [← HQ.out, ← HS.out, h'])) (by rw [h]))
              go_upto_region 11 with fail
              go_quiet (fail)
              have HB4 : Hid (Below w1.heap.size w1 (w2.drewN nq)) := HB2.out.trans ⟨rfl, rfl, rfl, Nat.le_refl _, fun _ _ => rfl⟩
              clear c1 c2 e1 e2
              generalize (w2.drewN nq) = w6 at *
              go_wp2_with fail
              go_ret
              exact YN.no HNz.out (HBa.out.trans (HB4.out.mono HBa.out.size))
          · have jj : ¬ (j : Int) < (p : Int) := by omega
            have HFin : Hid (X.lanes = Y.lanes) := list_eq_of (by rw [HP.out, HR.out]) (fun t h1 h2 => HEq2.out t h1 h2 (by rw [HP.out] at h1; omega))
            have HNz := Lib.hid (HNx.out (sc_eq (by rw [HXm.out, HYm.out]) HFin.out))
            have HB4 : Hid (Below w.heap.size w wr) := HBa.out.trans (HB2.out.mono HBa.out.size)
            go_wp2_with fail
            go_roundw
            case rel => exact ⟨i + 1, by omega, rfl, HNz, HB4⟩
            case measure => simp [intOf]; omega
        · have je : ¬ (p : Int) = (r : Int) := by omega
          have HNz : Hid (¬ xs = ys) := HNo.out (fun h => el (by rw [← HP.out, ← HR.out, h]))
          subst em
          go_upto_region 6 with fail
          go_quiet (fail)
          have HB4 : Hid (Below w.heap.size w (w1.drewN nq)) := HBa.out.trans ⟨rfl, rfl, rfl, Nat.le_refl _, fun _ _ => rfl⟩
          clear cm dm cl dl
          generalize (w1.drewN nq) = w6 at *
          go_wp2_with fail
          go_ret
          exact YN.no HNz.out HB4.out
      · have HNz : Hid (¬ xs = ys) := HNo.out (fun h => em (by rw [← HXm.out, ← HYm.out, h]))
        go_upto_region 6 with fail
        go_quiet (fail)
        have HB4 : Hid (Below w.heap.size w (w1.drewN nq)) := HBa.out.trans ⟨rfl, rfl, rfl, Nat.le_refl _, fun _ _ => rfl⟩
        clear cm dm cl dl
        generalize (w1.drewN nq) = w6 at *
        go_wp2_with fail
        go_ret
        exact YN.no HNz.out HB4.out
    · have ji : ¬ (i : Int) < (n : Int) := by omega
      have HFin : Hid (xs = ys) := list_eq_of (by rw [HN.out, HM.out]) (fun j h1 h2 => HEq.out j h1 h2 (by rw [HN.out] at h1; omega))
      go_wp2_with fail
      go_ret
      exact YN.yes HFin.out HB.out
  · have jn : ¬ (n : Int) = (m : Int) := by omega
    have HNe : Hid (¬ xs = ys) := fun h => hnm (by rw [← HN.out, ← HM.out, h])
    go_enter Tryz.func46, Tryz.ntmps46
    go_wp2_with fail
    go_ret
    exact YN.no HNe.out HB0.out
end Go.Proofs.YtmfkggngjeolcaaGreatDoor
