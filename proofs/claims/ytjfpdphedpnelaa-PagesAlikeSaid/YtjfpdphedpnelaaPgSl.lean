/- Pages: lists of leaves that are the same. Own work. -/
import Derived.Test.YtjfpdphedpnelaaPgSm
namespace Go.Proofs.Ytjfpdphedpnelaa
open Go.RowKit Wk
set_option linter.unusedVariables false
theorem leaf_equal (x : L6) (w : World) : (Op.equalIn 10000 34 (V6 x) (V6 x)).run Try.prog w = .ok true w := by
  obtain ⟨v, p, n, b, wr, ex⟩ := x
  have u1 := Try.underlying4
  have a1 := Try.isAgg4
  have z1 := Try.sizeOf4
  have u := Try.underlying23
  have a2 := Try.isAgg23
  have z := Try.sizeOf23
  have u3 := Try.underlying3
  have a3 := Try.isAgg3
  have z3 := Try.sizeOf3
  have hS : Try.prog.underlying 34 = some (.struct (Try.prog.fieldsOf 34)) := by kernel_rfl
  have hp : Try.prog.stoodInHeld 34 = false := by kernel_rfl
  rw [V6, show (10000 : Nat) = 9999 + 1 from rfl, run_equalIn_agg w 9999 34 _ _ hS hp]
  simp only [Program.fieldsOf, Try.underlying34]
  go_simp
theorem leaf_neq (x : L6) (w : World) : (binOp .neq 34 (V6 x) (V6 x)).run Try.prog w = .ok (.bool false) w := by
  have := leaf_equal x w
  rw [V6] at *
  rw [run_neq_struct, this]
  rfl
theorem guard_leaf : Try.prog.eqGuardType Try.prog.depth 34 = false := by kernel_rfl
theorem quiet_load_leaf {o : Oper} {a : Act} {C : World → Prop} {K : Act → Prop} (x : Operand) (ho : o.op = .load 34 x) {p V : Value} (hx : a.eval x = p) (hl : ∀ w, C w → (Instr.loadAt 34 p).run Try.prog w = .ok V w) (hk : ∀ a', a.put o.dst V = a' → K a') : o.quiet Try.prog a C K :=
  ⟨V, fun w hw => by
    unfold Oper.quietAt execOp
    simp only [ho, hx, Sem.run_bind, Sem.run_pure, Result.andThen_ok, hl w hw]
    exact ⟨rfl, rfl⟩, hk _ rfl⟩
theorem quiet_neq_leaf {o : Oper} {a : Act} {C : World → Prop} {K : Act → Prop} (x y : Operand) {t' : TypeId} (ho : o.op = .binOp .neq 34 x y t') {V : Value} {f : L6} (hV : V = V6 f) (hx : a.eval x = V) (hy : a.eval y = V) (hk : ∀ a', a.put o.dst (.bool false) = a' → K a') : o.quiet Try.prog a C K :=
  ⟨_, fun w hw => by
    subst hV
    have hg : (eqGuard .neq 34 x y (V6 f) (V6 f)).run Try.prog w = .ok () w := run_eqGuard_agg w _ _ _ _ _ _ guard_leaf
    unfold Oper.quietAt execOp
    simp only [ho, hx, hy, Sem.run_bind, Sem.run_pure, Result.andThen_ok, hg, leaf_neq]
    exact ⟨rfl, rfl⟩, hk _ rfl⟩
theorem leaf_load {w : World} {b o : Nat} {x : L6} (c0 : w.cell? ⟨b, o, none⟩ = some (.int .u64 (x.v : Int))) (c1 : w.cell? ⟨b, o + 1, none⟩ = some (.int .u64 (x.p : Int))) (c2 : w.cell? ⟨b, o + 2, none⟩ = some (.int .i64 x.n)) (c3 : w.cell? ⟨b, o + 3, none⟩ = some (.bool x.big)) (c4 : w.cell? ⟨b, o + 4, none⟩ = some (.bool x.wr)) (c5 : w.cell? ⟨b, o + 5, none⟩ = some (.bool x.ex)) : (Instr.loadAt 34 (.pointer (some ⟨b, o, none⟩))).run Try.prog w = .ok (V6 x) w := by
  have hS : Try.prog.underlying 34 = some (.struct (Try.prog.fieldsOf 34)) := by kernel_rfl
  have hz : (Try.prog.info? 34).map (·.size) = some 6 := by kernel_rfl
  have := run_loadAt_mid (P := Try.prog) w b o 34 (encL x) _ (fun j v hv => by
    have hj : j < 6 := by have := (List.getElem?_eq_some_iff.1 hv).1; exact this
    rcases (by omega : j = 0 ∨ j = 1 ∨ j = 2 ∨ j = 3 ∨ j = 4 ∨ j = 5) with rfl | rfl | rfl | rfl | rfl | rfl
    · exact c0.trans hv
    · exact c1.trans hv
    · exact c2.trans hv
    · exact c3.trans hv
    · exact c4.trans hv
    · exact c5.trans hv) hS rfl hz
  rw [show V6 x = Value.agg (encL x).toArray from rfl]
  simpa using this
set_option maxRecDepth 100000 in
set_option maxHeartbeats 4000000 in
theorem sameL_yes {w : World} {u v : Value} {xs : List L6} (hu : Lv w u xs) (hv : Lv w v xs) : Calls Try.prog 17 #[u, v] w fun e w' => e = .returned (.bool true) ∧ Below w.heap.size w w' := by
  have HU := Lib.hid hu
  have HV := Lib.hid hv
  obtain ⟨ao, cap, rfl, h1, h2, _, _⟩ := hu
  obtain ⟨ao', cap', rfl, h1', h2', _, _⟩ := hv
  unfold maxLen at h2 h2'
  obtain ⟨n, hn⟩ : ∃ n, xs.length = n := ⟨_, rfl⟩
  have HN := Lib.hid hn
  rw [hn] at h1 h1' ⊢
  clear hn
  have HB0 : Hid (Below w.heap.size w w) := Below.refl _ _
  go_enter Try.func17, Try.ntmps17
  go_wp2_with fail
  go_loopw [5] (fun iv wr => ∃ i : Nat, i ≤ n ∧ iv = .int .i64 (i : Int) ∧ Hid (Below w.heap.size w wr)) (fun iv _ => n - (intOf iv).toNat)
  case atStart => exact ⟨0, by omega, rfl, HB0⟩
  case round =>
    clear HB0
    obtain ⟨i, hi, rfl, HB⟩ := hrel
    by_cases hin : i < n
    · have ji : (i : Int) < (n : Int) := by omega
      have hix : i < xs.length := by rw [HN.out]; exact hin
      have hw1 : IntKind.i64.wrap ((i : Int) + 1) = ((i + 1 : Nat) : Int) := by rw [IntKind.wrap_i64]; omega
      obtain ⟨_, _, e', _, _, _, hc⟩ := HU.out.below HB.out
      simp only [Value.slice.injEq] at e'
      obtain ⟨rfl, e9, rfl⟩ := e'
      clear e9
      obtain ⟨b, of, rfl, c0, c1, c2, c3, c4, c5⟩ := hc i hix
      obtain ⟨_, _, e', _, _, _, hc'⟩ := HV.out.below HB.out
      simp only [Value.slice.injEq] at e'
      obtain ⟨rfl, e9, rfl⟩ := e'
      clear e9
      obtain ⟨b', of', rfl, d0, d1, d2, d3, d4, d5⟩ := hc' i hix
      clear hc hc'
      generalize xs[i] = x at *
      obtain ⟨T, hT⟩ : ∃ T, V6 x = T := ⟨_, rfl⟩
      have l1 : ∀ k, (Instr.loadAt 34 (.pointer (some ⟨b, of + i * 6, none⟩))).run Try.prog (wr.drewN k) = .ok T (wr.drewN k) := fun k => by
        rw [← hT]
        exact leaf_load (w := wr.drewN k) c0 c1 c2 c3 c4 c5
      have l2 : ∀ k, (Instr.loadAt 34 (.pointer (some ⟨b', of' + i * 6, none⟩))).run Try.prog (wr.drewN k) = .ok T (wr.drewN k) := fun k => by
        rw [← hT]
        exact leaf_load (w := wr.drewN k) d0 d1 d2 d3 d4 d5
      have HT := Lib.hid hT.symm
      clear hT c0 c1 c2 c3 c4 c5 d0 d1 d2 d3 d4 d5
      go_upto_region 6 with fail
      refine wp_region_quiet_lit (by kernel_rfl) (by kernel_rfl) ?_
      go_big_quiet_step (fail)
      go_big_quiet_step (fail)
      go_big_quiet_step (fail)
      go_big_quiet_want
      refine quiet_load_leaf (.tmp 19) rfl rfl (fun W hW => by obtain ⟨k, rfl⟩ := hW; exact l1 k) ?_
      intro a' ha'
      simp only [Act.put, List.setIfInBounds_toArray, List.set_cons_succ, List.set_cons_zero] at ha'
      subst ha'
      go_big_quiet_on
      go_big_quiet_step (fail)
      go_big_quiet_step (fail)
      go_big_quiet_step (fail)
      go_big_quiet_want
      refine quiet_load_leaf (.tmp 23) rfl rfl (fun W hW => by obtain ⟨k, rfl⟩ := hW; exact l2 k) ?_
      intro a' ha'
      simp only [Act.put, List.setIfInBounds_toArray, List.set_cons_succ, List.set_cons_zero] at ha'
      subst ha'
      go_big_quiet_on
      go_big_quiet_want
      refine quiet_neq_leaf (.tmp 20) (.tmp 24) rfl HT.out rfl rfl ?_
      intro a' ha'
      simp only [Act.put, List.setIfInBounds_toArray, List.set_cons_succ, List.set_cons_zero] at ha'
      subst ha'
      go_big_quiet_on
      refine wpQuiet_nil ?_
      intro W1 hw1'
      obtain ⟨nq, hw2'⟩ := hw1'
      subst hw2'
      all_goals
        have HB1 : Hid (Below w.heap.size w (wr.drewN nq)) := HB.out.trans ⟨rfl, rfl, rfl, Nat.le_refl _, fun _ _ => rfl⟩
        clear HB l1 l2
        generalize (wr.drewN nq) = W1 at *
        go_wp2_with fail
        go_roundw
        case rel => exact ⟨i + 1, by omega, rfl, HB1⟩
        case measure => simp [intOf]; omega
    · have ji : ¬ (i : Int) < (n : Int) := by omega
      go_wp2_with fail
      go_ret
      exact ⟨rfl, HB.out⟩
/-- how many pages rows have together -/
def sumN : List L6 → Nat
  | [] => 0
  | x :: xs => x.n.toNat + sumN xs
def FewP (n : Nat) (w : World) (e : Ending) (w' : World) : Prop := ∃ b : Bool, e = .returned (.bool b) ∧ (b = true → n ≤ 20000) ∧ Below w.heap.size w w'
set_option maxRecDepth 100000 in
set_option maxHeartbeats 4000000 in
theorem few_any {w : World} {v : Value} {xs : List L6} (h : Lv w v xs) (hz : ∀ x ∈ xs, 1 ≤ x.n ∧ x.n ≤ 134217728) : Calls Try.prog 7 #[v] w (FewP xs.length w) := by
  have HR := Lib.hid h
  obtain ⟨ao, cap, rfl, h1, h2, _, _⟩ := h
  unfold maxLen at h2
  obtain ⟨n, hn⟩ : ∃ n, xs.length = n := ⟨_, rfl⟩
  have HN := Lib.hid hn
  have HZ : Hid (∀ x ∈ xs, 1 ≤ x.n ∧ x.n ≤ 134217728) := hz
  rw [hn] at h1 ⊢
  clear hn hz
  have HB0 : Hid (Below w.heap.size w w) := Below.refl _ _
  go_enter Try.func7, Try.ntmps7
  go_wp2_with fail
  go_loopw [3, 4] (fun nv iv wr => ∃ (i : Nat) (s : Nat), i ≤ n ∧ iv = .int .i64 (i : Int) ∧ nv = .int .i64 (s : Int) ∧ s ≤ 135266304 ∧ Hid (Below w.heap.size w wr)) (fun _ iv _ => n - (intOf iv).toNat)
  case atStart => exact ⟨0, 0, by omega, rfl, rfl, by omega, HB0⟩
  case round =>
    clear HB0
    obtain ⟨i, s, hi, rfl, rfl, hs, HB⟩ := hrel
    by_cases hin : i < n
    · have ji : (i : Int) < (n : Int) := by omega
      have hix : i < xs.length := by rw [HN.out]; exact hin
      have hw1 : IntKind.i64.wrap ((i : Int) + 1) = ((i + 1 : Nat) : Int) := by rw [IntKind.wrap_i64]; omega
      by_cases hs2 : s ≤ 1048576
      · have js : (s : Int) ≤ 1048576 := by omega
        obtain ⟨_, _, e', _, _, _, hc⟩ := HR.out.below HB.out
        simp only [Value.slice.injEq] at e'
        obtain ⟨rfl, e9, rfl⟩ := e'
        clear e9
        obtain ⟨b, of, rfl, c0, c1, c2, c3, c4, c5⟩ := hc i hix
        have hzi := HZ.out xs[i] (List.getElem_mem _)
        clear hc
        generalize xs[i] = x at *
        obtain ⟨m, hm⟩ : ∃ m : Nat, x.n = (m : Int) := ⟨x.n.toNat, by omega⟩
        rw [hm] at c2 hzi
        clear c0 c1 c3 c4 c5 hm
        have hw2 : IntKind.i64.wrap ((s : Int) + (m : Int)) = ((s + m : Nat) : Int) := by rw [IntKind.wrap_i64]; omega
        go_wp2_with fail
        go_roundw
        case rel => exact ⟨i + 1, s + m, by omega, rfl, rfl, by omega, HB⟩
        case measure => simp [intOf]; omega
      · have js : ¬ (s : Int) ≤ 1048576 := by omega
        go_wp2_with fail
        go_ret
        exact ⟨_, rfl, (fun e => by simp at e), HB.out⟩
    · have ji : ¬ (i : Int) < (n : Int) := by omega
      by_cases hs2 : s ≤ 1048576
      · have js : (s : Int) ≤ 1048576 := by omega
        by_cases hl : n ≤ 20000
        · have jl : (n : Int) ≤ 20000 := by omega
          go_wp2_with fail
          go_ret
          exact ⟨_, rfl, (fun _ => hl), HB.out⟩
        · have jl : ¬ (n : Int) ≤ 20000 := by omega
          go_wp2_with fail
          go_ret
          exact ⟨_, rfl, (fun e => by simp at e), HB.out⟩
      · have js : ¬ (s : Int) ≤ 1048576 := by omega
        go_wp2_with fail
        go_ret
        exact ⟨_, rfl, (fun e => by simp at e), HB.out⟩
end Go.Proofs.Ytjfpdphedpnelaa
