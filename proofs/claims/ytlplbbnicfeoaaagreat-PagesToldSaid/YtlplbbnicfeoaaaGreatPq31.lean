import Derived.Test.YtlplbbnicfeoaaaGreatPq06
import Derived.Test.YtlplbbnicfeoaaaGreatPq03
import Derived.Test.YtlplbbnicfeoaaaGreatPq08
import Derived.BigQuiet
import Derived.Test.YtlplbbnicfeoaaaGreatPq09
import Derived.Test.YtlplbbnicfeoaaaGreatPq29
/- Pages: lists of tables that are the same; few. Own work. -/
namespace Go.Proofs.YtlplbbnicfeoaaaGreat
open Go.RowKit Wk
set_option linter.unusedVariables false
/-- a table of a list, by value -/
theorem GAt.load {w : World} {G n : Nat} {M : Nat → Nat} (h : GAt w G n M) {k : Nat} (hk : k < n) : (Instr.loadAt 55 (.pointer (some ⟨G, k * 512, none⟩))).run Tryz.prog w = .ok (.agg (tabV fun i => M (k * 512 + i))) w := by
  have hu : Tryz.prog.underlying 55 = some (.array 512 23) := by kernel_rfl
  have := run_loadAt_mid (P := Tryz.prog) w G (k * 512) 55 (tabV fun i => M (k * 512 + i)).toList (.array 512 23) (fun j v hv => by
    have hj : j < 512 := by have := (List.getElem?_eq_some_iff.1 hv).1; rw [Array.length_toList, tabV_size] at this; exact this
    rw [h.cell (by omega)]
    rw [Array.getElem?_toList, tabV_get _ hj] at hv
    exact hv) hu rfl (by rw [Array.length_toList, tabV_size]; exact tab_zero.2)
  simpa using this
theorem quiet_load_tab {o : Oper} {a : Act} {C : World → Prop} {K : Act → Prop} (x : Operand) (ho : o.op = .load 55 x) {p V : Value} (hx : a.eval x = p) (hl : ∀ w, C w → (Instr.loadAt 55 p).run Tryz.prog w = .ok V w) (hk : ∀ a', a.put o.dst V = a' → K a') : o.quiet Tryz.prog a C K :=
  ⟨V, fun w hw => by
    unfold Oper.quietAt execOp
    simp only [ho, hx, Sem.run_bind, Sem.run_pure, Result.andThen_ok, hl w hw]
    exact ⟨rfl, rfl⟩, hk _ rfl⟩
theorem quiet_neq_tab {o : Oper} {a : Act} {C : World → Prop} {K : Act → Prop} (x y : Operand) {t' : TypeId} (ho : o.op = .binOp .neq 55 x y t') {V : Value} {f : Nat → Nat} (hV : V = .agg (tabV f)) (hx : a.eval x = V) (hy : a.eval y = V) (hk : ∀ a', a.put o.dst (.bool false) = a' → K a') : o.quiet Tryz.prog a C K :=
  ⟨_, fun w hw => by
    subst hV
    have hg : (eqGuard .neq 55 x y (.agg (tabV f)) (.agg (tabV f))).run Tryz.prog w = .ok () w := run_eqGuard_agg w _ _ _ _ _ _ tab_guard
    unfold Oper.quietAt execOp
    simp only [ho, hx, hy, Sem.run_bind, Sem.run_pure, Result.andThen_ok, hg, tab_neq]
    exact ⟨rfl, rfl⟩, hk _ rfl⟩
end Go.Proofs.YtlplbbnicfeoaaaGreat
/- Pages: lists of leaves that are the same. Own work. -/
namespace Go.Proofs.YtlplbbnicfeoaaaGreat
open Go.RowKit Wk
set_option linter.unusedVariables false
theorem leaf_equal (x : L6) (w : World) : (Op.equalIn 10000 26 (V6 x) (V6 x)).run Tryz.prog w = .ok true w := by
  obtain ⟨v, p, n, b, wr, ex⟩ := x
  have u1 := Tryz.underlying4
  have a1 := Tryz.isAgg4
  have z1 := Tryz.sizeOf4
  have u := Tryz.underlying23
  have a2 := Tryz.isAgg23
  have z := Tryz.sizeOf23
  have u3 := Tryz.underlying3
  have a3 := Tryz.isAgg3
  have z3 := Tryz.sizeOf3
  have hS : Tryz.prog.underlying 26 = some (.struct (Tryz.prog.fieldsOf 26)) := by kernel_rfl
  have hp : Tryz.prog.stoodInHeld 26 = false := by kernel_rfl
  rw [V6, show (10000 : Nat) = 9999 + 1 from rfl, run_equalIn_agg w 9999 26 _ _ hS hp]
  simp only [Program.fieldsOf, Tryz.underlying26]
  go_simp
theorem leaf_neq (x : L6) (w : World) : (binOp .neq 26 (V6 x) (V6 x)).run Tryz.prog w = .ok (.bool false) w := by
  have := leaf_equal x w
  rw [V6] at *
  rw [run_neq_struct, this]
  rfl
theorem guard_leaf : Tryz.prog.eqGuardType Tryz.prog.depth 26 = false := by kernel_rfl
theorem quiet_load_leaf {o : Oper} {a : Act} {C : World → Prop} {K : Act → Prop} (x : Operand) (ho : o.op = .load 26 x) {p V : Value} (hx : a.eval x = p) (hl : ∀ w, C w → (Instr.loadAt 26 p).run Tryz.prog w = .ok V w) (hk : ∀ a', a.put o.dst V = a' → K a') : o.quiet Tryz.prog a C K :=
  ⟨V, fun w hw => by
    unfold Oper.quietAt execOp
    simp only [ho, hx, Sem.run_bind, Sem.run_pure, Result.andThen_ok, hl w hw]
    exact ⟨rfl, rfl⟩, hk _ rfl⟩
theorem quiet_neq_leaf {o : Oper} {a : Act} {C : World → Prop} {K : Act → Prop} (x y : Operand) {t' : TypeId} (ho : o.op = .binOp .neq 26 x y t') {V : Value} {f : L6} (hV : V = V6 f) (hx : a.eval x = V) (hy : a.eval y = V) (hk : ∀ a', a.put o.dst (.bool false) = a' → K a') : o.quiet Tryz.prog a C K :=
  ⟨_, fun w hw => by
    subst hV
    have hg : (eqGuard .neq 26 x y (V6 f) (V6 f)).run Tryz.prog w = .ok () w := run_eqGuard_agg w _ _ _ _ _ _ guard_leaf
    unfold Oper.quietAt execOp
    simp only [ho, hx, hy, Sem.run_bind, Sem.run_pure, Result.andThen_ok, hg, leaf_neq]
    exact ⟨rfl, rfl⟩, hk _ rfl⟩
theorem leaf_load {w : World} {b o : Nat} {x : L6} (c0 : w.cell? ⟨b, o, none⟩ = some (.int .u64 (x.v : Int))) (c1 : w.cell? ⟨b, o + 1, none⟩ = some (.int .u64 (x.p : Int))) (c2 : w.cell? ⟨b, o + 2, none⟩ = some (.int .i64 x.n)) (c3 : w.cell? ⟨b, o + 3, none⟩ = some (.bool x.big)) (c4 : w.cell? ⟨b, o + 4, none⟩ = some (.bool x.wr)) (c5 : w.cell? ⟨b, o + 5, none⟩ = some (.bool x.ex)) : (Instr.loadAt 26 (.pointer (some ⟨b, o, none⟩))).run Tryz.prog w = .ok (V6 x) w := by
  have hS : Tryz.prog.underlying 26 = some (.struct (Tryz.prog.fieldsOf 26)) := by kernel_rfl
  have hz : (Tryz.prog.info? 26).map (·.size) = some 6 := by kernel_rfl
  have := run_loadAt_mid (P := Tryz.prog) w b o 26 (encL x) _ (fun j v hv => by
    have hj : j < 6 := by have := (List.getElem?_eq_some_iff.1 hv).1; exact this
    rcases (by omega : j = 0 ∨ j = 1 ∨ j = 2 ∨ j = 3 ∨ j = 4 ∨ j = 5) with rfl | rfl | rfl | rfl | rfl | rfl
    · exact c0.trans hv
    · exact c1.trans hv
    · exact c2.trans hv
    · exact c3.trans hv
    · exact c4.trans hv
    · exact c5.trans hv) hS rfl hz
  rw [show V6 x = Value.agg (encL x).toArray from rfl]
  simpa using this
set_option maxRecDepth 100000 in
set_option maxHeartbeats 4000000 in
theorem sameL_yes {w : World} {u v : Value} {xs : List L6} (hu : Lv w u xs) (hv : Lv w v xs) : Calls Tryz.prog 26 #[u, v] w fun e w' => e = .returned (.bool true) ∧ Below w.heap.size w w' := by
  have HU := Lib.hid hu
  have HV := Lib.hid hv
  obtain ⟨ao, cap, rfl, h1, h2, _, _⟩ := hu
  obtain ⟨ao', cap', rfl, h1', h2', _, _⟩ := hv
  unfold maxLen at h2 h2'
  obtain ⟨n, hn⟩ : ∃ n, xs.length = n := ⟨_, rfl⟩
  have HN := Lib.hid hn
  rw [hn] at h1 h1' ⊢
  clear hn
  have HB0 : Hid (Below w.heap.size w w) := Below.refl _ _
  go_enter Tryz.func26, Tryz.ntmps26
  go_wp2_with fail
  go_loopw [5] (fun iv wr => ∃ i : Nat, i ≤ n ∧ iv = .int .i64 (i : Int) ∧ Hid (Below w.heap.size w wr)) (fun iv _ => n - (intOf iv).toNat)
  case atStart => exact ⟨0, by omega, rfl, HB0⟩
  case round =>
    clear HB0
    obtain ⟨i, hi, rfl, HB⟩ := hrel
    by_cases hin : i < n
    · have ji : (i : Int) < (n : Int) := by omega
      have hix : i < xs.length := by rw [HN.out]; exact hin
      have hw1 : IntKind.i64.wrap ((i : Int) + 1) = ((i + 1 : Nat) : Int) := by rw [IntKind.wrap_i64]; omega
      obtain ⟨_, _, e', _, _, _, hc⟩ := HU.out.below HB.out
      simp only [Value.slice.injEq] at e'
      obtain ⟨rfl, e9, rfl⟩ := e'
      clear e9
      obtain ⟨b, of, rfl, c0, c1, c2, c3, c4, c5⟩ := hc i hix
      obtain ⟨_, _, e', _, _, _, hc'⟩ := HV.out.below HB.out
      simp only [Value.slice.injEq] at e'
      obtain ⟨rfl, e9, rfl⟩ := e'
      clear e9
      obtain ⟨b', of', rfl, d0, d1, d2, d3, d4, d5⟩ := hc' i hix
      clear hc hc'
      generalize xs[i] = x at *
      obtain ⟨T, hT⟩ : ∃ T, V6 x = T := ⟨_, rfl⟩
      have l1 : ∀ k, (Instr.loadAt 26 (.pointer (some ⟨b, of + i * 6, none⟩))).run Tryz.prog (wr.drewN k) = .ok T (wr.drewN k) := fun k => by
        rw [← hT]
        exact leaf_load (w := wr.drewN k) c0 c1 c2 c3 c4 c5
      have l2 : ∀ k, (Instr.loadAt 26 (.pointer (some ⟨b', of' + i * 6, none⟩))).run Tryz.prog (wr.drewN k) = .ok T (wr.drewN k) := fun k => by
        rw [← hT]
        exact leaf_load (w := wr.drewN k) d0 d1 d2 d3 d4 d5
      have HT := Lib.hid hT.symm
      clear hT c0 c1 c2 c3 c4 c5 d0 d1 d2 d3 d4 d5
      go_upto_region 6 with fail
      refine wp_region_quiet_lit (by kernel_rfl) (by kernel_rfl) ?_
      go_big_quiet_step (fail)
      go_big_quiet_step (fail)
      go_big_quiet_step (fail)
      go_big_quiet_want
      refine quiet_load_leaf (.tmp 19) rfl rfl (fun W hW => by obtain ⟨k, rfl⟩ := hW; exact l1 k) ?_
      intro a' ha'
      simp only [Act.put, List.setIfInBounds_toArray, List.set_cons_succ, List.set_cons_zero] at ha'
      subst ha'
      go_big_quiet_on
      go_big_quiet_step (fail)
      go_big_quiet_step (fail)
      go_big_quiet_step (fail)
      go_big_quiet_want
      refine quiet_load_leaf (.tmp 23) rfl rfl (fun W hW => by obtain ⟨k, rfl⟩ := hW; exact l2 k) ?_
      intro a' ha'
      simp only [Act.put, List.setIfInBounds_toArray, List.set_cons_succ, List.set_cons_zero] at ha'
      subst ha'
      go_big_quiet_on
      go_big_quiet_want
      refine quiet_neq_leaf (.tmp 20) (.tmp 24) rfl HT.out rfl rfl ?_
      intro a' ha'
      simp only [Act.put, List.setIfInBounds_toArray, List.set_cons_succ, List.set_cons_zero] at ha'
      subst ha'
      go_big_quiet_on
      refine wpQuiet_nil ?_
      intro W1 hw1'
      obtain ⟨nq, hw2'⟩ := hw1'
      subst hw2'
      all_goals
        have HB1 : Hid (Below w.heap.size w (wr.drewN nq)) := HB.out.trans ⟨rfl, rfl, rfl, Nat.le_refl _, fun _ _ => rfl⟩
        clear HB l1 l2
        generalize (wr.drewN nq) = W1 at *
        go_wp2_with fail
        go_roundw
        case rel => exact ⟨i + 1, by omega, rfl, HB1⟩
        case measure => simp [intOf]; omega
    · have ji : ¬ (i : Int) < (n : Int) := by omega
      go_wp2_with fail
      go_ret
      exact ⟨rfl, HB.out⟩
/-- how many pages rows have together -/
def sumN : List L6 → Nat
  | [] => 0
  | x :: xs => x.n.toNat + sumN xs
def FewP (n : Nat) (w : World) (e : Ending) (w' : World) : Prop := ∃ b : Bool, e = .returned (.bool b) ∧ (b = true → n ≤ 20000) ∧ Below w.heap.size w w'
set_option maxRecDepth 100000 in
set_option maxHeartbeats 4000000 in
theorem few_any {w : World} {v : Value} {xs : List L6} (h : Lv w v xs) (hz : ∀ x ∈ xs, 1 ≤ x.n ∧ x.n ≤ 134217728) : Calls Tryz.prog 9 #[v] w (FewP xs.length w) := by
  have HR := Lib.hid h
  obtain ⟨ao, cap, rfl, h1, h2, _, _⟩ := h
  unfold maxLen at h2
  obtain ⟨n, hn⟩ : ∃ n, xs.length = n := ⟨_, rfl⟩
  have HN := Lib.hid hn
  have HZ : Hid (∀ x ∈ xs, 1 ≤ x.n ∧ x.n ≤ 134217728) := hz
  rw [hn] at h1 ⊢
  clear hn hz
  have HB0 : Hid (Below w.heap.size w w) := Below.refl _ _
  go_enter Tryz.func9, Tryz.ntmps9
  go_wp2_with fail
  go_loopw [3, 4] (fun nv iv wr => ∃ (i : Nat) (s : Nat), i ≤ n ∧ iv = .int .i64 (i : Int) ∧ nv = .int .i64 (s : Int) ∧ s ≤ 135266304 ∧ Hid (Below w.heap.size w wr)) (fun _ iv _ => n - (intOf iv).toNat)
  case atStart => exact ⟨0, 0, by omega, rfl, rfl, by omega, HB0⟩
  case round =>
    clear HB0
    obtain ⟨i, s, hi, rfl, rfl, hs, HB⟩ := hrel
    by_cases hin : i < n
    · have ji : (i : Int) < (n : Int) := by omega
      have hix : i < xs.length := by rw [HN.out]; exact hin
      have hw1 : IntKind.i64.wrap ((i : Int) + 1) = ((i + 1 : Nat) : Int) := by rw [IntKind.wrap_i64]; omega
      by_cases hs2 : s ≤ 1048576
      · have js : (s : Int) ≤ 1048576 := by omega
        obtain ⟨_, _, e', _, _, _, hc⟩ := HR.out.below HB.out
        simp only [Value.slice.injEq] at e'
        obtain ⟨rfl, e9, rfl⟩ := e'
        clear e9
        obtain ⟨b, of, rfl, c0, c1, c2, c3, c4, c5⟩ := hc i hix
        have hzi := HZ.out xs[i] (List.getElem_mem _)
        clear hc
        generalize xs[i] = x at *
        obtain ⟨m, hm⟩ : ∃ m : Nat, x.n = (m : Int) := ⟨x.n.toNat, by omega⟩
        rw [hm] at c2 hzi
        clear c0 c1 c3 c4 c5 hm
        have hw2 : IntKind.i64.wrap ((s : Int) + (m : Int)) = ((s + m : Nat) : Int) := by rw [IntKind.wrap_i64]; omega
        go_wp2_with fail
        go_roundw
        case rel => exact ⟨i + 1, s + m, by omega, rfl, rfl, by omega, HB⟩
        case measure => simp [intOf]; omega
      · have js : ¬ (s : Int) ≤ 1048576 := by omega
        go_wp2_with fail
        go_ret
        exact ⟨_, rfl, (fun e => by simp at e), HB.out⟩
    · have ji : ¬ (i : Int) < (n : Int) := by omega
      by_cases hs2 : s ≤ 1048576
      · have js : (s : Int) ≤ 1048576 := by omega
        by_cases hl : n ≤ 20000
        · have jl : (n : Int) ≤ 20000 := by omega
          go_wp2_with fail
          go_ret
          exact ⟨_, rfl, (fun _ => hl), HB.out⟩
        · have jl : ¬ (n : Int) ≤ 20000 := by omega
          go_wp2_with fail
          go_ret
          exact ⟨_, rfl, (fun e => by simp at e), HB.out⟩
      · have js : ¬ (s : Int) ≤ 1048576 := by omega
        go_wp2_with fail
        go_ret
        exact ⟨_, rfl, (fun e => by simp at e), HB.out⟩
end Go.Proofs.YtlplbbnicfeoaaaGreat
/- Pages: few, and how many pages rows have together. Own work. -/
namespace Go.Proofs.YtlplbbnicfeoaaaGreat
open Go.RowKit Wk
set_option linter.unusedVariables false
def FewQ (xs : List L6) (w : World) (e : Ending) (w' : World) : Prop := ∃ b : Bool, e = .returned (.bool b) ∧ (b = true ↔ sumN xs ≤ 1048576 ∧ xs.length ≤ 20000) ∧ Below w.heap.size w w'
theorem sumN_app : ∀ (xs ys : List L6), sumN (xs ++ ys) = sumN xs + sumN ys
  | [], ys => by show sumN ys = 0 + sumN ys; omega
  | x :: xs, ys => by show x.n.toNat + sumN (xs ++ ys) = x.n.toNat + sumN xs + sumN ys; rw [sumN_app xs ys]; omega
theorem sumN_take {xs : List L6} {i : Nat} (h : i < xs.length) : sumN (xs.take (i + 1)) = sumN (xs.take i) + xs[i].n.toNat := by
  rw [← List.take_append_getElem h, sumN_app]
  rfl
theorem sumN_le (xs : List L6) (i : Nat) : sumN (xs.take i) ≤ sumN xs := by
  have h : xs = xs.take i ++ xs.drop i := (List.take_append_drop i xs).symm
  have e : sumN xs = sumN (xs.take i) + sumN (xs.drop i) := by rw [← sumN_app, ← h]
  omega
set_option maxRecDepth 100000 in
set_option maxHeartbeats 4000000 in
theorem few_sum {w : World} {v : Value} {xs : List L6} (h : Lv w v xs) (hz : ∀ x ∈ xs, 1 ≤ x.n ∧ x.n ≤ 134217728) : Calls Tryz.prog 9 #[v] w (FewQ xs w) := by
  have HR := Lib.hid h
  obtain ⟨ao, cap, rfl, h1, h2, _, _⟩ := h
  unfold maxLen at h2
  obtain ⟨n, hn⟩ : ∃ n, xs.length = n := ⟨_, rfl⟩
  have HN := Lib.hid hn
  have HZ : Hid (∀ x ∈ xs, 1 ≤ x.n ∧ x.n ≤ 134217728) := hz
  rw [hn] at h1 ⊢
  clear hn hz
  have HB0 : Hid (Below w.heap.size w w) := Below.refl _ _
  go_enter Tryz.func9, Tryz.ntmps9
  go_wp2_with fail
  go_loopw [3, 4] (fun nv iv wr => ∃ (i : Nat) (s : Nat), i ≤ n ∧ iv = .int .i64 (i : Int) ∧ nv = .int .i64 (s : Int) ∧ s ≤ 135266304 ∧ Hid (s = sumN (xs.take i)) ∧ Hid (Below w.heap.size w wr)) (fun _ iv _ => n - (intOf iv).toNat)
  case atStart => exact ⟨0, 0, by omega, rfl, rfl, by omega, Lib.hid rfl, HB0⟩
  case round =>
    clear HB0
    obtain ⟨i, s, hi, rfl, rfl, hs, HS, HB⟩ := hrel
    by_cases hin : i < n
    · have ji : (i : Int) < (n : Int) := by omega
      have hix : i < xs.length := by rw [HN.out]; exact hin
      have hw1 : IntKind.i64.wrap ((i : Int) + 1) = ((i + 1 : Nat) : Int) := by rw [IntKind.wrap_i64]; omega
      by_cases hs2 : s ≤ 1048576
      · have js : (s : Int) ≤ 1048576 := by omega
        obtain ⟨_, _, e', _, _, _, hc⟩ := HR.out.below HB.out
        simp only [Value.slice.injEq] at e'
        obtain ⟨rfl, e9, rfl⟩ := e'
        clear e9
        obtain ⟨b, of, rfl, c0, c1, c2, c3, c4, c5⟩ := hc i hix
        have hzi := HZ.out xs[i] (List.getElem_mem _)
        have HT : Hid (sumN (xs.take (i + 1)) = s + xs[i].n.toNat) := by
          show _ = _
          rw [sumN_take hix, ← HS.out]
        clear hc
        generalize xs[i] = x at *
        obtain ⟨m, hm⟩ : ∃ m : Nat, x.n = (m : Int) := ⟨x.n.toNat, by omega⟩
        rw [hm] at c2 hzi HT
        rw [Int.toNat_natCast] at HT
        clear c0 c1 c3 c4 c5 hm
        have hw2 : IntKind.i64.wrap ((s : Int) + (m : Int)) = ((s + m : Nat) : Int) := by rw [IntKind.wrap_i64]; omega
        go_wp2_with fail
        go_roundw
        case rel => exact ⟨i + 1, s + m, by omega, rfl, rfl, by omega, Lib.hid HT.out.symm, HB⟩
        case measure => simp [intOf]; omega
      · have js : ¬ (s : Int) ≤ 1048576 := by omega
        go_wp2_with fail
        go_ret
        exact ⟨_, rfl, (by have h5 := sumN_le xs i; have h6 := HS.out; exact ⟨fun e => absurd e (by decide), fun ⟨e1, e2⟩ => (show False by omega).elim⟩), HB.out⟩
    · have ji : ¬ (i : Int) < (n : Int) := by omega
      have HE : Hid (s = sumN xs) := by
        show _ = _
        rw [HS.out, List.take_of_length_le (by rw [HN.out]; omega)]
      by_cases hs2 : s ≤ 1048576
      · have js : (s : Int) ≤ 1048576 := by omega
        by_cases hl : n ≤ 20000
        · have jl : (n : Int) ≤ 20000 := by omega
          go_wp2_with fail
          go_ret
          exact ⟨_, rfl, (by have h5 := HE.out; have h6 := HN.out; exact ⟨fun _ => by omega, fun _ => rfl⟩), HB.out⟩
        · have jl : ¬ (n : Int) ≤ 20000 := by omega
          go_wp2_with fail
          go_ret
          exact ⟨_, rfl, (by have h5 := HE.out; have h6 := HN.out; exact ⟨fun e => absurd e (by decide), fun ⟨e1, e2⟩ => (show False by omega).elim⟩), HB.out⟩
      · have js : ¬ (s : Int) ≤ 1048576 := by omega
        go_wp2_with fail
        go_ret
        exact ⟨_, rfl, (by have h5 := sumN_le xs i; have h6 := HS.out; exact ⟨fun e => absurd e (by decide), fun ⟨e1, e2⟩ => (show False by omega).elim⟩), HB.out⟩
end Go.Proofs.YtlplbbnicfeoaaaGreat
/- Leaves' iterator, over any memory. Own work. -/
namespace Go.Proofs.YtlplbbnicfeoaaaGreat
open Go.RowKit Go.Shelf Wk Lv
attribute [local go_sem] Oper.semAt_some
set_option maxRecDepth 100000 in
set_option maxHeartbeats 1000000 in
/-- below's iterator at what is no table -/
theorem below1_no (n : Nat) (l Bs Bm virt : Nat) (lev : Int) (x : Ent) (why : Int) (W : World) (hx : x.2.1 = false) (hb : BoxS W Bs virt lev x why) :
    CallsIn Fence.wide n Tryz.prog 78 #[.func (.yield l) #[] #[], .pointer (some ⟨Bs, 0, none⟩), .pointer (some ⟨Bm, 0, none⟩)] W fun e W' => (∃ v, e = .returned v) ∧ W' = W := by
  obtain ⟨s0, s1, s2, s3, s4, s5, s6, s7⟩ := hb.cells
  rw [hx] at s3
  refine callsIn_of_wp Tryz.func78 rfl trivial ?_ rfl
  simp only [Tryz.ntmps78, List.size_toArray, List.length_cons, List.length_nil, Nat.reduceAdd, Nat.reduceSub, Array.replicate_succ, Array.replicate_zero, List.push_toArray, List.append_toArray, List.nil_append, List.cons_append]
  gi_wp2
  refine bodyPost_ret (results_none rfl _ _ _) rfl ?_
  exact ⟨⟨_, rfl⟩, rfl⟩
section
variable {σ : Type} {lk : σ → Nat → Nat → Nat → (Ent × Int) × σ} {yd : σ → Slt → σ} {ct : σ → Slt → Bool} {live : σ → Prop} {cnt : σ → Nat} {Q : Nat} {I : σ → World → Prop} {Z : Nat → Prop} {N1 l0 : Nat} {T : TypeId} {u : Value}
/-- further, whatever it comes by -/
theorem further_any (E : LvEnv lk yd ct live cnt Q I Z N1 l0 T u) {n Bl By L : Nat} (t : St σ) (y : Slt) (W : World) (hgo : t.go = true) (hf : Fine live L t) (hL : L ≤ 9223372036854775807) (hy1 : y.1 < 549755813888) (hy2 : y.2.1 ≤ 2) (hy3 : y.2.2.1.1 + 4096 ≤ 18446744073709551616) (hN : N1 ≤ W.heap.size) (hBl : N1 ≤ Bl) (hne : By ≠ Bl) (hle : LeftAt W Bl t.left) (hI : I t.s W) (hyv : W.cell? ⟨By, 0, none⟩ = some (.func (.yield l0) #[] #[])) :
    CallsIn Fence.wide n Tryz.prog 50 #[SltV y.1 (y.2.1 : Int) y.2.2.1 y.2.2.2, .pointer (some ⟨Bl, 0, none⟩), .pointer (some ⟨By, 0, none⟩)] W fun e W' => e = .returned (.bool (visitS yd ct t y).go) ∧ LeftAt W' Bl (visitS yd ct t y).left ∧ I (visitS yd ct t y).s W' ∧ Keeps (fun k => Z k ∨ k = Bl) W W' := by
  have hp := hf.pos hgo
  have hm := hf.most
  unfold visitS
  by_cases hx : y.2.2.1.2.1 = true
  · rw [if_pos hx]
    refine (callsIn_wide.2 (further_table Bl By y.1 (y.2.1 : Int) y.2.2.1 y.2.2.2 t.left W hx hp (by omega) hle)).mono ?_
    rintro e W' ⟨rfl, h1, h2⟩
    exact ⟨rfl, h1, E.abides _ _ _ hI (h2.below hN (fun i _ e => by omega)), h2.mono (fun _ _ h => .inr h)⟩
  · have hx' : y.2.2.1.2.1 = false := by simpa using hx
    rw [if_neg hx]
    refine (further_told n Bl By l0 y.1 (y.2.1 : Int) y.2.2.1 y.2.2.2 t.left (pgs y.2.1) (ct t.s y) (fun W' => I (yd t.s y) W' ∧ Keeps (fun k => Z k ∨ k = Bl) W W') W hx' hp (by omega) hle hne hyv (fun W => pages_any hy2 W) ?_).mono ?_
    · intro W' hk hl'
      refine (E.tell _ t.s W' y hy1 hy2 hy3 (hf.live hgo) (Nat.le_trans hN hk.size) (E.abides _ _ _ hI (hk.below hN (fun i _ e => by omega)))).mono ?_
      rintro e W'' ⟨rfl, h1, h2⟩
      exact ⟨rfl, hl'.keeps h2 (fun hz => by have := E.zlt _ hz; omega), h1, (hk.mono (fun _ _ h => .inr h)).trans h2 (fun _ _ h => .inl h)⟩
    · rintro e W' ⟨rfl, h1, h2, h3⟩
      exact ⟨rfl, h1, h2, h3⟩
end
end Go.Proofs.YtlplbbnicfeoaaaGreat
