import Derived.Test.YtlplbbnicfeoaaaGreatPk35
import Derived.Test.YtlplbbnicfeoaaaGreatPk05
import Derived.Test.YtlplbbnicfeoaaaGreatPk10
import Derived.Test.YtlplbbnicfeoaaaGreatPk13
import Derived.Test.YtlplbbnicfeoaaaGreatPk03
/- Pages: the document's has, find, reach, unit. Own work. -/
namespace Go.Proofs.YtlplbbnicfeoaaaGreat
open Go.RowKit Wk
set_option linter.unusedVariables false
set_option maxRecDepth 20000
theorem preach_any {l r : Nat} (h : (l = 0 ∧ r = 549755813888) ∨ (l = 1 ∧ r = 1073741824) ∨ (l = 2 ∧ r = 2097152)) (w : World) : Calls Tryz.prog 23 #[.int .i64 (l : Int)] w fun e w' => e = .returned (.int .u64 (r : Int)) ∧ Below w.heap.size w w' := by
  rcases h with ⟨rfl, rfl⟩ | ⟨rfl, rfl⟩ | ⟨rfl, rfl⟩
  all_goals
    go_enter Tryz.func23, Tryz.ntmps23
    go_wp2_with fail
    go_ret
    exact ⟨rfl, (Below.refl _ _).alloc (Nat.le_refl _) _⟩
set_option maxHeartbeats 1000000 in
theorem runit_any (x : L6) (w : World) : Calls Tryz.prog 20 #[V6 x] w fun e w' => e = .returned (.int .u64 (unitF x : Int)) ∧ Below w.heap.size w w' := by
  obtain ⟨v, p, n, big, wr, ex⟩ := x
  unfold V6 unitF
  cases big with
  | true =>
    go_enter Tryz.func20, Tryz.ntmps20
    go_wp2_with fail
    go_ret
    exact ⟨rfl, (Below.refl _ _).alloc (Nat.le_refl _) _⟩
  | false =>
    go_enter Tryz.func20, Tryz.ntmps20
    go_wp2_with fail
    go_ret
    exact ⟨rfl, (Below.refl _ _).alloc (Nat.le_refl _) _⟩
theorem vq_inj {y : Nat × Nat} {lv k : Nat} (hl : lv = 1 ∨ lv = 2) (h1 : y.1 = lv) (h2 : vq y = vq (lv, k)) : y = (lv, k) := by
  obtain ⟨a, b⟩ := y
  simp only at h1
  subst h1
  unfold vq at h2
  rcases hl with rfl | rfl
  · simp only [if_true] at h2
    have : b = k := by omega
    rw [this]
  · simp only [show ¬ ((2 : Nat) = 1) by decide, if_false, if_true] at h2
    have : b = k := by omega
    rw [this]
theorem getD_get {ts : List (Nat × Nat)} {i : Nat} (h : i < ts.length) : ts.getD i (0, 0) = ts[i] := by simp [List.getD, h]
set_option maxHeartbeats 4000000 in
theorem has_any {w : World} {b g cap : Nat} {ts : List (Nat × Nat)} {E : Nat → Nat} (h : OwnQ w b (.slice (some ⟨g, 0, none⟩) ts.length cap) ts E) (hlen : ts.length ≤ 2000) {lv k V : Nat} (hl : lv = 1 ∨ lv = 2) (hV : vq (lv, k) = V) (hcap : ts.length ≤ cap) : Calls Tryz.prog 47 #[.slice (some ⟨g, 0, none⟩) ts.length cap, .int .i64 (lv : Int), .int .u64 (V : Int)] w fun e w' => e = .returned (.bool (decide ((lv, k) ∈ ts))) ∧ Below w.heap.size w w' := by
  have HQ := Lib.hid h
  obtain ⟨n, hn⟩ : ∃ n, ts.length = n := ⟨_, rfl⟩
  have HN := Lib.hid hn
  have HV := Lib.hid hV
  have HLv := Lib.hid hl
  rw [hn] at hlen hcap ⊢
  have HB0 : Hid (Below w.heap.size w w) := Below.refl _ _
  have HA0 : Hid (∀ i, n ≤ i → ts[i]? ≠ some (lv, k)) := fun i hi => by rw [List.getElem?_eq_none (by omega)]; exact fun e => by cases e
  have w0 : IntKind.i64.wrap ((n : Int) - 1) = (n : Int) - 1 := by rw [IntKind.wrap_i64]; omega
  clear h hn hl hV
  go_enter Tryz.func47, Tryz.ntmps47
  go_wp2_with fail
  go_loopw [7] (fun iv wr => ∃ (j : Nat) (z : Int), j ≤ n ∧ iv = .int .i64 z ∧ z = (j : Int) - 1 ∧ Hid (∀ i, j ≤ i → ts[i]? ≠ some (lv, k)) ∧ Hid (Below w.heap.size w wr)) (fun iv _ => (intOf iv + 1).toNat)
  case atStart => exact ⟨n, (n : Int) - 1, Nat.le_refl _, rfl, rfl, HA0, HB0⟩
  case round =>
    clear HB0 HA0 w0
    obtain ⟨j, z, hj, rfl, hz, HA, HB⟩ := hrel
    by_cases hj0 : j = 0
    · have jz : ¬ (0 : Int) ≤ z := by omega
      have HR : Hid (decide ((lv, k) ∈ ts) = false) := Lib.hid (decide_eq_false (fun hm => by
        obtain ⟨i, hi⟩ := List.mem_iff_getElem?.1 hm
        exact HA.out i (by omega) hi))
      clear HA
      go_wp2_with fail
      go_ret
      exact ⟨by rw [HR.out]; rfl, HB.out⟩
    · obtain ⟨i, rfl⟩ : ∃ i, j = i + 1 := ⟨j - 1, by omega⟩
      have hz2 : z = (i : Int) := by omega
      subst hz2
      have hi : i < ts.length := by rw [HN.out]; omega
      have jz : (0 : Int) ≤ (i : Int) := by omega
      have jn : (i : Int) < (n : Int) := by omega
      have wz : IntKind.i64.wrap ((i : Int) - 1) = (i : Int) - 1 := by rw [IntKind.wrap_i64]; omega
      have HQw : Hid (OwnQ wr b (.slice (some ⟨g, 0, none⟩) ts.length cap) ts E) := HQ.out.below HB.out
      have d0 := HQw.out.cell (i := i) (r := 0) hi (by decide)
      have d1 := HQw.out.cell (i := i) (r := 1) hi (by decide)
      unfold cq at d0 d1
      rw [getD_get hi, if_pos rfl] at d0
      rw [getD_get hi, if_neg (by decide), if_pos rfl] at d1
      have HY : Hid (ts[i]? = some ts[i]) := Lib.hid (List.getElem?_eq_getElem hi)
      generalize ts[i] = y at *
      obtain ⟨l0, hl0⟩ : ∃ l0, y.1 = l0 := ⟨_, rfl⟩
      obtain ⟨v0, hv0⟩ : ∃ v0, vq y = v0 := ⟨_, rfl⟩
      rw [hl0] at d0
      rw [hv0] at d1
      rw [Nat.add_zero] at d0
      have HL0 := Lib.hid hl0
      have HV0 := Lib.hid hv0
      clear hl0 hv0 hz
      by_cases h1 : l0 = lv
      · by_cases h2 : v0 = V
        · have HR : Hid (decide ((lv, k) ∈ ts) = true) := Lib.hid (decide_eq_true (by
            have e : y = (lv, k) := vq_inj HLv.out (HL0.out.trans h1) (by rw [HV0.out, h2, HV.out])
            exact List.mem_iff_getElem?.2 ⟨i, by rw [HY.out, e]⟩))
          subst h1 h2
          go_wp2_with fail
          go_ret
          exact ⟨by rw [HR.out]; rfl, HB.out⟩
        · have j2 : ¬ (v0 : Int) = (V : Int) := by omega
          have HA2 : Hid (∀ q, i ≤ q → ts[q]? ≠ some (lv, k)) := fun q hq e => by
            by_cases hqi : q = i
            · rw [hqi, HY.out] at e
              cases e
              exact h2 (by rw [← HV0.out, HV.out])
            · exact HA.out q (by omega) e
          subst h1
          clear HA
          go_wp2_with fail
          go_roundw
          case rel => exact ⟨i, (i : Int) - 1, by omega, rfl, rfl, HA2, HB⟩
          case measure => simp [intOf]
      · have j1 : ¬ (l0 : Int) = (lv : Int) := by omega
        have HA2 : Hid (∀ q, i ≤ q → ts[q]? ≠ some (lv, k)) := fun q hq e => by
          by_cases hqi : q = i
          · rw [hqi, HY.out] at e
            cases e
            exact h1 HL0.out.symm
          · exact HA.out q (by omega) e
        clear HA
        go_wp2_with fail
        go_roundw
        case rel => exact ⟨i, (i : Int) - 1, by omega, rfl, rfl, HA2, HB⟩
        case measure => simp [intOf]
set_option maxHeartbeats 4000000 in
theorem find_any {w : World} {b g cap : Nat} {ts : List (Nat × Nat)} {E : Nat → Nat} (h : OwnQ w b (.slice (some ⟨g, 0, none⟩) ts.length cap) ts E) (hlen : ts.length ≤ 2000) {lv k V I : Nat} (hl : lv = 1 ∨ lv = 2) (hV : vq (lv, k) = V) (hcap : ts.length ≤ cap) (hI : ts[I]? = some (lv, k)) (hF : ∀ i, ts[i]? = some (lv, k) → i = I) : Calls Tryz.prog 24 #[.slice (some ⟨g, 0, none⟩) ts.length cap, .int .i64 (lv : Int), .int .u64 (V : Int)] w fun e w' => e = .returned (.int .i64 (I : Int)) ∧ Below w.heap.size w w' := by
  have HQ := Lib.hid h
  obtain ⟨n, hn⟩ : ∃ n, ts.length = n := ⟨_, rfl⟩
  have HN := Lib.hid hn
  have HV := Lib.hid hV
  have HLv := Lib.hid hl
  have HI := Lib.hid hI
  have HF := Lib.hid hF
  have hIn : I < n := by rw [← hn]; exact (List.getElem?_eq_some_iff.1 hI).1
  rw [hn] at hlen hcap ⊢
  have HB0 : Hid (Below w.heap.size w w) := Below.refl _ _
  clear h hn hl hV hI hF
  go_enter Tryz.func24, Tryz.ntmps24
  go_wp2_with fail
  go_loopw [7] (fun iv wr => ∃ (i : Nat), i ≤ I ∧ iv = .int .i64 (i : Int) ∧ Hid (Below w.heap.size w wr)) (fun iv _ => n - (intOf iv).toNat)
  case atStart => exact ⟨0, Nat.zero_le _, rfl, HB0⟩
  case round =>
    clear HB0
    obtain ⟨i, hiI, rfl, HB⟩ := hrel
    have hi : i < ts.length := by rw [HN.out]; omega
    have jn : (i : Int) < (n : Int) := by omega
    have wz : IntKind.i64.wrap ((i : Int) + 1) = ((i + 1 : Nat) : Int) := by rw [IntKind.wrap_i64]; omega
    have HQw : Hid (OwnQ wr b (.slice (some ⟨g, 0, none⟩) ts.length cap) ts E) := HQ.out.below HB.out
    have d0 := HQw.out.cell (i := i) (r := 0) hi (by decide)
    have d1 := HQw.out.cell (i := i) (r := 1) hi (by decide)
    unfold cq at d0 d1
    rw [getD_get hi, if_pos rfl] at d0
    rw [getD_get hi, if_neg (by decide), if_pos rfl] at d1
    have HY : Hid (ts[i]? = some ts[i]) := Lib.hid (List.getElem?_eq_getElem hi)
    generalize ts[i] = y at *
    obtain ⟨l0, hl0⟩ : ∃ l0, y.1 = l0 := ⟨_, rfl⟩
    obtain ⟨v0, hv0⟩ : ∃ v0, vq y = v0 := ⟨_, rfl⟩
    rw [hl0] at d0
    rw [hv0] at d1
    rw [Nat.add_zero] at d0
    have HL0 := Lib.hid hl0
    have HV0 := Lib.hid hv0
    clear hl0 hv0
    by_cases hiE : i = I
    · have e : y = (lv, k) := by
        have h5 := HI.out
        rw [← hiE, HY.out] at h5
        cases h5
        rfl
      have h1 : l0 = lv := by rw [← HL0.out, e]
      have h2 : v0 = V := by rw [← HV0.out, e, HV.out]
      subst h1 h2 hiE
      clear e
      go_wp2_with fail
      go_ret
      exact ⟨rfl, HB.out⟩
    · have hne : ¬ (l0 = lv ∧ v0 = V) := fun ⟨h1, h2⟩ => by
        have e : y = (lv, k) := vq_inj HLv.out (HL0.out.trans h1) (by rw [HV0.out, h2, HV.out])
        exact hiE (HF.out i (by rw [HY.out, e]))
      by_cases h1 : l0 = lv
      · have j2 : ¬ (v0 : Int) = (V : Int) := fun e => hne ⟨h1, by omega⟩
        subst h1
        clear hne
        go_wp2_with fail
        go_roundw
        case rel => exact ⟨i + 1, by omega, rfl, HB⟩
        case measure => simp [intOf]; omega
      · have j1 : ¬ (l0 : Int) = (lv : Int) := by omega
        clear hne
        go_wp2_with fail
        go_roundw
        case rel => exact ⟨i + 1, by omega, rfl, HB⟩
        case measure => simp [intOf]; omega
end Go.Proofs.YtlplbbnicfeoaaaGreat
/- Pages: tree. Own work. -/
namespace Go.Proofs.YtlplbbnicfeoaaaGreat
open Go.RowKit Wk
set_option linter.unusedVariables false
/-- what is counted ahead of an entry of a middle table -/
def H2 (A B : Nat → Bool) (j k : Nat) : Nat := 1 + cntB A (j + 1) + cntB B (j * 512 + k)
theorem h2_zero {A B : Nat → Bool} {j : Nat} (h : A j = true) : H2 A B j 0 = T1 A B j + 1 := by
  unfold H2 T1
  simp only [cntB, h, if_true, Nat.add_zero]
  omega
theorem h2_end (A B : Nat → Bool) (j : Nat) : H2 A B j 512 = T1 A B (j + 1) := by
  unfold H2 T1
  rw [show j * 512 + 512 = (j + 1) * 512 by omega]
theorem h2_yes {A B : Nat → Bool} {j k : Nat} (h : B (j * 512 + k) = true) : H2 A B j (k + 1) = H2 A B j k + 1 := by
  unfold H2
  rw [show j * 512 + (k + 1) = j * 512 + k + 1 by omega]
  simp only [cntB, h, if_true]
  omega
theorem h2_no {A B : Nat → Bool} {j k : Nat} (h : B (j * 512 + k) = false) : H2 A B j (k + 1) = H2 A B j k := by
  unfold H2
  rw [show j * 512 + (k + 1) = j * 512 + k + 1 by omega]
  simp only [cntB, h]
  simp
theorem t1_no {base : Nat} {s : Bst} (hc : Cl base s) {j : Nat} (h : s.A j = false) : T1 s.A s.B (j + 1) = T1 s.A s.B j := by
  unfold T1
  rw [cntB_none (f := s.B) (a := j * 512) (b := (j + 1) * 512) (by omega) (fun i h1 h2 => by
    cases hb : s.B i with
    | false => rfl
    | true => have := hc.BA i hb; rw [show i / 512 = j by omega, h] at this; cases this)]
  simp only [cntB, h]
  simp
theorem t1_last {base : Nat} {s : Bst} (hc : Cl base s) : T1 s.A s.B 512 = s.nx := by
  have h0 := hc.n0
  have h1 := hc.n1
  rw [hc.nx]
  unfold T1
  rw [cntB_none (f := s.A) (a := s.n0) (b := 512) h0 (fun i h1 _ => hc.noA h1), cntB_none (f := s.B) (a := s.n1) (b := 512 * 512) h1 (fun i h1 _ => hc.noB h1)]
theorem t2_h2 (A B : Nat → Bool) {j k : Nat} (hk : k < 512) : T2 A B (j * 512 + k) = H2 A B j k := by
  unfold T2 H2
  rw [show (j * 512 + k) / 512 = j by omega]
theorem h2_bound {base : Nat} {s : Bst} (hc : Cl base s) (j k : Nat) : H2 s.A s.B j k ≤ s.nx := by
  have h1 := hc.cA (a := j + 1)
  have h2 : cntB s.B (j * 512 + k) ≤ cntB s.B s.n1 := by
    by_cases e : j * 512 + k ≤ s.n1
    · exact cntB_mono _ e
    · rw [cntB_none (f := s.B) (a := s.n1) (b := j * 512 + k) (by omega) (fun i hi _ => hc.noB hi)]
      exact Nat.le_refl _
  rw [hc.nx]
  unfold H2
  omega
theorem t1_bound {base : Nat} {s : Bst} (hc : Cl base s) (j : Nat) : T1 s.A s.B j ≤ s.nx := by
  have h1 := hc.cA (a := j)
  have h2 : cntB s.B (j * 512) ≤ cntB s.B s.n1 := by
    by_cases e : j * 512 ≤ s.n1
    · exact cntB_mono _ e
    · rw [cntB_none (f := s.B) (a := s.n1) (b := j * 512) (by omega) (fun i hi _ => hc.noB hi)]
      exact Nat.le_refl _
  rw [hc.nx]
  unfold T1
  omega
theorem GAt.same {w w' : World} {G n : Nat} {M : Nat → Nat} (h : GAt w G n M) (hb : Below w.heap.size w w') : GAt w' G n M := h.below hb
theorem ent_call {e : Nat} {l : Int} {r : Wk.Ent × Int} (he : e < 18446744073709551616) (hr : entB e l = r) (w : World) : Calls Tryz.prog 82 #[.int .u64 (e : Int), .int .i64 l] w fun x w' => x = .returned (.tuple #[.agg #[.int .u64 (r.1.1 : Int), .bool r.1.2.1, .bool r.1.2.2.1, .bool r.1.2.2.2.1, .bool r.1.2.2.2.2], .int .i64 r.2]) ∧ Below w.heap.size w w' := by
  have h := entry_any he l w
  rw [hr] at h
  exact h
end Go.Proofs.YtlplbbnicfeoaaaGreat
/- Pages: lists of leaves that are the same. Own work. -/
namespace Go.Proofs.YtlplbbnicfeoaaaGreat
open Go.RowKit Wk
set_option linter.unusedVariables false
theorem leaf_equal (x : L6) (w : World) : (Op.equalIn 10000 26 (V6 x) (V6 x)).run Tryz.prog w = .ok true w := by
  obtain ⟨v, p, n, b, wr, ex⟩ := x
  have u1 := Tryz.underlying4
  have a1 := Tryz.isAgg4
  have z1 := Tryz.sizeOf4
  have u := Tryz.underlying23
  have a2 := Tryz.isAgg23
  have z := Tryz.sizeOf23
  have u3 := Tryz.underlying3
  have a3 := Tryz.isAgg3
  have z3 := Tryz.sizeOf3
  have hS : Tryz.prog.underlying 26 = some (.struct (Tryz.prog.fieldsOf 26)) := by kernel_rfl
  have hp : Tryz.prog.stoodInHeld 26 = false := by kernel_rfl
  rw [V6, show (10000 : Nat) = 9999 + 1 from rfl, run_equalIn_agg w 9999 26 _ _ hS hp]
  simp only [Program.fieldsOf, Tryz.underlying26]
  go_simp
theorem leaf_neq (x : L6) (w : World) : (binOp .neq 26 (V6 x) (V6 x)).run Tryz.prog w = .ok (.bool false) w := by
  have := leaf_equal x w
  rw [V6] at *
  rw [run_neq_struct, this]
  rfl
theorem guard_leaf : Tryz.prog.eqGuardType Tryz.prog.depth 26 = false := by kernel_rfl
theorem quiet_load_leaf {o : Oper} {a : Act} {C : World → Prop} {K : Act → Prop} (x : Operand) (ho : o.op = .load 26 x) {p V : Value} (hx : a.eval x = p) (hl : ∀ w, C w → (Instr.loadAt 26 p).run Tryz.prog w = .ok V w) (hk : ∀ a', a.put o.dst V = a' → K a') : o.quiet Tryz.prog a C K :=
  ⟨V, fun w hw => by
    unfold Oper.quietAt execOp
    simp only [ho, hx, Sem.run_bind, Sem.run_pure, Result.andThen_ok, hl w hw]
    exact ⟨rfl, rfl⟩, hk _ rfl⟩
theorem quiet_neq_leaf {o : Oper} {a : Act} {C : World → Prop} {K : Act → Prop} (x y : Operand) {t' : TypeId} (ho : o.op = .binOp .neq 26 x y t') {V : Value} {f : L6} (hV : V = V6 f) (hx : a.eval x = V) (hy : a.eval y = V) (hk : ∀ a', a.put o.dst (.bool false) = a' → K a') : o.quiet Tryz.prog a C K :=
  ⟨_, fun w hw => by
    subst hV
    have hg : (eqGuard .neq 26 x y (V6 f) (V6 f)).run Tryz.prog w = .ok () w := run_eqGuard_agg w _ _ _ _ _ _ guard_leaf
    unfold Oper.quietAt execOp
    simp only [ho, hx, hy, Sem.run_bind, Sem.run_pure, Result.andThen_ok, hg, leaf_neq]
    exact ⟨rfl, rfl⟩, hk _ rfl⟩
theorem leaf_load {w : World} {b o : Nat} {x : L6} (c0 : w.cell? ⟨b, o, none⟩ = some (.int .u64 (x.v : Int))) (c1 : w.cell? ⟨b, o + 1, none⟩ = some (.int .u64 (x.p : Int))) (c2 : w.cell? ⟨b, o + 2, none⟩ = some (.int .i64 x.n)) (c3 : w.cell? ⟨b, o + 3, none⟩ = some (.bool x.big)) (c4 : w.cell? ⟨b, o + 4, none⟩ = some (.bool x.wr)) (c5 : w.cell? ⟨b, o + 5, none⟩ = some (.bool x.ex)) : (Instr.loadAt 26 (.pointer (some ⟨b, o, none⟩))).run Tryz.prog w = .ok (V6 x) w := by
  have hS : Tryz.prog.underlying 26 = some (.struct (Tryz.prog.fieldsOf 26)) := by kernel_rfl
  have hz : (Tryz.prog.info? 26).map (·.size) = some 6 := by kernel_rfl
  have := run_loadAt_mid (P := Tryz.prog) w b o 26 (encL x) _ (fun j v hv => by
    have hj : j < 6 := by have := (List.getElem?_eq_some_iff.1 hv).1; exact this
    rcases (by omega : j = 0 ∨ j = 1 ∨ j = 2 ∨ j = 3 ∨ j = 4 ∨ j = 5) with rfl | rfl | rfl | rfl | rfl | rfl
    · exact c0.trans hv
    · exact c1.trans hv
    · exact c2.trans hv
    · exact c3.trans hv
    · exact c4.trans hv
    · exact c5.trans hv) hS rfl hz
  rw [show V6 x = Value.agg (encL x).toArray from rfl]
  simpa using this
set_option maxRecDepth 100000 in
set_option maxHeartbeats 4000000 in
theorem sameL_yes {w : World} {u v : Value} {xs : List L6} (hu : Lv w u xs) (hv : Lv w v xs) : Calls Tryz.prog 26 #[u, v] w fun e w' => e = .returned (.bool true) ∧ Below w.heap.size w w' := by
  have HU := Lib.hid hu
  have HV := Lib.hid hv
  obtain ⟨ao, cap, rfl, h1, h2, _, _⟩ := hu
  obtain ⟨ao', cap', rfl, h1', h2', _, _⟩ := hv
  unfold maxLen at h2 h2'
  obtain ⟨n, hn⟩ : ∃ n, xs.length = n := ⟨_, rfl⟩
  have HN := Lib.hid hn
  rw [hn] at h1 h1' ⊢
  clear hn
  have HB0 : Hid (Below w.heap.size w w) := Below.refl _ _
  go_enter Tryz.func26, Tryz.ntmps26
  go_wp2_with fail
  go_loopw [5] (fun iv wr => ∃ i : Nat, i ≤ n ∧ iv = .int .i64 (i : Int) ∧ Hid (Below w.heap.size w wr)) (fun iv _ => n - (intOf iv).toNat)
  case atStart => exact ⟨0, by omega, rfl, HB0⟩
  case round =>
    clear HB0
    obtain ⟨i, hi, rfl, HB⟩ := hrel
    by_cases hin : i < n
    · have ji : (i : Int) < (n : Int) := by omega
      have hix : i < xs.length := by rw [HN.out]; exact hin
      have hw1 : IntKind.i64.wrap ((i : Int) + 1) = ((i + 1 : Nat) : Int) := by rw [IntKind.wrap_i64]; omega
      obtain ⟨_, _, e', _, _, _, hc⟩ := HU.out.below HB.out
      simp only [Value.slice.injEq] at e'
      obtain ⟨rfl, e9, rfl⟩ := e'
      clear e9
      obtain ⟨b, of, rfl, c0, c1, c2, c3, c4, c5⟩ := hc i hix
      obtain ⟨_, _, e', _, _, _, hc'⟩ := HV.out.below HB.out
      simp only [Value.slice.injEq] at e'
      obtain ⟨rfl, e9, rfl⟩ := e'
      clear e9
      obtain ⟨b', of', rfl, d0, d1, d2, d3, d4, d5⟩ := hc' i hix
      clear hc hc'
      generalize xs[i] = x at *
      obtain ⟨T, hT⟩ : ∃ T, V6 x = T := ⟨_, rfl⟩
      have l1 : ∀ k, (Instr.loadAt 26 (.pointer (some ⟨b, of + i * 6, none⟩))).run Tryz.prog (wr.drewN k) = .ok T (wr.drewN k) := fun k => by
        rw [← hT]
        exact leaf_load (w := wr.drewN k) c0 c1 c2 c3 c4 c5
      have l2 : ∀ k, (Instr.loadAt 26 (.pointer (some ⟨b', of' + i * 6, none⟩))).run Tryz.prog (wr.drewN k) = .ok T (wr.drewN k) := fun k => by
        rw [← hT]
        exact leaf_load (w := wr.drewN k) d0 d1 d2 d3 d4 d5
      have HT := Lib.hid hT.symm
      clear hT c0 c1 c2 c3 c4 c5 d0 d1 d2 d3 d4 d5
      go_upto_region 6 with fail
      refine wp_region_quiet_lit (by kernel_rfl) (by kernel_rfl) ?_
      go_big_quiet_step (fail)
      go_big_quiet_step (fail)
      go_big_quiet_step (fail)
      go_big_quiet_want
      refine quiet_load_leaf (.tmp 19) rfl rfl (fun W hW => by obtain ⟨k, rfl⟩ := hW; exact l1 k) ?_
      intro a' ha'
      simp only [Act.put, List.setIfInBounds_toArray, List.set_cons_succ, List.set_cons_zero] at ha'
      subst ha'
      go_big_quiet_on
      go_big_quiet_step (fail)
      go_big_quiet_step (fail)
      go_big_quiet_step (fail)
      go_big_quiet_want
      refine quiet_load_leaf (.tmp 23) rfl rfl (fun W hW => by obtain ⟨k, rfl⟩ := hW; exact l2 k) ?_
      intro a' ha'
      simp only [Act.put, List.setIfInBounds_toArray, List.set_cons_succ, List.set_cons_zero] at ha'
      subst ha'
      go_big_quiet_on
      go_big_quiet_want
      refine quiet_neq_leaf (.tmp 20) (.tmp 24) rfl HT.out rfl rfl ?_
      intro a' ha'
      simp only [Act.put, List.setIfInBounds_toArray, List.set_cons_succ, List.set_cons_zero] at ha'
      subst ha'
      go_big_quiet_on
      refine wpQuiet_nil ?_
      intro W1 hw1'
      obtain ⟨nq, hw2'⟩ := hw1'
      subst hw2'
      all_goals
        have HB1 : Hid (Below w.heap.size w (wr.drewN nq)) := HB.out.trans ⟨rfl, rfl, rfl, Nat.le_refl _, fun _ _ => rfl⟩
        clear HB l1 l2
        generalize (wr.drewN nq) = W1 at *
        go_wp2_with fail
        go_roundw
        case rel => exact ⟨i + 1, by omega, rfl, HB1⟩
        case measure => simp [intOf]; omega
    · have ji : ¬ (i : Int) < (n : Int) := by omega
      go_wp2_with fail
      go_ret
      exact ⟨rfl, HB.out⟩
/-- how many pages rows have together -/
def sumN : List L6 → Nat
  | [] => 0
  | x :: xs => x.n.toNat + sumN xs
def FewP (n : Nat) (w : World) (e : Ending) (w' : World) : Prop := ∃ b : Bool, e = .returned (.bool b) ∧ (b = true → n ≤ 20000) ∧ Below w.heap.size w w'
set_option maxRecDepth 100000 in
set_option maxHeartbeats 4000000 in
theorem few_any {w : World} {v : Value} {xs : List L6} (h : Lv w v xs) (hz : ∀ x ∈ xs, 1 ≤ x.n ∧ x.n ≤ 134217728) : Calls Tryz.prog 9 #[v] w (FewP xs.length w) := by
  have HR := Lib.hid h
  obtain ⟨ao, cap, rfl, h1, h2, _, _⟩ := h
  unfold maxLen at h2
  obtain ⟨n, hn⟩ : ∃ n, xs.length = n := ⟨_, rfl⟩
  have HN := Lib.hid hn
  have HZ : Hid (∀ x ∈ xs, 1 ≤ x.n ∧ x.n ≤ 134217728) := hz
  rw [hn] at h1 ⊢
  clear hn hz
  have HB0 : Hid (Below w.heap.size w w) := Below.refl _ _
  go_enter Tryz.func9, Tryz.ntmps9
  go_wp2_with fail
  go_loopw [3, 4] (fun nv iv wr => ∃ (i : Nat) (s : Nat), i ≤ n ∧ iv = .int .i64 (i : Int) ∧ nv = .int .i64 (s : Int) ∧ s ≤ 135266304 ∧ Hid (Below w.heap.size w wr)) (fun _ iv _ => n - (intOf iv).toNat)
  case atStart => exact ⟨0, 0, by omega, rfl, rfl, by omega, HB0⟩
  case round =>
    clear HB0
    obtain ⟨i, s, hi, rfl, rfl, hs, HB⟩ := hrel
    by_cases hin : i < n
    · have ji : (i : Int) < (n : Int) := by omega
      have hix : i < xs.length := by rw [HN.out]; exact hin
      have hw1 : IntKind.i64.wrap ((i : Int) + 1) = ((i + 1 : Nat) : Int) := by rw [IntKind.wrap_i64]; omega
      by_cases hs2 : s ≤ 1048576
      · have js : (s : Int) ≤ 1048576 := by omega
        obtain ⟨_, _, e', _, _, _, hc⟩ := HR.out.below HB.out
        simp only [Value.slice.injEq] at e'
        obtain ⟨rfl, e9, rfl⟩ := e'
        clear e9
        obtain ⟨b, of, rfl, c0, c1, c2, c3, c4, c5⟩ := hc i hix
        have hzi := HZ.out xs[i] (List.getElem_mem _)
        clear hc
        generalize xs[i] = x at *
        obtain ⟨m, hm⟩ : ∃ m : Nat, x.n = (m : Int) := ⟨x.n.toNat, by omega⟩
        rw [hm] at c2 hzi
        clear c0 c1 c3 c4 c5 hm
        have hw2 : IntKind.i64.wrap ((s : Int) + (m : Int)) = ((s + m : Nat) : Int) := by rw [IntKind.wrap_i64]; omega
        go_wp2_with fail
        go_roundw
        case rel => exact ⟨i + 1, s + m, by omega, rfl, rfl, by omega, HB⟩
        case measure => simp [intOf]; omega
      · have js : ¬ (s : Int) ≤ 1048576 := by omega
        go_wp2_with fail
        go_ret
        exact ⟨_, rfl, (fun e => by simp at e), HB.out⟩
    · have ji : ¬ (i : Int) < (n : Int) := by omega
      by_cases hs2 : s ≤ 1048576
      · have js : (s : Int) ≤ 1048576 := by omega
        by_cases hl : n ≤ 20000
        · have jl : (n : Int) ≤ 20000 := by omega
          go_wp2_with fail
          go_ret
          exact ⟨_, rfl, (fun _ => hl), HB.out⟩
        · have jl : ¬ (n : Int) ≤ 20000 := by omega
          go_wp2_with fail
          go_ret
          exact ⟨_, rfl, (fun e => by simp at e), HB.out⟩
      · have js : ¬ (s : Int) ≤ 1048576 := by omega
        go_wp2_with fail
        go_ret
        exact ⟨_, rfl, (fun e => by simp at e), HB.out⟩
end Go.Proofs.YtlplbbnicfeoaaaGreat
