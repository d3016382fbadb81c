/- Pages: PagesAlike, the walk. Own work. -/
import Derived.Test.YtjfpdphedpnelaaPgBa
import Derived.Test.YtjfpdphedpnelaaPgTr
import Derived.Test.YtjfpdphedpnelaaPgSl
import Derived.Test.YtjfpdphedpnelaaPgRunA
namespace Go.Proofs.Ytjfpdphedpnelaa
open Go.RowKit Wk
set_option linter.unusedVariables false
set_option maxRecDepth 20000 in
theorem not12 {b : Nat} (hb : b ≤ 18446744073709551615) : bits .andNot .u64 (b : Int) 4095 = ((b / 4096 * 4096 : Nat) : Int) := by
  have h := u64_andNot_nat b 4095 (by omega) (by decide)
  have h2 : b &&& (18446744073709551615 - 4095) = b / 4096 % 4503599627370496 * 4096 := land_mask b 12 52
  have h3 : bits .andNot .u64 (b : Int) 4095 = ((b &&& (18446744073709551615 - 4095) : Nat) : Int) := h
  rw [h3, h2, Nat.mod_eq_of_lt (Nat.div_lt_of_lt_mul (by omega))]
def lf1 : L6 := ⟨1073741824, 0, 1, false, false, false⟩
theorem lf1_tabs : tabsF 1 0 0 [lf1] = 3 := by decide
theorem lf1_refu : refuF 0 [lf1] = 0 := by decide
theorem lf1_why {b : Nat} (h4 : b % 4096 = 0) (hl : b < 2147483648) : whyF [lf1] b = 0 := by
  have hc : countF [lf1] = (3, 0) := by
    unfold countF
    rw [lf1_refu, lf1_tabs]
    rfl
  unfold whyF
  rw [hc, if_neg (by decide), if_neg (by omega), if_neg (by
    unfold winB
    rw [decide_eq_true (show b + 3 * 4096 ≤ 4294967296 by omega)]
    decide)]
theorem refu_all : ∀ {xs : List L6} {t : Nat}, refuF t xs = 0 → ∀ x ∈ xs, aloneF x = 0
  | [], _, _, x, hx => by cases hx
  | y :: ys, t, h, x, hx => by
    obtain ⟨h1, h2, h3⟩ := refuF_zero h
    rcases List.mem_cons.1 hx with rfl | hx
    · exact h1
    · exact refu_all h3 x hx
theorem alone_ok {x : L6} (h : aloneF x = 0) : L6.ok x ∧ 1 ≤ x.n ∧ x.n ≤ 134217728 := by
  obtain ⟨h1, h2, h3, h4, h5, h6⟩ := aloneF_zero h
  unfold L6.ok
  omega
/-- rows of the same leaves are built alike -/
theorem why_same {xs ys : List L6} {base : Nat} (hy : whyF xs base = 0) (hr : refuF 0 ys = 0) (hu : units ys = units xs) : whyF ys base = 0 ∧ tabsF 1 0 0 ys = tabsF 1 0 0 xs ∧ bldM ys base = bldM xs base := by
  obtain ⟨h1, h2, h3, h4, h5⟩ := why_zero hy
  have ht : tabsF 1 0 0 ys = tabsF 1 0 0 xs := by rw [← bld_nx base hr, ← bld_nx base h1, hu]
  refine ⟨?_, ht, by unfold bldM; rw [hu]⟩
  have hc : countF ys = (tabsF 1 0 0 xs, 0) := by unfold countF; rw [if_neg (by omega), ht, if_neg (by omega)]
  unfold whyF
  rw [hc, if_neg (show ¬ ((0 : Int) ≠ 0) by decide), if_neg (by omega), if_neg (by unfold winB; rw [decide_eq_true h5]; decide)]
theorem count_same {xs ys : List L6} {base : Nat} (hy : whyF xs base = 0) (hr : refuF 0 ys = 0) (hu : units ys = units xs) : countF ys = (tabsF 1 0 0 xs, 0) := by
  obtain ⟨h1, h2, h3, h4, h5⟩ := why_zero hy
  have ht : tabsF 1 0 0 ys = tabsF 1 0 0 xs := by rw [← bld_nx base hr, ← bld_nx base h1, hu]
  unfold countF
  rw [if_neg (by omega), ht, if_neg (by omega)]
def BigOk (s : Bst) : Prop := ∀ b, s.L1 b ≠ 0 → s.L1 b < 18446744073709551616 ∧ ∃ F wr ex, entB (s.L1 b) 1 = ((F, false, true, wr, ex), 0)
theorem step_bigok {base : Nat} {s : Bst} (h : BigOk s) {u : Un} (hu : u.big = true → u.p % 2097152 = 0 ∧ u.p < 4294967296) : BigOk (stepU base s u) := by
  obtain ⟨_, _, r3, _, _, _⟩ := step1_rest (base := base) (s := s) (v := u.v)
  obtain ⟨_, _, q3, _, _, _⟩ := step2_rest (base := base) (s := step1 base s u.v) (v := u.v)
  unfold stepU downS leafS
  by_cases hb : u.big = true
  · rw [if_pos hb, if_pos hb]
    obtain ⟨h1, h2⟩ := hu hb
    intro b
    simp only
    rw [r3]
    by_cases e : b = u.v / 2097152
    · rw [e, putM_at]
      intro _
      have hv : u.val = u.p + (1 + nbit u.wr 2 + nbit u.ex 4 + nbit true 8) := by unfold Un.val; rw [hb]
      have hf := fl_lt true u.wr u.ex
      refine ⟨by rw [hv]; omega, u.p, u.wr, u.ex, ?_⟩
      rw [hv]
      exact ent_big h1 h2 u.wr u.ex
    · rw [putM_ne _ e]
      exact h b
  · rw [if_neg hb, if_neg hb]
    intro b
    simp only
    rw [q3, r3]
    exact h b
theorem build_bigok {base : Nat} : ∀ {us : List Un} {s : Bst}, BigOk s → (∀ u ∈ us, u.big = true → u.p % 2097152 = 0 ∧ u.p < 4294967296) → BigOk (buildU base s us)
  | [], _, h, _ => h
  | u :: us, s, h, hu => build_bigok (us := us) (s := stepU base s u) (step_bigok h (hu u (by simp))) (fun v hv => hu v (by simp [hv]))
theorem units_bigok {xs : List L6} {t : Nat} (h : refuF t xs = 0) : ∀ u ∈ units xs, u.big = true → u.p % 2097152 = 0 ∧ u.p < 4294967296 := by
  intro u hu hb
  obtain ⟨x, hx, hux⟩ := List.mem_flatMap.1 hu
  obtain ⟨i, hi, rfl⟩ := List.mem_map.1 hux
  have hxa := refu_all h x hx
  obtain ⟨a1, a2, a3, a4⟩ := unitAt_ok hxa (List.mem_range.1 hi)
  obtain ⟨h1, h2, h3, h4, h5, h6⟩ := aloneF_zero hxa
  have hl : (unitAt x i).len = 2097152 := by unfold Un.len; rw [if_pos hb]
  rw [hl] at a2 a4
  exact ⟨a2, by omega⟩
set_option maxRecDepth 100000 in
set_option maxHeartbeats 4000000 in
theorem alike_tree {w : World} {G base : Nat} {xs : List L6} (hy : whyF xs base = 0) {n : Nat} (hn : tabsF 1 0 0 xs = n) (hg : GAt w G n (bldM xs base)) : Calls Try.prog 18 #[.slice (some ⟨G, 0, none⟩) n n, .int .u64 (base : Int)] w fun e w' => e = .returned (.bool true) ∧ Below w.heap.size w w' := by
  obtain ⟨h1, h2, h3, h4, h5⟩ := why_zero hy
  rw [hn] at h3 h5
  exact tree_any (rows_good h1 (cl0 base) up0).1 hg (by rw [bld_nx base h1, hn]) h3 h4 h5 (build_bigok (fun b hb => absurd rfl hb) (units_bigok h1))
theorem eachN_snoc (x : L6) (i n : Nat) : eachN x i (n + 1) = eachN x i n ++ [rowU (unitAt x (i + n))] := by
  unfold eachN
  rw [List.range_succ, List.map_append]
  rfl
theorem eachF_app (xs ys : List L6) : eachF (xs ++ ys) = eachF xs ++ eachF ys := by
  unfold eachF
  rw [units_app, List.map_append]
theorem eachF_take {xs : List L6} {i : Nat} (hi : i < xs.length) : eachF (xs.take (i + 1)) = eachF (xs.take i) ++ eachN xs[i] 0 (cntU xs[i]) := by
  rw [List.take_succ_eq_append_getElem hi, eachF_app, eachF_cons]
  simp [eachF, units]
end Go.Proofs.Ytjfpdphedpnelaa
