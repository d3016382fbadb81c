import Derived.Test.YtlplbbnicfeoaaaGreatPq14
import Derived.Test.YtlplbbnicfeoaaaGreatPq25
import Derived.Test.YtlplbbnicfeoaaaGreatPq31
import Derived.Test.YtlplbbnicfeoaaaGreatPq37
import Derived.Test.YtlplbbnicfeoaaaGreatPq38
import Derived.BigQuiet
/- Pages: PagesAlike, the walk. Own work. -/
namespace Go.Proofs.YtlplbbnicfeoaaaGreat
open Go.RowKit Wk
set_option linter.unusedVariables false
set_option maxRecDepth 20000 in
theorem not12 {b : Nat} (hb : b ≤ 18446744073709551615) : bits .andNot .u64 (b : Int) 4095 = ((b / 4096 * 4096 : Nat) : Int) := by
  have h := u64_andNot_nat b 4095 (by omega) (by decide)
  have h2 : b &&& (18446744073709551615 - 4095) = b / 4096 % 4503599627370496 * 4096 := land_mask b 12 52
  have h3 : bits .andNot .u64 (b : Int) 4095 = ((b &&& (18446744073709551615 - 4095) : Nat) : Int) := h
  rw [h3, h2, Nat.mod_eq_of_lt (Nat.div_lt_of_lt_mul (by omega))]
def lf1 : L6 := ⟨1073741824, 0, 1, false, false, false⟩
theorem lf1_tabs : tabsF 1 0 0 [lf1] = 3 := by decide
theorem lf1_refu : refuF 0 [lf1] = 0 := by decide
theorem lf1_why {b : Nat} (h4 : b % 4096 = 0) (hl : b < 2147483648) : whyF [lf1] b = 0 := by
  have hc : countF [lf1] = (3, 0) := by
    unfold countF
    rw [lf1_refu, lf1_tabs]
    rfl
  unfold whyF
  rw [hc, if_neg (by decide), if_neg (by omega), if_neg (by
    unfold winB
    rw [decide_eq_true (show b + 3 * 4096 ≤ 4294967296 by omega)]
    decide)]
theorem refu_all : ∀ {xs : List L6} {t : Nat}, refuF t xs = 0 → ∀ x ∈ xs, aloneF x = 0
  | [], _, _, x, hx => by cases hx
  | y :: ys, t, h, x, hx => by
    obtain ⟨h1, h2, h3⟩ := refuF_zero h
    rcases List.mem_cons.1 hx with rfl | hx
    · exact h1
    · exact refu_all h3 x hx
theorem alone_ok {x : L6} (h : aloneF x = 0) : L6.ok x ∧ 1 ≤ x.n ∧ x.n ≤ 134217728 := by
  obtain ⟨h1, h2, h3, h4, h5, h6⟩ := aloneF_zero h
  unfold L6.ok
  omega
/-- rows of the same leaves are built alike -/
theorem why_same {xs ys : List L6} {base : Nat} (hy : whyF xs base = 0) (hr : refuF 0 ys = 0) (hu : units ys = units xs) : whyF ys base = 0 ∧ tabsF 1 0 0 ys = tabsF 1 0 0 xs ∧ bldM ys base = bldM xs base := by
  obtain ⟨h1, h2, h3, h4, h5⟩ := why_zero hy
  have ht : tabsF 1 0 0 ys = tabsF 1 0 0 xs := by rw [← bld_nx base hr, ← bld_nx base h1, hu]
  refine ⟨?_, ht, by unfold bldM; rw [hu]⟩
  have hc : countF ys = (tabsF 1 0 0 xs, 0) := by unfold countF; rw [if_neg (by omega), ht, if_neg (by omega)]
  unfold whyF
  rw [hc, if_neg (show ¬ ((0 : Int) ≠ 0) by decide), if_neg (by omega), if_neg (by unfold winB; rw [decide_eq_true h5]; decide)]
theorem count_same {xs ys : List L6} {base : Nat} (hy : whyF xs base = 0) (hr : refuF 0 ys = 0) (hu : units ys = units xs) : countF ys = (tabsF 1 0 0 xs, 0) := by
  obtain ⟨h1, h2, h3, h4, h5⟩ := why_zero hy
  have ht : tabsF 1 0 0 ys = tabsF 1 0 0 xs := by rw [← bld_nx base hr, ← bld_nx base h1, hu]
  unfold countF
  rw [if_neg (by omega), ht, if_neg (by omega)]
def BigOk (s : Bst) : Prop := ∀ b, s.L1 b ≠ 0 → s.L1 b < 18446744073709551616 ∧ ∃ F wr ex, entB (s.L1 b) 1 = ((F, false, true, wr, ex), 0)
theorem step_bigok {base : Nat} {s : Bst} (h : BigOk s) {u : Un} (hu : u.big = true → u.p % 2097152 = 0 ∧ u.p < 4294967296) : BigOk (stepU base s u) := by
  obtain ⟨_, _, r3, _, _, _⟩ := step1_rest (base := base) (s := s) (v := u.v)
  obtain ⟨_, _, q3, _, _, _⟩ := step2_rest (base := base) (s := step1 base s u.v) (v := u.v)
  unfold stepU downS leafS
  by_cases hb : u.big = true
  · rw [if_pos hb, if_pos hb]
    obtain ⟨h1, h2⟩ := hu hb
    intro b
    simp only
    rw [r3]
    by_cases e : b = u.v / 2097152
    · rw [e, putM_at]
      intro _
      have hv : u.val = u.p + (1 + nbit u.wr 2 + nbit u.ex 4 + nbit true 8) := by unfold Un.val; rw [hb]
      have hf := fl_lt true u.wr u.ex
      refine ⟨by rw [hv]; omega, u.p, u.wr, u.ex, ?_⟩
      rw [hv]
      exact ent_big h1 h2 u.wr u.ex
    · rw [putM_ne _ e]
      exact h b
  · rw [if_neg hb, if_neg hb]
    intro b
    simp only
    rw [q3, r3]
    exact h b
theorem build_bigok {base : Nat} : ∀ {us : List Un} {s : Bst}, BigOk s → (∀ u ∈ us, u.big = true → u.p % 2097152 = 0 ∧ u.p < 4294967296) → BigOk (buildU base s us)
  | [], _, h, _ => h
  | u :: us, s, h, hu => build_bigok (us := us) (s := stepU base s u) (step_bigok h (hu u (by simp))) (fun v hv => hu v (by simp [hv]))
theorem units_bigok {xs : List L6} {t : Nat} (h : refuF t xs = 0) : ∀ u ∈ units xs, u.big = true → u.p % 2097152 = 0 ∧ u.p < 4294967296 := by
  intro u hu hb
  obtain ⟨x, hx, hux⟩ := List.mem_flatMap.1 hu
  obtain ⟨i, hi, rfl⟩ := List.mem_map.1 hux
  have hxa := refu_all h x hx
  obtain ⟨a1, a2, a3, a4⟩ := unitAt_ok hxa (List.mem_range.1 hi)
  obtain ⟨h1, h2, h3, h4, h5, h6⟩ := aloneF_zero hxa
  have hl : (unitAt x i).len = 2097152 := by unfold Un.len; rw [if_pos hb]
  rw [hl] at a2 a4
  exact ⟨a2, by omega⟩
theorem eachN_snoc (x : L6) (i n : Nat) : eachN x i (n + 1) = eachN x i n ++ [rowU (unitAt x (i + n))] := by
  unfold eachN
  rw [List.range_succ, List.map_append]
  rfl
theorem eachF_app (xs ys : List L6) : eachF (xs ++ ys) = eachF xs ++ eachF ys := by
  unfold eachF
  rw [units_app, List.map_append]
theorem eachF_take {xs : List L6} {i : Nat} (hi : i < xs.length) : eachF (xs.take (i + 1)) = eachF (xs.take i) ++ eachN xs[i] 0 (cntU xs[i]) := by
  rw [List.take_succ_eq_append_getElem hi, eachF_app, eachF_cons]
  simp [eachF, units]
end Go.Proofs.YtlplbbnicfeoaaaGreat
/- Pages: the document's tables, of any rows (written by parts/gen_pgtbs.py). Own work. -/
namespace Go.Proofs.YtlplbbnicfeoaaaGreat
open Go.RowKit Wk
set_option linter.unusedVariables false
set_option maxRecDepth 20000
theorem qrow_one (lv v : Int) : ∀ u ∈ (qrow lv v).toList, u.oneCell' = true := by
  intro u hu
  obtain ⟨r, hr⟩ := List.mem_iff_getElem?.1 hu
  rw [Array.getElem?_toList] at hr
  have hlt : r < 514 := by
    have := (Array.getElem?_eq_some_iff.1 hr).1
    rw [qrow_size] at this
    exact this
  rw [qrow_get lv v hlt] at hr
  cases hr
  split
  · rfl
  · split <;> rfl
theorem wpList_appendQ {w : World} {base : Nat} {ops : Array Oper} {rest : List Oper} {o : Oper} {a : Act} {Q : Exit → Act → World → Prop} (hgd : o.guard = none) (s x : Operand)
    (ho : o.op = .call { callee := .builtin .append, args := #[s, x], argTypes := #[66, 66] }) {v : Value} {ts : List (Nat × Nat)} {y : Nat × Nat} {q : Array Value} (hq : q = qrow (y.1 : Int) (vq y : Int)) {g cap : Nat} (hown : OwnQ w base v ts (fun _ => 0)) (hs : a.eval s = v) (hx : a.eval x = .slice (some ⟨g, 0, none⟩) 1 cap) (hg : w.heap[g]? = some (.cells q 69 (0, 0))) (hb : ts.length ≤ 2000) (hbase : base ≤ w.heap.size)
    (h : ∀ v' w', Hid (OwnQ w' base v' (ts ++ [y]) (fun _ => 0)) → Hid (w.grownBy w' v.ownBlock) → wpList Tryz.prog ops Q rest (a.put o.dst v') w') : wpList Tryz.prog ops Q (o :: rest) a w :=
  wpList_plain hgd fun K hK => by
    have hinfo := info_q
    have hZs := qrow_size 0 0
    generalize qrow 0 0 = Z at hinfo hZs
    have hqs : q.size = 514 := by rw [hq]; exact qrow_size _ _
    have hq1 : ∀ u ∈ q.toList, u.oneCell' = true := by rw [hq]; exact qrow_one _ _
    have hsn := cellsQ_snoc ts y
    rw [← hq] at hsn
    clear hq
    obtain ⟨i, hi, hz0, hz1, hz2⟩ := info_parts hinfo
    obtain ⟨v', w', r1, r2, r3, _, r5⟩ := run_append_own_at (P := Tryz.prog) w base 66 o.type 69 i (.agg Z) 514 4112 Tryz.underlying66 hi hz0 hz1 hz2 hZs (by omega) v ts.length (cellsQ ts fun _ => 0) hown ⟨g, 0, none⟩ 1 cap q.toList (by rw [Array.length_toList, hqs]) (fun j u hj => by
      rw [Addr.add_lit, Nat.zero_add, cell_of_row _ _ _ _ _ _ hg, ← Array.getElem?_toList]
      exact hj) hq1 (by unfold maxLen; omega) (by omega) hbase
    have h2 : OwnQ w' base v' (ts ++ [y]) (fun _ => 0) := by
      unfold OwnQ
      rw [List.length_append, hsn]
      exact r2
    unfold Oper.wp execOp
    simp only [ho, resolve, invoke, builtin, Sem.run_bind, Sem.run_pure, Result.andThen_ok, List.map_toArray, List.map_cons, List.map_nil, hs, hx, r1]
    exact hK _ _ (h v' w' h2 r3)
theorem wpList_qbuild {ops : Array Oper} {rest : List Oper} {o : Oper} {a : Act} {w : World} {Q : Exit → Act → World → Prop} (hgd : o.guard = none) (parts : Array (Nat × Operand)) (ho : o.op = .build 69 parts) (vals : Array (Nat × Value)) (hv : (parts.map fun (i, x) => (i, a.eval x)) = vals) {V : Value} (hr : ∀ W, (Instr.build 69 vals).run Tryz.prog W = .ok V W) (h : wpList Tryz.prog ops Q rest (a.put o.dst V) w) : wpList Tryz.prog ops Q (o :: rest) a w :=
  wpList_plain hgd fun K hK => by
    unfold Oper.wp execOp
    simp only [ho, Sem.run_bind, Sem.run_pure, Result.andThen_ok, hv, hr]
    exact hK _ _ h
theorem wpList_qslice {ops : Array Oper} {rest : List Oper} {o : Oper} {a : Act} {w : World} {Q : Exit → Act → World → Prop} (hgd : o.guard = none) (parts : Array (Nat × Operand)) (ho : o.op = .buildSlice 66 1 parts) (vals : Array (Nat × Value)) (hv : (parts.map fun (i, x) => (i, a.eval x)) = vals) {q : Array Value} (hr : ∀ W, (Instr.buildSlice 66 1 vals).run Tryz.prog W = .ok (.slice (some ⟨W.heap.size, 0, none⟩) 1 1) (W.alloc (.cells q 69))) (h : wpList Tryz.prog ops Q rest (a.put o.dst (.slice (some ⟨w.heap.size, 0, none⟩) 1 1)) (w.alloc (.cells q 69))) : wpList Tryz.prog ops Q (o :: rest) a w :=
  wpList_plain hgd fun K hK => by
    unfold Oper.wp execOp
    simp only [ho, Sem.run_bind, Sem.run_pure, Result.andThen_ok, hv, hr]
    exact hK _ _ h
theorem vq_one (a : Nat) : vq (1, a) = a * 1073741824 := by unfold vq; exact if_pos rfl
theorem vq_two (b : Nat) : vq (2, b) = b * 2097152 := by
  unfold vq
  rw [if_neg (show ¬ ((2, b) : Nat × Nat).1 = 1 from (fun e => by cases e)), if_pos rfl]
theorem d30 (b : Nat) : b * 2097152 / 1073741824 = b / 512 := by omega
theorem not21 {b : Nat} (hb : b ≤ 18446744073709551615) : bits .andNot .u64 (b : Int) 2097151 = ((b / 2097152 * 2097152 : Nat) : Int) := by
  have h := u64_andNot_nat b 2097151 (by omega) (by decide)
  have h2 : b &&& (18446744073709551615 - 2097151) = b / 2097152 % 8796093022208 * 2097152 := land_mask b 21 43
  have h3 : bits .andNot .u64 (b : Int) 2097151 = ((b &&& (18446744073709551615 - 2097151) : Nat) : Int) := h
  rw [h3, h2, Nat.mod_eq_of_lt (Nat.div_lt_of_lt_mul (by omega))]
theorem not30 {b : Nat} (hb : b ≤ 18446744073709551615) : bits .andNot .u64 (b : Int) 1073741823 = ((b / 1073741824 * 1073741824 : Nat) : Int) := by
  have h := u64_andNot_nat b 1073741823 (by omega) (by decide)
  have h2 : b &&& (18446744073709551615 - 1073741823) = b / 1073741824 % 17179869184 * 1073741824 := land_mask b 30 34
  have h3 : bits .andNot .u64 (b : Int) 1073741823 = ((b &&& (18446744073709551615 - 1073741823) : Nat) : Int) := h
  rw [h3, h2, Nat.mod_eq_of_lt (Nat.div_lt_of_lt_mul (by omega))]
theorem chF_full {xs : List L6} (hr : refuF 0 xs = 0) {i : Nat} (hi : i < xs.length) : ∀ j, j ≤ (xs[i].v + xs[i].n.toNat * 4096 - 1) / 2097152 + 1 - xs[i].v / 2097152 → (chF (tsU [(0, 0)] (units (xs.take i))) xs[i].big (xs[i].v / 2097152) j).length ≤ (tsU [(0, 0)] (units xs)).length := by
  intro j hj
  have hx := refu_all hr xs[i] (List.getElem_mem _)
  have e1 : tsU [(0, 0)] (units (xs.take (i + 1))) = chF (tsU [(0, 0)] (units (xs.take i))) xs[i].big (xs[i].v / 2097152) ((xs[i].v + xs[i].n.toNat * 4096 - 1) / 2097152 + 1 - xs[i].v / 2097152) := by
    rw [List.take_succ_eq_append_getElem hi, units_app, units_one, tsU_app, row_tabs hx]
  have e2 : units xs = units (xs.take (i + 1)) ++ units (xs.drop (i + 1)) := by rw [← units_app, List.take_append_drop]
  have h1 := chF_len (tsU [(0, 0)] (units (xs.take i))) xs[i].big (xs[i].v / 2097152) j ((xs[i].v + xs[i].n.toNat * 4096 - 1) / 2097152 + 1 - xs[i].v / 2097152 - j)
  rw [show j + ((xs[i].v + xs[i].n.toNat * 4096 - 1) / 2097152 + 1 - xs[i].v / 2097152 - j) = (xs[i].v + xs[i].n.toNat * 4096 - 1) / 2097152 + 1 - xs[i].v / 2097152 by omega, ← e1] at h1
  rw [e2, tsU_app]
  exact Nat.le_trans h1 (tsU_len _ _)
theorem chF_row {xs : List L6} (hr : refuF 0 xs = 0) {i : Nat} (hi : i < xs.length) : tsU [(0, 0)] (units (xs.take (i + 1))) = chF (tsU [(0, 0)] (units (xs.take i))) xs[i].big (xs[i].v / 2097152) ((xs[i].v + xs[i].n.toNat * 4096 - 1) / 2097152 + 1 - xs[i].v / 2097152) := by
  have hx := refu_all hr xs[i] (List.getElem_mem _)
  rw [List.take_succ_eq_append_getElem hi, units_app, units_one, tsU_app, row_tabs hx]
end Go.Proofs.YtlplbbnicfeoaaaGreat
