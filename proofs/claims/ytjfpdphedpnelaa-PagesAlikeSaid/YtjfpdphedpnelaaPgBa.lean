/- Pages: Build of any rows. Own work. -/
import Derived.Test.YtjfpdphedpnelaaPgRw
import Derived.Test.YtjfpdphedpnelaaPgUr
import Derived.Test.YtjfpdphedpnelaaPgCnt
namespace Go.Proofs.Ytjfpdphedpnelaa
open Go.RowKit Wk
set_option linter.unusedVariables false
theorem why_zero {xs : List L6} {base : Nat} (h : whyF xs base = 0) : refuF 0 xs = 0 ∧ countF xs = (tabsF 1 0 0 xs, 0) ∧ tabsF 1 0 0 xs ≤ 1024 ∧ base % 4096 = 0 ∧ base + tabsF 1 0 0 xs * 4096 ≤ 4294967296 := by
  unfold whyF at h
  by_cases h1 : (countF xs).2 ≠ 0
  · rw [if_pos h1] at h
    exact absurd h h1
  rw [if_neg h1] at h
  have h1' : (countF xs).2 = 0 := by omega
  by_cases h0 : refuF 0 xs ≠ 0
  · unfold countF at h1'
    rw [if_pos h0] at h1'
    exact absurd h1' h0
  have hr : refuF 0 xs = 0 := by omega
  by_cases h4 : 1024 < tabsF 1 0 0 xs
  · unfold countF at h1'
    rw [if_neg h0, if_pos h4] at h1'
    cases h1'
  have hc : countF xs = (tabsF 1 0 0 xs, 0) := by unfold countF; rw [if_neg h0, if_neg h4]
  by_cases h5 : base % 4096 ≠ 0
  · rw [if_pos h5] at h
    cases h
  rw [if_neg h5] at h
  cases h6 : winB base (countF xs).1 4294967296 with
  | false =>
    rw [if_pos h6] at h
    cases h
  | true =>
    unfold winB at h6
    have h6 := of_decide_eq_true h6
    rw [hc] at h6
    exact ⟨hr, hc, by omega, by omega, h6⟩
/-- the tables that Build makes -/
def bldM (xs : List L6) (base : Nat) : Nat → Nat := (buildU base bst0 (units xs)).M
theorem bld_nx {xs : List L6} (base : Nat) (h : refuF 0 xs = 0) : (buildU base bst0 (units xs)).nx = tabsF 1 0 0 xs := rows_count h (cl0 base) up0
theorem tabs_pos {xs : List L6} (h : refuF 0 xs = 0) : 1 ≤ tabsF 1 0 0 xs := by
  rw [← bld_nx 0 h]
  exact buildU_nx 0 (units xs) bst0
theorem pre_good {xs : List L6} (base : Nat) (h : refuF 0 xs = 0) (i : Nat) : Cl base (buildU base bst0 (units (xs.take i))) ∧ Up (endF 0 (xs.take i)) (buildU base bst0 (units (xs.take i))) ∧ refuF (endF 0 (xs.take i)) (xs.drop i) = 0 := by
  have h' : refuF 0 (xs.take i ++ xs.drop i) = 0 := by rw [List.take_append_drop]; exact h
  obtain ⟨a, b⟩ := refuF_app.1 h'
  obtain ⟨c, d⟩ := rows_good (base := base) a (cl0 base) up0
  exact ⟨c, d, b⟩
theorem pre_nx {xs : List L6} (base : Nat) (h : refuF 0 xs = 0) (i : Nat) : (buildU base bst0 (units (xs.take i))).nx ≤ tabsF 1 0 0 xs := by
  rw [← bld_nx base h]
  have e : units xs = units (xs.take i) ++ units (xs.drop i) := by rw [← units_app, List.take_append_drop]
  rw [e, buildU_app]
  exact buildU_nx base _ _
theorem pre_next {xs : List L6} (base : Nat) {i : Nat} (hi : i < xs.length) : buildU base bst0 (units (xs.take (i + 1))) = buildU base (buildU base bst0 (units (xs.take i))) (unitsL xs[i]) := by
  rw [List.take_succ_eq_append_getElem hi, units_app, units_one, buildU_app]
set_option maxRecDepth 100000 in
set_option maxHeartbeats 4000000 in
theorem build_yes {w : World} {v : Value} {xs : List L6} {base : Nat} (h : Lv w v xs) (hb : base ≤ 18446744073709551615) (hy : whyF xs base = 0) {n : Nat} (hn : tabsF 1 0 0 xs = n) : Calls Try.prog 13 #[v, .int .u64 (base : Int)] w fun e w' => ∃ G, e = .returned (.tuple #[.slice (some ⟨G, 0, none⟩) n n, .int .i64 0]) ∧ GAt w' G n (bldM xs base) ∧ w.heap.size ≤ G ∧ Below w.heap.size w w' := by
  obtain ⟨hr, hc, hN, ha, hl⟩ := why_zero hy
  have h1n := tabs_pos hr
  have HCt := Lib.hid (count_any h)
  rw [hc] at HCt
  rw [hn] at HCt hN hl h1n
  have HRow : Hid (∀ i (hi : i < xs.length) (W : World) (B G : Nat), B ≠ G → Bw W B G n base (buildU base bst0 (units (xs.take i))) → Calls Try.prog 32 #[.pointer (some ⟨B, 0, none⟩), V6 xs[i]] W fun e w' => e = .returned (.tuple #[]) ∧ Bw w' B G n base (buildU base bst0 (units (xs.take (i + 1)))) ∧ Keeps (fun k => k = B ∨ k = G) W w') := fun i hi W B G hne hW => by
    obtain ⟨c, u, r⟩ := pre_good base hr i
    rw [List.drop_eq_getElem_cons hi] at r
    obtain ⟨r1, r2, r3⟩ := refuF_zero r
    have hx := pre_nx base hr (i + 1)
    rw [pre_next base hi] at hx ⊢
    rw [hn] at hx
    exact row_any r1 r2 hW c u hx hN ha hl hne
  have HW : Hid (∀ W, Calls Try.prog 30 #[.int .u64 (base : Int), .int .i64 (n : Int), .int .u64 4294967296] W fun e w' => e = .returned (.bool true) ∧ w' = W) := fun W => by
    have h5 := within_any (a := base) (p := n) (bound := 4294967296) (by omega) (by omega) (by omega) W
    rw [show winB base n 4294967296 = true from decide_eq_true hl] at h5
    exact h5
  obtain ⟨m, rfl⟩ : ∃ m, n = m + 1 := ⟨n - 1, by omega⟩
  have HBg : Hid (∀ W G, Calls Try.prog 31 #[.slice (some ⟨G, 0, none⟩) (m + 1) (m + 1), .int .u64 (base : Int)] W fun e w' => e = .returned (.pointer (some ⟨W.heap.size, 0, none⟩)) ∧ (∃ r, Bb w' W.heap.size (win G 0) (.slice none 0 0) (.slice none 0 0) r (base + 4096) ∧ (m ≠ 0 → r = .slice (some ⟨G, 512, none⟩) m m)) ∧ Below W.heap.size W w') := fun W G => begun_any (m := m) (a := base) (by omega) (by omega)
  obtain ⟨ii, hii, hz0, hz1, hz2⟩ := info_parts info_tab
  have jm : ((base : Int).tmod 4096) = 0 := by
    have e : (base : Int).tmod 4096 = ((base % 4096 : Nat) : Int) := rfl
    rw [e, ha]
    rfl
  have HR := Lib.hid h
  obtain ⟨ao, cap, rfl, q1, q2, q3, q9⟩ := h
  clear q9
  unfold maxLen at q2
  obtain ⟨L, hL⟩ : ∃ L, xs.length = L := ⟨_, rfl⟩
  have HN := Lib.hid hL
  rw [hL] at q1 HCt ⊢
  have HE : Hid (bldM xs base = (buildU base bst0 (units (xs.take L))).M) := by
    have e : xs.take L = xs := by rw [← hL]; exact List.take_length
    show bldM xs base = _
    rw [e]
    rfl
  have HQ0 : Hid (buildU base bst0 (units (xs.take 0)) = bst0) := rfl
  clear hL q3 hy hn hr hc h1n ha hl
  have hN := Lib.hid hN
  go_enter Try.func13, Try.ntmps13
  go_wp2_with fail
  refine HCt.out.mono ?_
  rintro e w1 ⟨rfl, hb1⟩
  have HB1 := Lib.hid hb1
  clear hb1 HCt
  go_wp2_with fail
  refine (HW.out _).mono ?_
  rintro e w2 ⟨rfl, hw⟩
  have hw := hw.symm
  subst hw
  go_wp2_with (at_make; refine wpList_make_full _ rfl _ _ 45 rfl w1.heap.size 40 ii (.agg (tabV fun _ => 0)) 512 Try.underlying45 hii hz0 hz1 _ _ _ _ (m + 1) rfl rfl (by omega) (by have := hN.out; omega) (by rw [hz2]; have := hN.out; omega) (by have := hN.out; simp only [maxLen]; omega) (Nat.le_refl _) ?_)
  intro w3 hown hgrow
  have HG3 := Lib.hid (GAt.of_made (n := m + 1) hown)
  have hb3 : Below w1.heap.size w1 w3 := (Below.refl _ _).grown hgrow (Nat.le_refl _) (by simp)
  have HB3 := Lib.hid (HB1.out.trans (hb3.mono HB1.out.size))
  have HGw : Hid (w.heap.size ≤ w1.heap.size) := HB1.out.size
  clear hown hgrow hb3 hii hz0 hz1 hz2 HB1
  generalize w1.heap.size = G at *
  go_wp2_with fail
  refine (HBg.out _ _).mono ?_
  rintro e w4 ⟨rfl, ⟨r, hbb, hr⟩, hb4⟩
  have HG4 := Lib.hid (HG3.out.below hb4)
  have HB4 := Lib.hid (HB3.out.trans (hb4.mono HB3.out.size))
  have hne : w3.heap.size ≠ G := Nat.ne_of_gt HG3.out.lt
  have HS3 : Hid (w.heap.size ≤ w3.heap.size) := HB3.out.size
  have HBw : Hid (Bw w4 w3.heap.size G (m + 1) base (buildU base bst0 (units (xs.take 0)))) := by
    rw [HQ0.out]
    refine ⟨HG4.out, r, ?_, ?_⟩
    · show Bb w4 w3.heap.size (win G 0) (.slice none 0 0) (.slice none 0 0) r (base + 1 * 4096)
      rw [Nat.one_mul]
      exact hbb
    · intro hlt
      have hlt : 1 < m + 1 := hlt
      rw [hr (by omega)]
      rfl
  clear hbb hr hb4 HG3 HB3 HG4 HQ0
  generalize w3.heap.size = B at *
  go_wp2_with fail
  obtain ⟨Q, hQ⟩ : ∃ Q : Nat → Bst, ∀ i : Nat, buildU base bst0 (units (xs.take i)) = Q i := ⟨fun i => buildU base bst0 (units (xs.take i)), fun _ => rfl⟩
  have HRow : Hid (∀ i (hi : i < xs.length) (W : World), Bw W B G (m + 1) base (Q i) → Calls Try.prog 32 #[.pointer (some ⟨B, 0, none⟩), V6 xs[i]] W fun e w' => e = .returned (.tuple #[]) ∧ Bw w' B G (m + 1) base (Q (i + 1)) ∧ Keeps (fun k => k = B ∨ k = G) W w') := fun i hi W hW => by
    have h5 := HRow.out i hi W B G hne (by rw [hQ]; exact hW)
    rw [hQ] at h5
    exact h5
  rw [hQ] at HBw HE
  clear hQ
  go_loopw [37] (fun iv wr => ∃ i : Nat, i ≤ L ∧ iv = .int .i64 (i : Int) ∧ Hid (Bw wr B G (m + 1) base (Q i)) ∧ Hid (Below w.heap.size w wr)) (fun iv _ => L - (intOf iv).toNat)
  case atStart => exact ⟨0, by omega, rfl, HBw, HB4⟩
  case round =>
    clear HBw HB4
    obtain ⟨i, hi, rfl, HBw, HB⟩ := hrel
    by_cases hin : i < L
    · have hix : i < xs.length := by rw [HN.out]; exact hin
      have ji : (i : Int) < (L : Int) := by omega
      have hw1 : IntKind.i64.wrap ((i : Int) + 1) = ((i + 1 : Nat) : Int) := by rw [IntKind.wrap_i64]; omega
      obtain ⟨_, _, e', _, _, _, hcl⟩ := HR.out.below HB.out
      simp only [Value.slice.injEq] at e'
      obtain ⟨rfl, e9, rfl⟩ := e'
      clear e9
      obtain ⟨b, of, rfl, c0, c1, c2, c3, c4, c5⟩ := hcl i hix
      have HRi := Lib.hid (HRow.out i hix)
      clear hcl HRow
      generalize xs[i] = x at *
      unfold V6 at HRi
      have HB5 := Lib.hid (HBw.out.below (lf_below' wr x))
      have HB6 := Lib.hid (HB.out.trans ((lf_below' wr x).mono HB.out.size))
      go_wp2_with fail
      generalize (wr.alloc (.cells #[.int .u64 (x.v : Int), .int .u64 (x.p : Int), .int .i64 x.n, .bool x.big, .bool x.wr, .bool x.ex] 34)) = w5 at *
      clear c0 c1 c2 c3 c4 c5 HBw HB
      refine (HRi.out _ HB5.out).mono ?_
      rintro e w6 ⟨rfl, hb6, hk6⟩
      have HB7 := Lib.hid hb6
      have HB8 : Hid (Below w.heap.size w w6) := HB6.out.trans (hk6.below HB6.out.size (fun i _ e => e.elim (fun e => by rw [e]; exact HS3.out) (fun e => by rw [e]; exact HGw.out)))
      clear hb6 hk6 HB5 HB6
      go_wp2_with fail
      go_roundw
      case rel => exact ⟨i + 1, by omega, rfl, HB7, HB8⟩
      case measure => simp [intOf]; omega
    · have hiL : i = L := by omega
      have ji : ¬ (i : Int) < (L : Int) := by omega
      have HGf : Hid (GAt wr G (m + 1) (Q L).M) := by rw [← hiL]; exact HBw.out.1
      clear HBw hiL
      go_wp2_with fail
      go_ret2
      exact ⟨G, rfl, by rw [HE.out]; exact HGf.out, HGw.out, HB.out⟩
end Go.Proofs.Ytjfpdphedpnelaa
