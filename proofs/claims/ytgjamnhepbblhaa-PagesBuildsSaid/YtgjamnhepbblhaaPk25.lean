import Derived.Test.YtgjamnhepbblhaaPk24
import Derived.Test.YtgjamnhepbblhaaPk20
import Derived.Test.YtgjamnhepbblhaaPk17
import Derived.Test.YtgjamnhepbblhaaPk22
import Derived.Test.YtgjamnhepbblhaaPk05
/- Pages: Build of any rows. Own work. -/
namespace Go.Proofs.Ytgjamnhepbblhaa
open Go.RowKit Wk
set_option linter.unusedVariables false
theorem why_zero {xs : List L6} {base : Nat} (h : whyF xs base = 0) : refuF 0 xs = 0 ∧ countF xs = (tabsF 1 0 0 xs, 0) ∧ tabsF 1 0 0 xs ≤ 1024 ∧ base % 4096 = 0 ∧ base + tabsF 1 0 0 xs * 4096 ≤ 4294967296 := by
  unfold whyF at h
  by_cases h1 : (countF xs).2 ≠ 0
  · rw [if_pos h1] at h
    exact absurd h h1
  rw [if_neg h1] at h
  have h1' : (countF xs).2 = 0 := by omega
  by_cases h0 : refuF 0 xs ≠ 0
  · unfold countF at h1'
    rw [if_pos h0] at h1'
    exact absurd h1' h0
  have hr : refuF 0 xs = 0 := by omega
  by_cases h4 : 1024 < tabsF 1 0 0 xs
  · unfold countF at h1'
    rw [if_neg h0, if_pos h4] at h1'
    cases h1'
  have hc : countF xs = (tabsF 1 0 0 xs, 0) := by unfold countF; rw [if_neg h0, if_neg h4]
  by_cases h5 : base % 4096 ≠ 0
  · rw [if_pos h5] at h
    cases h
  rw [if_neg h5] at h
  cases h6 : winB base (countF xs).1 4294967296 with
  | false =>
    rw [if_pos h6] at h
    cases h
  | true =>
    unfold winB at h6
    have h6 := of_decide_eq_true h6
    rw [hc] at h6
    exact ⟨hr, hc, by omega, by omega, h6⟩
/-- the tables that Build makes -/
def bldM (xs : List L6) (base : Nat) : Nat → Nat := (buildU base bst0 (units xs)).M
theorem bld_nx {xs : List L6} (base : Nat) (h : refuF 0 xs = 0) : (buildU base bst0 (units xs)).nx = tabsF 1 0 0 xs := rows_count h (cl0 base) up0
theorem tabs_pos {xs : List L6} (h : refuF 0 xs = 0) : 1 ≤ tabsF 1 0 0 xs := by
  rw [← bld_nx 0 h]
  exact buildU_nx 0 (units xs) bst0
theorem pre_good {xs : List L6} (base : Nat) (h : refuF 0 xs = 0) (i : Nat) : Cl base (buildU base bst0 (units (xs.take i))) ∧ Up (endF 0 (xs.take i)) (buildU base bst0 (units (xs.take i))) ∧ refuF (endF 0 (xs.take i)) (xs.drop i) = 0 := by
  have h' : refuF 0 (xs.take i ++ xs.drop i) = 0 := by rw [List.take_append_drop]; exact h
  obtain ⟨a, b⟩ := refuF_app.1 h'
  obtain ⟨c, d⟩ := rows_good (base := base) a (cl0 base) up0
  exact ⟨c, d, b⟩
theorem pre_nx {xs : List L6} (base : Nat) (h : refuF 0 xs = 0) (i : Nat) : (buildU base bst0 (units (xs.take i))).nx ≤ tabsF 1 0 0 xs := by
  rw [← bld_nx base h]
  have e : units xs = units (xs.take i) ++ units (xs.drop i) := by rw [← units_app, List.take_append_drop]
  rw [e, buildU_app]
  exact buildU_nx base _ _
theorem pre_next {xs : List L6} (base : Nat) {i : Nat} (hi : i < xs.length) : buildU base bst0 (units (xs.take (i + 1))) = buildU base (buildU base bst0 (units (xs.take i))) (unitsL xs[i]) := by
  rw [List.take_succ_eq_append_getElem hi, units_app, units_one, buildU_app]
set_option maxRecDepth 100000 in
set_option maxHeartbeats 4000000 in
theorem build_yes {w : World} {v : Value} {xs : List L6} {base : Nat} (h : Lv w v xs) (hb : base ≤ 18446744073709551615) (hy : whyF xs base = 0) {n : Nat} (hn : tabsF 1 0 0 xs = n) : Calls Try.prog 17 #[v, .int .u64 (base : Int)] w fun e w' => ∃ G, e = .returned (.tuple #[.slice (some ⟨G, 0, none⟩) n n, .int .i64 0]) ∧ GAt w' G n (bldM xs base) ∧ w.heap.size ≤ G ∧ Below w.heap.size w w' := by
  obtain ⟨hr, hc, hN, ha, hl⟩ := why_zero hy
  have h1n := tabs_pos hr
  have HCt := Lib.hid (count_any h)
  rw [hc] at HCt
  rw [hn] at HCt hN hl h1n
  have HRow : Hid (∀ i (hi : i < xs.length) (W : World) (B G : Nat), B ≠ G → Bw W B G n base (buildU base bst0 (units (xs.take i))) → Calls Try.prog 35 #[.pointer (some ⟨B, 0, none⟩), V6 xs[i]] W fun e w' => e = .returned (.tuple #[]) ∧ Bw w' B G n base (buildU base bst0 (units (xs.take (i + 1)))) ∧ Keeps (fun k => k = B ∨ k = G) W w') := fun i hi W B G hne hW => by
    obtain ⟨c, u, r⟩ := pre_good base hr i
    rw [List.drop_eq_getElem_cons hi] at r
    obtain ⟨r1, r2, r3⟩ := refuF_zero r
    have hx := pre_nx base hr (i + 1)
    rw [pre_next base hi] at hx ⊢
    rw [hn] at hx
    exact row_any r1 r2 hW c u hx hN ha hl hne
  have HW : Hid (∀ W, Calls Try.prog 33 #[.int .u64 (base : Int), .int .i64 (n : Int), .int .u64 4294967296] W fun e w' => e = .returned (.bool true) ∧ w' = W) := fun W => by
    have h5 := pwithin_any (a := base) (p := n) (bound := 4294967296) (by omega) (by omega) (by omega) W
    rw [show winB base n 4294967296 = true from decide_eq_true hl] at h5
    exact h5
  obtain ⟨m, rfl⟩ : ∃ m, n = m + 1 := ⟨n - 1, by omega⟩
  have HBg : Hid (∀ W G, Calls Try.prog 34 #[.slice (some ⟨G, 0, none⟩) (m + 1) (m + 1), .int .u64 (base : Int)] W fun e w' => e = .returned (.pointer (some ⟨W.heap.size, 0, none⟩)) ∧ (∃ r, Bb w' W.heap.size (win G 0) (.slice none 0 0) (.slice none 0 0) r (base + 4096) ∧ (m ≠ 0 → r = .slice (some ⟨G, 512, none⟩) m m)) ∧ Below W.heap.size W w') := fun W G => begun_any (m := m) (a := base) (by omega) (by omega)
  obtain ⟨ii, hii, hz0, hz1, hz2⟩ := info_parts info_tab
  have jm : ((base : Int).tmod 4096) = 0 := by
    have e : (base : Int).tmod 4096 = ((base % 4096 : Nat) : Int) := rfl
    rw [e, ha]
    rfl
  have HR := Lib.hid h
  obtain ⟨ao, cap, rfl, q1, q2, q3, q9⟩ := h
  clear q9
  unfold maxLen at q2
  obtain ⟨L, hL⟩ : ∃ L, xs.length = L := ⟨_, rfl⟩
  have HN := Lib.hid hL
  rw [hL] at q1 HCt ⊢
  have HE : Hid (bldM xs base = (buildU base bst0 (units (xs.take L))).M) := by
    have e : xs.take L = xs := by rw [← hL]; exact List.take_length
    show bldM xs base = _
    rw [e]
    rfl
  have HQ0 : Hid (buildU base bst0 (units (xs.take 0)) = bst0) := rfl
  clear hL q3 hy hn hr hc h1n ha hl
  have hN := Lib.hid hN
  go_enter Try.func17, Try.ntmps17
  go_wp2_with fail
  refine HCt.out.mono ?_
  rintro e w1 ⟨rfl, hb1⟩
  have HB1 := Lib.hid hb1
  clear hb1 HCt
  go_wp2_with fail
  refine (HW.out _).mono ?_
  rintro e w2 ⟨rfl, hw⟩
  have hw := hw.symm
  subst hw
  go_wp2_with (at_make; refine wpList_make_full _ rfl _ _ 48 rfl w1.heap.size 40 ii (.agg (tabV fun _ => 0)) 512 Try.underlying48 hii hz0 hz1 _ _ _ _ (m + 1) rfl rfl (by omega) (by have := hN.out; omega) (by rw [hz2]; have := hN.out; omega) (by have := hN.out; simp only [maxLen]; omega) (Nat.le_refl _) ?_)
  intro w3 hown hgrow
  have HG3 := Lib.hid (GAt.of_made (n := m + 1) hown)
  have hb3 : Below w1.heap.size w1 w3 := (Below.refl _ _).grown hgrow (Nat.le_refl _) (by simp)
  have HB3 := Lib.hid (HB1.out.trans (hb3.mono HB1.out.size))
  have HGw : Hid (w.heap.size ≤ w1.heap.size) := HB1.out.size
  clear hown hgrow hb3 hii hz0 hz1 hz2 HB1
  generalize w1.heap.size = G at *
  go_wp2_with fail
  refine (HBg.out _ _).mono ?_
  rintro e w4 ⟨rfl, ⟨r, hbb, hr⟩, hb4⟩
  have HG4 := Lib.hid (HG3.out.below hb4)
  have HB4 := Lib.hid (HB3.out.trans (hb4.mono HB3.out.size))
  have hne : w3.heap.size ≠ G := Nat.ne_of_gt HG3.out.lt
  have HS3 : Hid (w.heap.size ≤ w3.heap.size) := HB3.out.size
  have HBw : Hid (Bw w4 w3.heap.size G (m + 1) base (buildU base bst0 (units (xs.take 0)))) := by
    rw [HQ0.out]
    refine ⟨HG4.out, r, ?_, ?_⟩
    · show Bb w4 w3.heap.size (win G 0) (.slice none 0 0) (.slice none 0 0) r (base + 1 * 4096)
      rw [Nat.one_mul]
      exact hbb
    · intro hlt
      have hlt : 1 < m + 1 := hlt
      rw [hr (by omega)]
      rfl
  clear hbb hr hb4 HG3 HB3 HG4 HQ0
  generalize w3.heap.size = B at *
  go_wp2_with fail
  obtain ⟨Q, hQ⟩ : ∃ Q : Nat → Bst, ∀ i : Nat, buildU base bst0 (units (xs.take i)) = Q i := ⟨fun i => buildU base bst0 (units (xs.take i)), fun _ => rfl⟩
  have HRow : Hid (∀ i (hi : i < xs.length) (W : World), Bw W B G (m + 1) base (Q i) → Calls Try.prog 35 #[.pointer (some ⟨B, 0, none⟩), V6 xs[i]] W fun e w' => e = .returned (.tuple #[]) ∧ Bw w' B G (m + 1) base (Q (i + 1)) ∧ Keeps (fun k => k = B ∨ k = G) W w') := fun i hi W hW => by
    have h5 := HRow.out i hi W B G hne (by rw [hQ]; exact hW)
    rw [hQ] at h5
    exact h5
  rw [hQ] at HBw HE
  clear hQ
  go_loopw [37] (fun iv wr => ∃ i : Nat, i ≤ L ∧ iv = .int .i64 (i : Int) ∧ Hid (Bw wr B G (m + 1) base (Q i)) ∧ Hid (Below w.heap.size w wr)) (fun iv _ => L - (intOf iv).toNat)
  case atStart => exact ⟨0, by omega, rfl, HBw, HB4⟩
  case round =>
    clear HBw HB4
    obtain ⟨i, hi, rfl, HBw, HB⟩ := hrel
    by_cases hin : i < L
    · have hix : i < xs.length := by rw [HN.out]; exact hin
      have ji : (i : Int) < (L : Int) := by omega
      have hw1 : IntKind.i64.wrap ((i : Int) + 1) = ((i + 1 : Nat) : Int) := by rw [IntKind.wrap_i64]; omega
      obtain ⟨_, _, e', _, _, _, hcl⟩ := HR.out.below HB.out
      simp only [Value.slice.injEq] at e'
      obtain ⟨rfl, e9, rfl⟩ := e'
      clear e9
      obtain ⟨b, of, rfl, c0, c1, c2, c3, c4, c5⟩ := hcl i hix
      have HRi := Lib.hid (HRow.out i hix)
      clear hcl HRow
      generalize xs[i] = x at *
      unfold V6 at HRi
      have HB5 := Lib.hid (HBw.out.below (lf_below' wr x))
      have HB6 := Lib.hid (HB.out.trans ((lf_below' wr x).mono HB.out.size))
      go_wp2_with fail
      generalize (wr.alloc (.cells #[.int .u64 (x.v : Int), .int .u64 (x.p : Int), .int .i64 x.n, .bool x.big, .bool x.wr, .bool x.ex] 34)) = w5 at *
      clear c0 c1 c2 c3 c4 c5 HBw HB
      refine (HRi.out _ HB5.out).mono ?_
      rintro e w6 ⟨rfl, hb6, hk6⟩
      have HB7 := Lib.hid hb6
      have HB8 : Hid (Below w.heap.size w w6) := HB6.out.trans (hk6.below HB6.out.size (fun i _ e => e.elim (fun e => by rw [e]; exact HS3.out) (fun e => by rw [e]; exact HGw.out)))
      clear hb6 hk6 HB5 HB6
      go_wp2_with fail
      go_roundw
      case rel => exact ⟨i + 1, by omega, rfl, HB7, HB8⟩
      case measure => simp [intOf]; omega
    · have hiL : i = L := by omega
      have ji : ¬ (i : Int) < (L : Int) := by omega
      have HGf : Hid (GAt wr G (m + 1) (Q L).M) := by rw [← hiL]; exact HBw.out.1
      clear HBw hiL
      go_wp2_with fail
      go_ret2
      exact ⟨G, rfl, by rw [HE.out]; exact HGf.out, HGw.out, HB.out⟩
end Go.Proofs.Ytgjamnhepbblhaa
/- Pages: tree. Own work. -/
namespace Go.Proofs.Ytgjamnhepbblhaa
open Go.RowKit Wk
set_option linter.unusedVariables false
/-- what is counted ahead of an entry of a middle table -/
def H2 (A B : Nat → Bool) (j k : Nat) : Nat := 1 + cntB A (j + 1) + cntB B (j * 512 + k)
theorem h2_zero {A B : Nat → Bool} {j : Nat} (h : A j = true) : H2 A B j 0 = T1 A B j + 1 := by
  unfold H2 T1
  simp only [cntB, h, if_true, Nat.add_zero]
  omega
theorem h2_end (A B : Nat → Bool) (j : Nat) : H2 A B j 512 = T1 A B (j + 1) := by
  unfold H2 T1
  rw [show j * 512 + 512 = (j + 1) * 512 by omega]
theorem h2_yes {A B : Nat → Bool} {j k : Nat} (h : B (j * 512 + k) = true) : H2 A B j (k + 1) = H2 A B j k + 1 := by
  unfold H2
  rw [show j * 512 + (k + 1) = j * 512 + k + 1 by omega]
  simp only [cntB, h, if_true]
  omega
theorem h2_no {A B : Nat → Bool} {j k : Nat} (h : B (j * 512 + k) = false) : H2 A B j (k + 1) = H2 A B j k := by
  unfold H2
  rw [show j * 512 + (k + 1) = j * 512 + k + 1 by omega]
  simp only [cntB, h]
  simp
theorem t1_no {base : Nat} {s : Bst} (hc : Cl base s) {j : Nat} (h : s.A j = false) : T1 s.A s.B (j + 1) = T1 s.A s.B j := by
  unfold T1
  rw [cntB_none (f := s.B) (a := j * 512) (b := (j + 1) * 512) (by omega) (fun i h1 h2 => by
    cases hb : s.B i with
    | false => rfl
    | true => have := hc.BA i hb; rw [show i / 512 = j by omega, h] at this; cases this)]
  simp only [cntB, h]
  simp
theorem t1_last {base : Nat} {s : Bst} (hc : Cl base s) : T1 s.A s.B 512 = s.nx := by
  have h0 := hc.n0
  have h1 := hc.n1
  rw [hc.nx]
  unfold T1
  rw [cntB_none (f := s.A) (a := s.n0) (b := 512) h0 (fun i h1 _ => hc.noA h1), cntB_none (f := s.B) (a := s.n1) (b := 512 * 512) h1 (fun i h1 _ => hc.noB h1)]
theorem t2_h2 (A B : Nat → Bool) {j k : Nat} (hk : k < 512) : T2 A B (j * 512 + k) = H2 A B j k := by
  unfold T2 H2
  rw [show (j * 512 + k) / 512 = j by omega]
theorem h2_bound {base : Nat} {s : Bst} (hc : Cl base s) (j k : Nat) : H2 s.A s.B j k ≤ s.nx := by
  have h1 := hc.cA (a := j + 1)
  have h2 : cntB s.B (j * 512 + k) ≤ cntB s.B s.n1 := by
    by_cases e : j * 512 + k ≤ s.n1
    · exact cntB_mono _ e
    · rw [cntB_none (f := s.B) (a := s.n1) (b := j * 512 + k) (by omega) (fun i hi _ => hc.noB hi)]
      exact Nat.le_refl _
  rw [hc.nx]
  unfold H2
  omega
theorem t1_bound {base : Nat} {s : Bst} (hc : Cl base s) (j : Nat) : T1 s.A s.B j ≤ s.nx := by
  have h1 := hc.cA (a := j)
  have h2 : cntB s.B (j * 512) ≤ cntB s.B s.n1 := by
    by_cases e : j * 512 ≤ s.n1
    · exact cntB_mono _ e
    · rw [cntB_none (f := s.B) (a := s.n1) (b := j * 512) (by omega) (fun i hi _ => hc.noB hi)]
      exact Nat.le_refl _
  rw [hc.nx]
  unfold T1
  omega
theorem GAt.same {w w' : World} {G n : Nat} {M : Nat → Nat} (h : GAt w G n M) (hb : Below w.heap.size w w') : GAt w' G n M := h.below hb
theorem ent_call {e : Nat} {l : Int} {r : Wk.Ent × Int} (he : e < 18446744073709551616) (hr : entB e l = r) (w : World) : Calls Try.prog 55 #[.int .u64 (e : Int), .int .i64 l] w fun x w' => x = .returned (.tuple #[.agg #[.int .u64 (r.1.1 : Int), .bool r.1.2.1, .bool r.1.2.2.1, .bool r.1.2.2.2.1, .bool r.1.2.2.2.2], .int .i64 r.2]) ∧ Below w.heap.size w w' := by
  have h := entry_any he l w
  rw [hr] at h
  exact h
end Go.Proofs.Ytgjamnhepbblhaa
