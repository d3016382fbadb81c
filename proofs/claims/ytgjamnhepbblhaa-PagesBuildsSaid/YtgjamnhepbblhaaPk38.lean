import Derived.Test.YtgjamnhepbblhaaPk30
import Derived.Test.YtgjamnhepbblhaaPk31
import Derived.Test.YtgjamnhepbblhaaPk32
/- Pages: the document's Build, with what it holds (written off PgRb). Own work. -/
namespace Go.Proofs.Ytgjamnhepbblhaa
open Go.RowKit Wk
set_option linter.unusedVariables false
def RbP (w : World) (n : Nat) (M : Nat → Nat) (e : Ending) (w' : World) : Prop := ∃ u, e = .returned (.tuple #[u, .int .i64 0]) ∧ OwnTm w' w.heap.size u n M ∧ Below w.heap.size w w'
set_option maxRecDepth 100000 in
set_option maxHeartbeats 8000000 in
theorem rbuild_full {w : World} {v : Value} {xs : List L6} {base : Nat} (h : Lv w v xs) (hb : base ≤ 18446744073709551615) (hy : whyF xs base = 0) : Calls Try.prog 14 #[v, .int .u64 (base : Int)] w (RbP w (tabsF 1 0 0 xs) (bldM xs base)) := by
  obtain ⟨hr, hc, hN, ha, hl⟩ := why_zero hy
  have hMM : bldM xs base = (buildU base bst0 (units xs)).M := rfl
  rw [hMM]
  have HKn := Lib.hid (kn_full base hr).1
  obtain ⟨k, hk⟩ : ∃ k, tabsF 1 0 0 xs = k := ⟨_, rfl⟩
  have h1k := tabs_pos hr
  have HCt := Lib.hid (rcount_any h)
  rw [hc] at HCt
  rw [hk] at HCt hN hl h1k ⊢
  have HFl := Lib.hid (full_len hr)
  rw [hk] at HFl
  have HTb : Hid (∀ W, Lv W v xs → Calls Try.prog 28 #[v] W (TbsP W xs)) := fun W hW => rtables_any hW hr
  obtain ⟨hRt, hCl⟩ := rt_full base hr
  have HRt := Lib.hid hRt
  have HCl := Lib.hid hCl
  clear hMM
  generalize buildU base bst0 (units xs) = s at *
  have HRc1 : Hid (∀ W, Calls Try.prog 29 #[.int .i64 1] W fun e w' => e = .returned (.int .u64 1073741824) ∧ Below W.heap.size W w') := fun W => preach_any (l := 1) (r := 1073741824) (Or.inr (Or.inl ⟨rfl, rfl⟩)) W
  have HRc2 : Hid (∀ W, Calls Try.prog 29 #[.int .i64 2] W fun e w' => e = .returned (.int .u64 2097152) ∧ Below W.heap.size W w') := fun W => preach_any (l := 2) (r := 2097152) (Or.inr (Or.inr ⟨rfl, rfl⟩)) W
  have jm : ((base : Int).tmod 4096) = 0 := by
    have e : (base : Int).tmod 4096 = ((base % 4096 : Nat) : Int) := rfl
    rw [e, ha]
    rfl
  have jb : decide ((4294967296 : Int) ≤ (base : Int)) = false := decide_eq_false (by omega)
  obtain ⟨q1, hq1⟩ : ∃ q : Nat, 4294967296 - base = q := ⟨_, rfl⟩
  have ws1 : IntKind.u64.wrap (4294967296 - (base : Int)) = (q1 : Int) := by rw [IntKind.wrap_u64]; omega
  obtain ⟨s1, hs1⟩ : ∃ s : Nat, q1 / 4096 = s := ⟨_, rfl⟩
  have wq1 : (q1 : Int).tdiv 4096 = (s1 : Int) := by rw [← hs1]; rfl
  have hs1b : s1 ≤ 4294967296 := by omega
  have jd : decide ((s1 : Int) < (k : Int)) = false := decide_eq_false (by omega)
  have jdn : decide (s1 < k) = false := decide_eq_false (by omega)
  have wk : IntKind.u64.wrap (k : Int) = (k : Int) := by rw [IntKind.wrap_u64]; omega
  have HR := Lib.hid h
  have HXa : Hid (∀ x ∈ xs, aloneF x = 0) := refu_all hr
  have Hl := Lib.hid hl
  have Ha := Lib.hid ha
  obtain ⟨ao, cap, rfl, p1, p2, p3, _⟩ := h
  unfold maxLen at p2
  obtain ⟨L, hL⟩ : ∃ L, xs.length = L := ⟨_, rfl⟩
  have HN := Lib.hid hL
  rw [hL] at p1 HCt HTb ⊢
  clear hq1 hs1 hy hk hr hc ha p3 hL hRt hCl
  go_enter Try.func14, Try.ntmps14
  go_wp2_with fail
  refine HCt.out.mono ?_
  rintro e w1 ⟨rfl, hb1⟩
  have HB1 := Lib.hid hb1
  clear hb1 HCt
  go_wp2_with fail
  refine (HTb.out _ (by rw [← HN.out]; exact HR.out.below HB1.out)).mono ?_
  rintro e w2 ⟨g, lc, ts, rfl, hO, hlc, hl0, hlm, hT, hF, hb2⟩
  have hle : ts.length ≤ 1024 := by
    by_cases e : ts.length ≤ 1024
    · exact e
    · have := hF (by omega)
      rw [HFl.out] at this
      omega
  have hts := hT hle
  have hlen : ts.length = k := by rw [hts]; exact HFl.out
  rw [← hts] at HRt
  have HB2 := Lib.hid (HB1.out.trans (hb2.mono HB1.out.size))
  have HO2 : Hid (OwnQ w2 w.heap.size (.slice (some ⟨g, 0, none⟩) ts.length lc) ts (fun _ => 0)) := by
    refine ⟨hO.1, ?_⟩
    rcases hO.2 with ⟨e, _⟩ | ⟨g', cap', cur, e, hbb, rest⟩
    · cases e
    · exact .inr ⟨g', cap', cur, e, Nat.le_trans HB1.out.size hbb, rest⟩
  have HLen := Lib.hid hlen
  have hts2 := Lib.hid hts
  rw [hlen] at hlc hl0 hlm HO2 ⊢
  clear hts hT hF hO hb2 HB1 HTb hlen hle HFl jm jb ws1 wq1 jd jdn wk hs1b
  go_wp2_with fail
  go_loopw [9] (fun iv wr => ∃ (i : Nat) (E : Nat → Nat), 1 ≤ i ∧ i ≤ k ∧ iv = .int .i64 (i : Int) ∧ Hid (Ly ts s i [] E) ∧ Hid (OwnQ wr w.heap.size (.slice (some ⟨g, 0, none⟩) k lc) ts E) ∧ Hid (Below w.heap.size w wr)) (fun iv _ => k - (intOf iv).toNat)
  case atStart => exact ⟨1, fun _ => 0, Nat.le_refl _, h1k, rfl, Ly.start ts s, HO2, HB2⟩
  case round =>
    clear HO2 HB2
    obtain ⟨i, E, hi1, hik, rfl, HLy, HO, HB⟩ := hrel
    by_cases hin : i < k
    · have hit : i < ts.length := by rw [HLen.out]; exact hin
      have ji : (i : Int) < (k : Int) := by omega
      have wi1 : IntKind.i64.wrap ((i : Int) + 1) = ((i + 1 : Nat) : Int) := by rw [IntKind.wrap_i64]; omega
      have wi : IntKind.u64.wrap (i : Int) = (i : Int) := by rw [IntKind.wrap_u64]; omega
      obtain ⟨K, hK⟩ : ∃ K, i * 4096 = K := ⟨_, rfl⟩
      obtain ⟨A, hA⟩ : ∃ A, base + K = A := ⟨_, rfl⟩
      have wK : IntKind.u64.wrap ((i : Int) * 4096) = (K : Int) := by rw [IntKind.wrap_u64]; omega
      have wA : IntKind.u64.wrap ((base : Int) + (K : Int)) = (A : Int) := by have := Hl.out; rw [IntKind.wrap_u64]; omega
      obtain ⟨z, hzd⟩ : ∃ z, A + 1 = z := ⟨_, rfl⟩
      have hzl : z ≤ 18446744073709551615 := by have := Hl.out; omega
      have hz : bits .or .u64 (A : Int) 1 = (z : Int) := by
        rw [← hzd]
        exact or_add (a := A) (b := 1) (by have := Hl.out; omega) (by have := Ha.out; omega) (by omega)
      have HZ : Hid (z = base + i * 4096 + 1) := Lib.hid (by omega)
      have hget : ts[i]? = some ts[i] := List.getElem?_eq_getElem hit
      have HOc : Hid (∀ (W : World), OwnQ W w.heap.size (.slice (some ⟨g, 0, none⟩) k lc) ts E → W.cell? ⟨g, i * 514, none⟩ = some (.int .i64 ((ts[i].1 : Nat) : Int)) ∧ W.cell? ⟨g, i * 514 + 1, none⟩ = some (.int .u64 (vq ts[i] : Int))) := fun W hW => by
        rw [← HLen.out] at hW
        have d0 := hW.cell (i := i) (r := 0) hit (by decide)
        have d1 := hW.cell (i := i) (r := 1) hit (by decide)
        unfold cq at d0 d1
        rw [getD_get hit, if_pos rfl] at d0
        rw [getD_get hit, if_neg (by decide), if_pos rfl] at d1
        exact ⟨d0, d1⟩
      have hmem := HRt.out.mem i ts[i].1 ts[i].2 (List.getElem?_eq_getElem hit)
      generalize ts[i] = y at *
      obtain ⟨lv, kk⟩ := y
      simp only at HOc hmem
      obtain ⟨V, hV⟩ : ∃ V, vq (lv, kk) = V := ⟨_, rfl⟩
      rw [hV] at HOc
      obtain ⟨d0, d1⟩ := HOc.out wr HO.out
      clear hK hA hzd
      have hgT : ts[i]? = some (lv, kk) := hget
      have HGt := Lib.hid hgT
      have HSt := Lib.hid (slot_tab HCl.out HRt.out hi1 hgT)
      clear hget hgT
      rcases hmem with ⟨h0, _⟩ | ⟨h0, hA, hI⟩ | ⟨h0, hB, hI⟩
      · omega
      · subst h0
        rw [vq_one] at hV
        have hk5 : kk < 512 := Nat.lt_of_lt_of_le (HCl.out.hA kk hA) HCl.out.n0
        have jq : (V : Int).tdiv 1073741824 = (kk : Int) := by
          have e : (V : Int).tdiv 1073741824 = ((V / 1073741824 : Nat) : Int) := rfl
          rw [e, ← hV, Nat.mul_div_cancel _ (by decide)]
        have jk5 : (kk : Int) < 512 := by omega
        have jk0 : (0 : Int) ≤ (kk : Int) := by omega
        have wkk : IntKind.u64.wrap (kk : Int) = (kk : Int) := by rw [IntKind.wrap_u64]; omega
        have hne : 2 + kk ≠ i * 514 + 1 := by omega
        have HLn : Hid (Ly ts s (i + 1) [] (putM E (0 * 512 + kk) z)) := Lib.hid (HLy.out.table HGt.out (by show 0 * 512 + kk = kk; omega) (by rw [HSt.out, HZ.out]))
        clear hA hI hV
        go_upto_region 14 with fail
        go_region_held3 (fun w' => w'.cell? ⟨g, i * 514 + 1, none⟩ = some (.int .u64 (V : Int))) (first | (exact cell_offD d9 hne) | (exact cell_off d9 hne) | (exact d9) | go_keep) (first | (go_at_call 29; refine (HRc1.out _).mono ?_; rintro e w9 ⟨rfl, hb9⟩; have HB9 := Lib.hid (HB.out.drew.trans (hb9.mono HB.out.size)); have HO9 := Lib.hid (OwnQ.below (w := wr.drew) HO.out hb9); obtain ⟨_, d9⟩ := HOc.out w9 HO9.out; have gf := HO9.out.free (2 + kk); have gc := HO9.out.ent0 HLen.out (by omega) hk5; clear hb9))
        all_goals
          have HO5 : Hid (OwnQ (w9.setCell ⟨g, 2 + kk, none⟩ (.int .u64 (z : Int))) w.heap.size (.slice (some ⟨g, 0, none⟩) k lc) ts (putM E (0 * 512 + kk) z)) := HO9.out.put0 HLen.out (by omega) hk5 z
          have HB5 : Hid (Below w.heap.size w (w9.setCell ⟨g, 2 + kk, none⟩ (.int .u64 (z : Int)))) := HB9.out.setCell (HO9.out.lt g rfl).1 _
          generalize (w9.setCell ⟨g, 2 + kk, none⟩ (.int .u64 (z : Int))) = w5 at *
          clear HO9 HB9 d9 gf gc d0 d1 HO HB
          go_wp2_with fail
          go_roundw
          case rel => exact ⟨i + 1, _, by omega, by omega, rfl, HLn, HO5, HB5⟩
          case measure => simp [intOf]; omega
      · subst h0
        rw [vq_two] at hV
        have hAk := HCl.out.BA kk hB
        have hk8 : kk < 262144 := Nat.lt_of_lt_of_le (HCl.out.hB kk hB) HCl.out.n1
        obtain ⟨I1, hI1⟩ : ∃ I1, T1 s.A s.B (kk / 512) = I1 := ⟨_, rfl⟩
        have hIt := HRt.out.A _ hAk
        rw [hI1] at hIt
        have hI1k : I1 < k := by rw [← HLen.out]; exact (List.getElem?_eq_some_iff.1 hIt).1
        obtain ⟨a3, ha3⟩ : ∃ a3, vq (1, kk / 512) = a3 := ⟨_, rfl⟩
        have HFd : Hid (∀ (W : World), OwnQ W w.heap.size (.slice (some ⟨g, 0, none⟩) k lc) ts E → Calls Try.prog 30 #[.slice (some ⟨g, 0, none⟩) k lc, .int .i64 1, .int .u64 (a3 : Int)] W fun e w' => e = .returned (.int .i64 (I1 : Int)) ∧ Below W.heap.size W w') := fun W hW => by
          rw [← HLen.out] at hW ⊢
          exact find_any hW (by rw [HLen.out]; omega) (Or.inl rfl) ha3 (by rw [HLen.out]; exact hlc) hIt (HRt.out.one hIt (Or.inl rfl))
        have hVl : V ≤ 549755813888 := by omega
        have jn : bits .andNot .u64 (V : Int) 1073741823 = (a3 : Int) := by
          rw [not30 (by omega), ← ha3, vq_one, ← hV, d30]
        have jnw : bits .andNot .u64 (V : Int) (IntKind.u64.wrap 1073741823) = (a3 : Int) := jn
        have jq : (V : Int).tdiv 2097152 = (kk : Int) := by
          have e : (V : Int).tdiv 2097152 = ((V / 2097152 : Nat) : Int) := rfl
          rw [e, ← hV, Nat.mul_div_cancel _ (by decide)]
        obtain ⟨j5, hj5⟩ : ∃ j5, kk % 512 = j5 := ⟨_, rfl⟩
        have jr : (kk : Int).tmod 512 = (j5 : Int) := by rw [← hj5]; rfl
        have hj5l : j5 < 512 := by rw [← hj5]; exact Nat.mod_lt _ (by decide)
        have jj5 : (j5 : Int) < 512 := by omega
        have jj0 : (0 : Int) ≤ (j5 : Int) := by omega
        have wkk : IntKind.u64.wrap (kk : Int) = (kk : Int) := by rw [IntKind.wrap_u64]; omega
        have wj5 : IntKind.u64.wrap (j5 : Int) = (j5 : Int) := by rw [IntKind.wrap_u64]; omega
        have jI : (I1 : Int) < (k : Int) := by omega
        have jI0 : (0 : Int) ≤ (I1 : Int) := by omega
        have hne : I1 * 514 + 2 + j5 ≠ i * 514 + 1 := by omega
        have HLn : Hid (Ly ts s (i + 1) [] (putM E (I1 * 512 + j5) z)) := Lib.hid (HLy.out.table HGt.out (by show I1 * 512 + j5 = T1 s.A s.B (kk / 512) * 512 + kk % 512; rw [hI1, hj5]) (by rw [HSt.out, HZ.out]))
        clear hAk hB hI hI1 hIt ha3 hV hj5 jn
        go_upto_region 15 with fail
        go_region_held3 (fun w' => w'.cell? ⟨g, i * 514 + 1, none⟩ = some (.int .u64 (V : Int))) (first | (exact d8) | (exact d9) | go_keep) (first | (go_at_call 29; refine (HRc1.out _).mono ?_; rintro e w9 ⟨rfl, hb9⟩; have HB9 := Lib.hid (HB.out.drew.trans (hb9.mono HB.out.size)); have HO9 := Lib.hid (OwnQ.below (w := wr.drew) HO.out hb9); obtain ⟨_, d9⟩ := HOc.out w9 HO9.out; clear hb9) | (go_at_call 30; refine (HFd.out _ HO9.out).mono ?_; rintro e w8 ⟨rfl, hb8⟩; have HB8 := Lib.hid (HB9.out.trans (hb8.mono HB9.out.size)); have HO8 := Lib.hid (OwnQ.below HO9.out hb8); obtain ⟨_, d8⟩ := HOc.out w8 HO8.out; clear hb8))
        all_goals
          clear HO HB HO9 HB9 d9 d0 d1 d8 jnw
          obtain ⟨d0, d1⟩ := HOc.out w8 HO8.out
          go_upto_region 16 with fail
          go_region_held3 (fun w' => w'.cell? ⟨g, i * 514 + 1, none⟩ = some (.int .u64 (V : Int))) (first | (exact cell_offD d7 hne) | (exact cell_off d7 hne) | (exact d7) | go_keep) (first | (go_at_call 29; refine (HRc2.out _).mono ?_; rintro e w7 ⟨rfl, hb7⟩; have HB7 := Lib.hid (HB8.out.drew.trans (hb7.mono HB8.out.size)); have HO7 := Lib.hid (OwnQ.below (w := w8.drew) HO8.out hb7); obtain ⟨_, d7⟩ := HOc.out w7 HO7.out; have gf := HO7.out.free (I1 * 514 + 2 + j5); have gc := HO7.out.ent HLen.out hI1k hj5l; clear hb7))
          all_goals
            have HO5 : Hid (OwnQ (w7.setCell ⟨g, I1 * 514 + 2 + j5, none⟩ (.int .u64 (z : Int))) w.heap.size (.slice (some ⟨g, 0, none⟩) k lc) ts (putM E (I1 * 512 + j5) z)) := HO7.out.put HLen.out hI1k hj5l z
            have HB5 : Hid (Below w.heap.size w (w7.setCell ⟨g, I1 * 514 + 2 + j5, none⟩ (.int .u64 (z : Int)))) := HB7.out.setCell (HO7.out.lt g rfl).1 _
            generalize (w7.setCell ⟨g, I1 * 514 + 2 + j5, none⟩ (.int .u64 (z : Int))) = w5 at *
            clear HO7 HB7 d7 gf gc d0 d1 HO8 HB8
            go_wp2_with fail
            go_roundw
            case rel => exact ⟨i + 1, _, by omega, by omega, rfl, HLn, HO5, HB5⟩
            case measure => simp [intOf]; omega
    · have ji : ¬ (i : Int) < (k : Int) := by omega
      have HLk : Hid (Ly ts s k (units (xs.take 0)) E) := by
        have e : i = k := by omega
        rw [e] at HLy
        exact HLy
      clear hi1 hik hin HLy
      go_wp2_with fail
      go_loopw [12] (fun iv wr => ∃ (i : Nat) (E : Nat → Nat), i ≤ L ∧ iv = .int .i64 (i : Int) ∧ Hid (Ly ts s k (units (xs.take i)) E) ∧ Hid (OwnQ wr w.heap.size (.slice (some ⟨g, 0, none⟩) k lc) ts E) ∧ Hid (Below w.heap.size w wr)) (fun iv _ => L - (intOf iv).toNat)
      case atStart => exact ⟨0, E, Nat.zero_le _, rfl, HLk, HO, HB⟩
      case round =>
        clear HO HB ji HLk
        obtain ⟨i, E, hiL, rfl, HLy, HO, HB⟩ := hrel
        by_cases hin : i < L
        · have hix : i < xs.length := by rw [HN.out]; exact hin
          have ji : (i : Int) < (L : Int) := by omega
          have wi1 : IntKind.i64.wrap ((i : Int) + 1) = ((i + 1 : Nat) : Int) := by rw [IntKind.wrap_i64]; omega
          obtain ⟨_, _, e', _, _, _, hcl⟩ := HR.out.below HB.out
          simp only [Value.slice.injEq] at e'
          obtain ⟨rfl, e9, rfl⟩ := e'
          clear e9
          obtain ⟨b, of, rfl, c0, c1, c2, c3, c4, c5⟩ := hcl i hix
          have hxm : xs[i] ∈ xs := List.getElem_mem _
          have hxa := HXa.out xs[i] hxm
          have HTk : Hid (units (xs.take (i + 1)) = units (xs.take i) ++ unitsL xs[i]) := Lib.hid (by rw [List.take_succ_eq_append_getElem hix, units_app, units_one])
          clear hcl
          generalize xs[i] = x at *
          obtain ⟨z1', z2', z3', z4', z5', z6'⟩ := aloneF_zero hxa
          obtain ⟨hcm, hc1⟩ := cntU_mul hxa
          obtain ⟨xv, xp, xn, xb, xw, xe⟩ := x
          simp only at z1' z4' z5' c0 c1 c2 c3 c4 c5
          obtain ⟨m, rfl⟩ : ∃ m : Nat, xn = (m : Int) := ⟨xn.toNat, by omega⟩
          have hv39 : xv + m * 4096 ≤ 549755813888 := z4'
          have hp32 : xp + m * 4096 ≤ 4294967296 := z5'
          obtain ⟨U, hU⟩ : ∃ U, unitF ⟨xv, xp, (m : Int), xb, xw, xe⟩ = U := ⟨_, rfl⟩
          obtain ⟨C, hC⟩ : ∃ C, cntU ⟨xv, xp, (m : Int), xb, xw, xe⟩ = C := ⟨_, rfl⟩
          have hU1 : 1 ≤ U := by rw [← hU]; rcases unitF_cases ⟨xv, xp, (m : Int), xb, xw, xe⟩ with ⟨_, e⟩ | ⟨_, e⟩ <;> omega
          have hcm : cntU ⟨xv, xp, (m : Int), xb, xw, xe⟩ * unitF ⟨xv, xp, (m : Int), xb, xw, xe⟩ = m * 4096 := hcm
          have HUa : Hid (∀ c, c < C → ∀ av, av = xv + c * U → av = (unitAt ⟨xv, xp, (m : Int), xb, xw, xe⟩ c).v) := fun c _ av e => by rw [e, ← hU]; rfl
          have HUn : Hid (∀ W, Calls Try.prog 24 #[.agg #[.int .u64 (xv : Int), .int .u64 (xp : Int), .int .i64 (m : Int), .bool xb, .bool xw, .bool xe]] W fun e w' => e = .returned (.int .u64 (U : Int)) ∧ Below W.heap.size W w') := fun W => by rw [← hU]; exact runit_any ⟨xv, xp, (m : Int), xb, xw, xe⟩ W
          have HTe : Hid (unitsL ⟨xv, xp, (m : Int), xb, xw, xe⟩ = unitsN ⟨xv, xp, (m : Int), xb, xw, xe⟩ C) := Lib.hid (by unfold unitsL; rw [hC])
          have HUp : Hid (∀ c, c < C → ∀ ap, ap = xp + c * U → ap = (unitAt ⟨xv, xp, (m : Int), xb, xw, xe⟩ c).p ∧ ap % 16 = 0) := fun c hc ap e => by
            have e1 : ap = (unitAt ⟨xv, xp, (m : Int), xb, xw, xe⟩ c).p := by rw [e, ← hU]; rfl
            refine ⟨e1, ?_⟩
            have h5 := (unitAt_ok hxa (show c < cntU _ by rw [hC]; exact hc)).2.1
            rw [← e1] at h5
            rcases (show (unitAt ⟨xv, xp, (m : Int), xb, xw, xe⟩ c).len = 2097152 ∨ (unitAt ⟨xv, xp, (m : Int), xb, xw, xe⟩ c).len = 4096 by unfold Un.len; split <;> simp) with e2 | e2 <;> rw [e2] at h5 <;> omega
          have HCc : Hid (∀ c, c < C → c < cntU ⟨xv, xp, (m : Int), xb, xw, xe⟩) := fun c h => by rw [hC]; exact h
          rw [hU, hC] at hcm
          obtain ⟨Sz, hSz⟩ : ∃ Sz, m * 4096 = Sz := ⟨_, rfl⟩
          rw [hSz] at hcm hv39 hp32
          have wm : IntKind.u64.wrap (m : Int) = (m : Int) := by rw [IntKind.wrap_u64]; omega
          have wS : IntKind.u64.wrap ((m : Int) * 4096) = (Sz : Int) := by rw [IntKind.wrap_u64]; omega
          have HCm := Lib.hid hcm
          clear hcm hC hU hSz z1' z2' z3' z4' z5' z6' hxa
          have HL : Hid (LfAt (wr.alloc (.cells #[.int .u64 (xv : Int), .int .u64 (xp : Int), .int .i64 (m : Int), .bool xb, .bool xw, .bool xe] 34)) wr.heap.size ⟨xv, xp, (m : Int), xb, xw, xe⟩) := heap_alloc_new wr _
          have HB1 : Hid (Below w.heap.size w (wr.alloc (.cells #[.int .u64 (xv : Int), .int .u64 (xp : Int), .int .i64 (m : Int), .bool xb, .bool xw, .bool xe] 34))) := HB.out.alloc HB.out.size _
          have HO1 : Hid (OwnQ (wr.alloc (.cells #[.int .u64 (xv : Int), .int .u64 (xp : Int), .int .i64 (m : Int), .bool xb, .bool xw, .bool xe] 34)) w.heap.size (.slice (some ⟨g, 0, none⟩) k lc) ts E) := HO.out.below ((Below.refl _ _).alloc (Nat.le_refl _) _)
          have hXg : wr.heap.size ≠ g := Nat.ne_of_gt (HO.out.lt g rfl).2
          go_upto_region 21 with fail
          generalize (wr.alloc (.cells #[.int .u64 (xv : Int), .int .u64 (xp : Int), .int .i64 (m : Int), .bool xb, .bool xw, .bool xe] 34)) = y1 at *
          generalize wr.heap.size = X at *
          clear c0 c1 c2 c3 c4 c5 HO HB
          obtain ⟨c0, c1, c2, c3, c4, c5⟩ := HL.out.cells
          simp only at c0 c1 c2 c3 c4 c5
          go_upto_if 108 with fail
          go_cut [14] (fun y wx => ∃ fl : Nat, y = .int .u64 (fl : Int) ∧ fl ≤ 3 ∧ fl = 1 + nbit xw 2 ∧ wx = y1)
          case first =>
            cases xw with
            | true =>
              go_wp2_with fail
              go_meet
              exact ⟨3, rfl, by omega, rfl, rfl⟩
            | false =>
              go_wp2_with fail
              go_meet
              exact ⟨1, rfl, by omega, rfl, rfl⟩
          case rest =>
          obtain ⟨fl, rfl, hfl, hfe, hw⟩ := hcut
          have HFe := Lib.hid hfe
          have hw := hw.symm
          subst hw
          clear hfe
          have wfl : IntKind.u64.wrap ((fl : Int) + 4) = ((fl + 4 : Nat) : Int) := by rw [IntKind.wrap_u64]; omega
          go_upto_if 112 with fail
          go_cut [14] (fun y wx => ∃ fl : Nat, y = .int .u64 (fl : Int) ∧ fl ≤ 7 ∧ fl = 1 + nbit xw 2 + nbit xe 4 ∧ wx = y1)
          case first =>
            cases xe with
            | true =>
              go_wp2_with fail
              go_meet
              exact ⟨fl + 4, rfl, by omega, by rw [HFe.out]; rfl, rfl⟩
            | false =>
              go_wp2_with fail
              go_meet
              exact ⟨fl, rfl, by omega, by rw [HFe.out]; rfl, rfl⟩
          case rest =>
          clear hfl wfl HFe
          obtain ⟨fl, rfl, hfl, hfe, hw⟩ := hcut
          have HFe := Lib.hid hfe
          clear hfe
          have HLy0 : Hid (Ly ts s k (units (xs.take i) ++ unitsN ⟨xv, xp, (m : Int), xb, xw, xe⟩ 0) E) := by
            have e : unitsN ⟨xv, xp, (m : Int), xb, xw, xe⟩ 0 = [] := rfl
            rw [e, List.append_nil]
            exact HLy
          have hw := hw.symm
          subst hw
          go_wp2_with fail
          clear c0 c1 c2 c3 c4 c5
          go_loopw [15] (fun kv wr => ∃ (c kq : Nat) (E : Nat → Nat), c ≤ C ∧ kv = .int .u64 (kq : Int) ∧ Hid (kq = c * U) ∧ kq ≤ Sz ∧ Hid (Ly ts s k (units (xs.take i) ++ unitsN ⟨xv, xp, (m : Int), xb, xw, xe⟩ c) E) ∧ Hid (OwnQ wr w.heap.size (.slice (some ⟨g, 0, none⟩) k lc) ts E) ∧ Hid (LfAt wr X ⟨xv, xp, (m : Int), xb, xw, xe⟩) ∧ Hid (Below w.heap.size w wr)) (fun kv _ => Sz - (intOf kv).toNat)
          case atStart => exact ⟨0, 0, E, Nat.zero_le _, rfl, Lib.hid (Nat.zero_mul _).symm, Nat.zero_le _, HLy0, HO1, HL, HB1⟩
          case round =>
          clear HO1 HL HB1 HLy0 HLy
          obtain ⟨c, kq, E, hcC, rfl, HKq, hkS, HLy, HO, HL, HB⟩ := hrel
          obtain ⟨c0, c1, c2, c3, c4, c5⟩ := HL.out.cells
          simp only at c0 c1 c2 c3 c4 c5
          by_cases hcl : c < C
          · have hcc := HCc.out c hcl
            have HQ2 : Hid (kq + U = (c + 1) * U) := Lib.hid (by rw [HKq.out, Nat.add_mul, Nat.one_mul])
            have hk2 : kq + U ≤ Sz := by
              have h5 : (c + 1) * U ≤ C * U := Nat.mul_le_mul_right _ hcl
              have h6 := HQ2.out
              have h7 := HCm.out
              omega
            have jk : (kq : Int) < (Sz : Int) := by omega
            obtain ⟨av, hav⟩ : ∃ av, xv + kq = av := ⟨_, rfl⟩
            obtain ⟨ap, hap⟩ : ∃ ap, xp + kq = ap := ⟨_, rfl⟩
            have HAv : Hid (av = (unitAt ⟨xv, xp, (m : Int), xb, xw, xe⟩ c).v) := Lib.hid (HUa.out c hcl av (by rw [← hav, HKq.out]))
            have wv : IntKind.u64.wrap ((xv : Int) + (kq : Int)) = (av : Int) := by rw [IntKind.wrap_u64]; omega
            have wp : IntKind.u64.wrap ((xp : Int) + (kq : Int)) = (ap : Int) := by rw [IntKind.wrap_u64]; omega
            have havl : av ≤ 549755813888 := by omega
            have hapl : ap ≤ 4294967296 := by omega
            have wkU : IntKind.u64.wrap ((kq : Int) + (U : Int)) = ((kq + U : Nat) : Int) := by rw [IntKind.wrap_u64]; omega
            obtain ⟨hup1, hup2⟩ := HUp.out c hcl ap (by rw [← hap, HKq.out])
            obtain ⟨z1, hz1d⟩ : ∃ z, ap + fl = z := ⟨_, rfl⟩
            obtain ⟨z2, hz2d⟩ : ∃ z, z1 + 8 = z := ⟨_, rfl⟩
            have hz1 : bits .or .u64 (ap : Int) (fl : Int) = (z1 : Int) := by rw [← hz1d]; exact or_add (by omega) hup2 (by omega)
            have hz2 : bits .or .u64 (z1 : Int) 8 = (z2 : Int) := by rw [← hz2d, ← hz1d]; exact or_add8 (by omega) hup2 (by omega)
            have hz1l : z1 ≤ 18446744073709551615 := by omega
            have hz2l : z2 ≤ 18446744073709551615 := by omega
            have HMv := Lib.hid (slot_leaf HCl.out HKn.out (unit_mem hxm hcc))
            have HZ1 : Hid (z1 = (unitAt ⟨xv, xp, (m : Int), xb, xw, xe⟩ c).p + (1 + nbit xw 2 + nbit xe 4)) := Lib.hid (by rw [← hz1d, hup1, HFe.out])
            have HZ2 := Lib.hid hz2d.symm
            have HSu := Lib.hid (unitsN_succ ⟨xv, xp, (m : Int), xb, xw, xe⟩ c)
            clear hav hap HKq hz1d hz2d hup1 hup2
            cases xb with
            | true =>
              have HKey : Hid ((1, av / 2097152 / 512) ∈ ts) := Lib.hid (by rw [hts2.out, HAv.out]; exact (tsU_has (unit_mem hxm hcc)).1)
              obtain ⟨I1, hI1k, hIt, hIu⟩ := find_at1 HRt.out (Or.inl rfl) HKey.out
              rw [HLen.out] at hI1k
              obtain ⟨a3, ha3⟩ : ∃ a3, vq (1, av / 2097152 / 512) = a3 := ⟨_, rfl⟩
              have HFd : Hid (∀ (W : World), OwnQ W w.heap.size (.slice (some ⟨g, 0, none⟩) k lc) ts E → Calls Try.prog 30 #[.slice (some ⟨g, 0, none⟩) k lc, .int .i64 1, .int .u64 (a3 : Int)] W fun e w' => e = .returned (.int .i64 (I1 : Int)) ∧ Below W.heap.size W w') := fun W hW => by
                rw [← HLen.out] at hW ⊢
                exact find_any hW (by rw [HLen.out]; omega) (Or.inl rfl) ha3 (by rw [HLen.out]; exact hlc) hIt hIu
              have jn : bits .andNot .u64 (av : Int) 1073741823 = (a3 : Int) := by
                rw [not30 (by omega), ← ha3, vq_one, Nat.div_div_eq_div_mul]
              have jnw : bits .andNot .u64 (av : Int) (IntKind.u64.wrap 1073741823) = (a3 : Int) := jn
              have ha3l : a3 ≤ 549755813888 := by
                have h5 : a3 ≤ av := by rw [← ha3, vq_one, Nat.div_div_eq_div_mul]; exact Nat.div_mul_le_self _ _
                omega
              obtain ⟨b5, hb5⟩ : ∃ b5, av / 2097152 = b5 := ⟨_, rfl⟩
              have jq : (av : Int).tdiv 2097152 = (b5 : Int) := by rw [← hb5]; rfl
              have hb5l : b5 ≤ 549755813888 := by have : av / 2097152 ≤ av := Nat.div_le_self _ _; omega
              have wb5 : IntKind.u64.wrap (b5 : Int) = (b5 : Int) := by rw [IntKind.wrap_u64]; omega
              obtain ⟨j5, hj5⟩ : ∃ j5, b5 % 512 = j5 := ⟨_, rfl⟩
              have jr : (b5 : Int).tmod 512 = (j5 : Int) := by rw [← hj5]; rfl
              have hj5l : j5 < 512 := by rw [← hj5]; exact Nat.mod_lt _ (by decide)
              have jj5 : (j5 : Int) < 512 := by omega
              have jj0 : (0 : Int) ≤ (j5 : Int) := by omega
              have wj5 : IntKind.u64.wrap (j5 : Int) = (j5 : Int) := by rw [IntKind.wrap_u64]; omega
              have jI : (I1 : Int) < (k : Int) := by omega
              have jI0 : (0 : Int) ≤ (I1 : Int) := by omega
              have HLn : Hid (Ly ts s k (units (xs.take i) ++ unitsN ⟨xv, xp, (m : Int), true, xw, xe⟩ (c + 1)) (putM E (I1 * 512 + j5) z2)) := by
                have hT := HRt.out.A (av / 2097152 / 512) ((HRt.out.has1 _).1 HKey.out)
                have hTI := hIu _ hT
                have h5 := HLy.out.leaf (u := unitAt ⟨xv, xp, (m : Int), true, xw, xe⟩ c) (p := I1 * 512 + j5) (v := z2) (by
                  show I1 * 512 + j5 = T1 s.A s.B ((unitAt ⟨xv, xp, (m : Int), true, xw, xe⟩ c).v / 1073741824) * 512 + (unitAt ⟨xv, xp, (m : Int), true, xw, xe⟩ c).v / 2097152 % 512
                  rw [← HAv.out, hb5, hj5, ← hTI, Nat.div_div_eq_div_mul]) (by rw [HMv.out, HZ2.out, HZ1.out]; show _ = _ + (1 + nbit xw 2 + nbit xe 4 + 8); omega)
                show Ly _ _ _ _ _
                rw [HSu.out, ← List.append_assoc]
                exact h5
              clear hIt hIu ha3 hb5 hj5 jn HKey
              go_upto_region 31 with fail
              go_region_held3 (fun w' => w'.cell? ⟨X, 1, none⟩ = some (.int .u64 (xp : Int))) (first | (exact cell_pastD e8 hXg) | (exact cell_past e8 hXg) | (exact e8) | (exact e9) | go_keep) (first | (go_at_call 29; refine (HRc1.out _).mono ?_; rintro e w9 ⟨rfl, hb9⟩; have HB9 := Lib.hid (HB.out.drew.trans (hb9.mono HB.out.size)); have HO9 := Lib.hid (OwnQ.below (w := wr.drew) HO.out hb9); have HL9 := Lib.hid (LfAt.below (w := wr.drew) HL.out hb9); have e9 := HL9.out.cells.2.1; clear hb9) | (go_at_call 30; refine (HFd.out _ HO9.out).mono ?_; rintro e w8 ⟨rfl, hb8⟩; have HB8 := Lib.hid (HB9.out.trans (hb8.mono HB9.out.size)); have HO8 := Lib.hid (OwnQ.below HO9.out hb8); have HL8 := Lib.hid (HL9.out.below hb8); have e8 := HL8.out.cells.2.1; have gf := HO8.out.free (I1 * 514 + 2 + j5); have gc := HO8.out.ent HLen.out hI1k hj5l; clear hb8))
              all_goals
                have HO5 : Hid (OwnQ (w8.setCell ⟨g, I1 * 514 + 2 + j5, none⟩ (.int .u64 (z2 : Int))) w.heap.size (.slice (some ⟨g, 0, none⟩) k lc) ts (putM E (I1 * 512 + j5) z2)) := HO8.out.put HLen.out hI1k hj5l z2
                have HB5 : Hid (Below w.heap.size w (w8.setCell ⟨g, I1 * 514 + 2 + j5, none⟩ (.int .u64 (z2 : Int)))) := HB8.out.setCell (HO8.out.lt g rfl).1 _
                have HL5 : Hid (LfAt (w8.setCell ⟨g, I1 * 514 + 2 + j5, none⟩ (.int .u64 (z2 : Int))) X ⟨xv, xp, (m : Int), true, xw, xe⟩) := HL8.out.other hXg
                generalize (w8.setCell ⟨g, I1 * 514 + 2 + j5, none⟩ (.int .u64 (z2 : Int))) = w5 at *
                clear HO9 HB9 HL9 HO8 HB8 HL8 e9 e8 gf gc HO HB HL c0 c1 c2 c3 c4 c5 jnw
                obtain ⟨c0, c1, c2, c3, c4, c5⟩ := HL5.out.cells
                simp only at c0 c1 c2 c3 c4 c5
                go_wp2_with fail
                refine (HUn.out _).mono ?_
                rintro e w6 ⟨rfl, hb6⟩
                have HB6 := Lib.hid (HB5.out.trans (hb6.mono HB5.out.size))
                have HO6 := Lib.hid (HO5.out.below hb6)
                have HL6 := Lib.hid (HL5.out.below hb6)
                clear hb6 HB5 HO5 HL5 c0 c1 c2 c3 c4 c5
                go_wp2_with fail
                go_roundw
                case rel => exact ⟨c + 1, kq + U, _, by omega, rfl, HQ2, hk2, HLn, HO6, HL6, HB6⟩
                case measure => simp [intOf]; omega
            | false =>
              have HKey : Hid ((2, av / 2097152) ∈ ts) := Lib.hid (by rw [hts2.out, HAv.out]; exact (tsU_has (unit_mem hxm hcc)).2 rfl)
              obtain ⟨I1, hI1k, hIt, hIu⟩ := find_at1 HRt.out (Or.inr rfl) HKey.out
              rw [HLen.out] at hI1k
              obtain ⟨a3, ha3⟩ : ∃ a3, vq (2, av / 2097152) = a3 := ⟨_, rfl⟩
              have HFd : Hid (∀ (W : World), OwnQ W w.heap.size (.slice (some ⟨g, 0, none⟩) k lc) ts E → Calls Try.prog 30 #[.slice (some ⟨g, 0, none⟩) k lc, .int .i64 2, .int .u64 (a3 : Int)] W fun e w' => e = .returned (.int .i64 (I1 : Int)) ∧ Below W.heap.size W w') := fun W hW => by
                rw [← HLen.out] at hW ⊢
                exact find_any hW (by rw [HLen.out]; omega) (Or.inr rfl) ha3 (by rw [HLen.out]; exact hlc) hIt hIu
              have jn : bits .andNot .u64 (av : Int) 2097151 = (a3 : Int) := by
                rw [not21 (by omega), ← ha3, vq_two]
              have jnw : bits .andNot .u64 (av : Int) (IntKind.u64.wrap 2097151) = (a3 : Int) := jn
              have ha3l : a3 ≤ 549755813888 := by
                have h5 : a3 ≤ av := by rw [← ha3, vq_two]; exact Nat.div_mul_le_self _ _
                omega
              obtain ⟨b5, hb5⟩ : ∃ b5, av / 4096 = b5 := ⟨_, rfl⟩
              have jq : (av : Int).tdiv 4096 = (b5 : Int) := by rw [← hb5]; rfl
              have hb5l : b5 ≤ 549755813888 := by have : av / 4096 ≤ av := Nat.div_le_self _ _; omega
              have wb5 : IntKind.u64.wrap (b5 : Int) = (b5 : Int) := by rw [IntKind.wrap_u64]; omega
              obtain ⟨j5, hj5⟩ : ∃ j5, b5 % 512 = j5 := ⟨_, rfl⟩
              have jr : (b5 : Int).tmod 512 = (j5 : Int) := by rw [← hj5]; rfl
              have hj5l : j5 < 512 := by rw [← hj5]; exact Nat.mod_lt _ (by decide)
              have jj5 : (j5 : Int) < 512 := by omega
              have jj0 : (0 : Int) ≤ (j5 : Int) := by omega
              have wj5 : IntKind.u64.wrap (j5 : Int) = (j5 : Int) := by rw [IntKind.wrap_u64]; omega
              have jI : (I1 : Int) < (k : Int) := by omega
              have jI0 : (0 : Int) ≤ (I1 : Int) := by omega
              have HLn : Hid (Ly ts s k (units (xs.take i) ++ unitsN ⟨xv, xp, (m : Int), false, xw, xe⟩ (c + 1)) (putM E (I1 * 512 + j5) z1)) := by
                have hT := HRt.out.B (av / 2097152) ((HRt.out.has2 _).1 HKey.out)
                have hTI := hIu _ hT
                have h5 := HLy.out.leaf (u := unitAt ⟨xv, xp, (m : Int), false, xw, xe⟩ c) (p := I1 * 512 + j5) (v := z1) (by
                  show I1 * 512 + j5 = T2 s.A s.B ((unitAt ⟨xv, xp, (m : Int), false, xw, xe⟩ c).v / 2097152) * 512 + (unitAt ⟨xv, xp, (m : Int), false, xw, xe⟩ c).v / 4096 % 512
                  rw [← HAv.out, hb5, hj5, ← hTI]) (by rw [HMv.out, HZ1.out]; rfl)
                show Ly _ _ _ _ _
                rw [HSu.out, ← List.append_assoc]
                exact h5
              clear hIt hIu ha3 hb5 hj5 jn HKey
              go_upto_region 32 with fail
              go_region_held3 (fun w' => w'.cell? ⟨X, 1, none⟩ = some (.int .u64 (xp : Int))) (first | (exact cell_pastD e8 hXg) | (exact cell_past e8 hXg) | (exact e8) | (exact e9) | go_keep) (first | (go_at_call 29; refine (HRc2.out _).mono ?_; rintro e w9 ⟨rfl, hb9⟩; have HB9 := Lib.hid (HB.out.drew.trans (hb9.mono HB.out.size)); have HO9 := Lib.hid (OwnQ.below (w := wr.drew) HO.out hb9); have HL9 := Lib.hid (LfAt.below (w := wr.drew) HL.out hb9); have e9 := HL9.out.cells.2.1; clear hb9) | (go_at_call 30; refine (HFd.out _ HO9.out).mono ?_; rintro e w8 ⟨rfl, hb8⟩; have HB8 := Lib.hid (HB9.out.trans (hb8.mono HB9.out.size)); have HO8 := Lib.hid (OwnQ.below HO9.out hb8); have HL8 := Lib.hid (HL9.out.below hb8); have e8 := HL8.out.cells.2.1; have gf := HO8.out.free (I1 * 514 + 2 + j5); have gc := HO8.out.ent HLen.out hI1k hj5l; clear hb8))
              all_goals
                have HO5 : Hid (OwnQ (w8.setCell ⟨g, I1 * 514 + 2 + j5, none⟩ (.int .u64 (z1 : Int))) w.heap.size (.slice (some ⟨g, 0, none⟩) k lc) ts (putM E (I1 * 512 + j5) z1)) := HO8.out.put HLen.out hI1k hj5l z1
                have HB5 : Hid (Below w.heap.size w (w8.setCell ⟨g, I1 * 514 + 2 + j5, none⟩ (.int .u64 (z1 : Int)))) := HB8.out.setCell (HO8.out.lt g rfl).1 _
                have HL5 : Hid (LfAt (w8.setCell ⟨g, I1 * 514 + 2 + j5, none⟩ (.int .u64 (z1 : Int))) X ⟨xv, xp, (m : Int), false, xw, xe⟩) := HL8.out.other hXg
                generalize (w8.setCell ⟨g, I1 * 514 + 2 + j5, none⟩ (.int .u64 (z1 : Int))) = w5 at *
                clear HO9 HB9 HL9 HO8 HB8 HL8 e9 e8 gf gc HO HB HL c0 c1 c2 c3 c4 c5 jnw
                obtain ⟨c0, c1, c2, c3, c4, c5⟩ := HL5.out.cells
                simp only at c0 c1 c2 c3 c4 c5
                go_wp2_with fail
                refine (HUn.out _).mono ?_
                rintro e w6 ⟨rfl, hb6⟩
                have HB6 := Lib.hid (HB5.out.trans (hb6.mono HB5.out.size))
                have HO6 := Lib.hid (HO5.out.below hb6)
                have HL6 := Lib.hid (HL5.out.below hb6)
                clear hb6 HB5 HO5 HL5 c0 c1 c2 c3 c4 c5
                go_wp2_with fail
                go_roundw
                case rel => exact ⟨c + 1, kq + U, _, by omega, rfl, HQ2, hk2, HLn, HO6, HL6, HB6⟩
                case measure => simp [intOf]; omega
          · have hce : c = C := by omega
            have heq : kq = Sz := by
              have h6 := HKq.out
              have h7 := HCm.out
              rw [hce] at h6
              omega
            have jk : ¬ (kq : Int) < (Sz : Int) := by omega
            have HLn : Hid (Ly ts s k (units (xs.take (i + 1))) E) := by
              show Ly _ _ _ _ _
              rw [HTk.out, HTe.out, ← hce]
              exact HLy.out
            clear heq hce HKq
            go_wp2_with fail
            go_roundw
            case rel => exact ⟨i + 1, E, by omega, rfl, HLn, HO, HB⟩
            case measure => simp [intOf]; omega
        · have ji : ¬ (i : Int) < (L : Int) := by omega
          go_wp2_with fail
          have HEf : Hid (∀ p, p < k * 512 → E p = s.M p) := by
            have h5 := HLy.out
            rw [List.take_of_length_le (by rw [HN.out]; omega)] at h5
            exact h5.full HCl.out HKn.out HRt.out HLen.out
          clear ji hin hiL HLy
          obtain ⟨wA, hwA⟩ : ∃ wA, wA = wr := ⟨_, rfl⟩
          subst hwA
          have HTb0 : Hid (OwnTm wA wA.heap.size (.slice none 0 0) 0 E) := OwnTm.nil _ _ _
          have HB0 : Hid (Below wA.heap.size wA wA) := Below.refl _ _
          have HB0w : Hid (w.heap.size ≤ wA.heap.size) := HB.out.size
          go_loopw [17, 18] (fun ov iv w4 => ∃ (i : Nat) (oa : Option Addr) (oc : Nat), i ≤ k ∧ iv = .int .i64 (i : Int) ∧ ov = .slice oa i oc ∧ Hid (OwnTm w4 wA.heap.size (.slice oa i oc) i E) ∧ Hid (Below wA.heap.size wA w4)) (fun _ iv _ => k - (intOf iv).toNat)
          case atStart => exact ⟨0, none, 0, Nat.zero_le _, rfl, rfl, HTb0, HB0⟩
          case round =>
            clear HTb0 HB0
            obtain ⟨i, oa, oc, hik, rfl, rfl, HT, HBi⟩ := hrel
            by_cases hin : i < k
            · have ji : (i : Int) < (k : Int) := by omega
              have wi1 : IntKind.i64.wrap ((i : Int) + 1) = ((i + 1 : Nat) : Int) := by rw [IntKind.wrap_i64]; omega
              have hld := (HO.out.below HBi.out).loads HLen.out hin
              obtain ⟨Tq, hTq⟩ : ∃ Tq, tabV (fun j => E (i * 512 + j)) = Tq := ⟨_, rfl⟩
              have HSl := Lib.hid (t_slice fun j => E (i * 512 + j))
              rw [hTq] at hld HSl
              have HLd := Lib.hid hld
              have HTq := Lib.hid hTq.symm
              have HTA : Hid (OwnTm (wr.alloc (.cells Tq 40)) wA.heap.size (.slice oa i oc) i E) := HT.out.below ((Below.refl _ _).alloc (Nat.le_refl _) _)
              have HBA : Hid (Below wA.heap.size wA (wr.alloc (.cells Tq 40))) := HBi.out.alloc HBi.out.size _
              have HBK : Hid ((wr.alloc (.cells Tq 40)).heap[wr.heap.size]? = some (.cells Tq 40 (0, 0))) := heap_alloc_new wr _
              have HLn : Hid (i ≤ 2000) := show i ≤ 2000 by omega
              clear hld hTq
              go_wp2_with (first | (refine wpList_load_arr rfl (.tmp 180) rfl rfl HLd.out ?_) | (refine wpList_tslice rfl #[(0, .tmp 181)] rfl #[(0, .agg Tq)] (by simp [Act.eval, Act.put]) (fun W => HSl.out W) ?_) | (at_builtin; refine wpList_appendTm (n := i) (E := E) (base := wA.heap.size) rfl (.tmp 176) (.tmp 182) rfl HTq.out HTA.out rfl rfl HBK.out HLn.out HBA.out.size ?_; intro v7 u7 HO7 HG7; obtain ⟨oa7, oc7, hv7⟩ := HO7.out.form; subst hv7))
              have HB7 : Hid (Below wA.heap.size wA u7) := HBA.out.grown HG7.out HBA.out.size (fun k e => (HTA.out.lt k e).1)
              go_roundw
              case rel => exact ⟨i + 1, oa7, oc7, by omega, rfl, rfl, HO7, HB7⟩
              case measure => simp [intOf]; omega
            · have ji : ¬ (i : Int) < (k : Int) := by omega
              have HBf := Lib.hid (HB.out.trans (HBi.out.mono HB.out.size))
              clear HBi HB
              go_wp2_with fail
              have hik2 : i = k := by omega
              have HTf : Hid (OwnTm wr w.heap.size (.slice oa i oc) k s.M) := by
                have h5 := HT.out
                rw [hik2] at h5 ⊢
                exact (h5.congr HEf.out).base HB0w.out
              go_ret2
              exact ⟨_, rfl, HTf.out, HBf.out⟩
end Go.Proofs.Ytgjamnhepbblhaa
