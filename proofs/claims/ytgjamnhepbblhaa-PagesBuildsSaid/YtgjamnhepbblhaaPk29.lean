import Derived.Test.YtgjamnhepbblhaaPk22
import Derived.Test.YtgjamnhepbblhaaPk09
import Derived.Test.YtgjamnhepbblhaaPk20
/- Pages: the document's Refuses, of any rows (written by parts/gen_pgre.py). Own work. -/
namespace Go.Proofs.Ytgjamnhepbblhaa
open Go.RowKit Wk
set_option linter.unusedVariables false
set_option maxRecDepth 100000 in
set_option maxHeartbeats 8000000 in
theorem rrefuses_any {w : World} {v : Value} {xs : List L6} (h : Lv w v xs) : Calls Try.prog 5 #[v] w fun e w' => e = .returned (.int .i64 (refuF 0 xs)) ∧ Below w.heap.size w w' := by
  have HR := Lib.hid h
  obtain ⟨ao, cap, rfl, h1, h2, h3, _⟩ := h
  unfold maxLen at h2
  obtain ⟨n, hn⟩ : ∃ n, xs.length = n := ⟨_, rfl⟩
  have HN := Lib.hid hn
  have HX : Hid (∀ x ∈ xs, L6.ok x) := h3
  rw [hn] at h1 ⊢
  obtain ⟨RV, hRV⟩ : ∃ R, refuF 0 xs = R := ⟨_, rfl⟩
  rw [hRV]
  have HR0 : Hid (refuF 0 (xs.drop 0) = RV) := hRV
  have HB0 : Hid (Below w.heap.size w w) := Below.refl _ _
  clear hn h3 hRV
  go_enter Try.func5, Try.ntmps5
  go_wp2_with fail
  go_loopw [3, 4] (fun tv iv wr => ∃ (i t : Nat), i ≤ n ∧ iv = .int .i64 (i : Int) ∧ tv = .int .u64 (t : Int) ∧ Hid (refuF t (xs.drop i) = RV) ∧ Hid (Below w.heap.size w wr)) (fun _ iv _ => n - (intOf iv).toNat)
  case atStart => exact ⟨0, 0, by omega, rfl, rfl, HR0, HB0⟩
  case round =>
    clear HB0 HR0
    obtain ⟨i, t, hi, rfl, rfl, HE, HB⟩ := hrel
    by_cases hin : i < n
    · have hix : i < xs.length := by rw [HN.out]; exact hin
      have ji : (i : Int) < (n : Int) := by omega
      have hw1 : IntKind.i64.wrap ((i : Int) + 1) = ((i + 1 : Nat) : Int) := by rw [IntKind.wrap_i64]; omega
      obtain ⟨_, _, e', _, _, _, hc⟩ := HR.out.below HB.out
      simp only [Value.slice.injEq] at e'
      obtain ⟨rfl, e9, rfl⟩ := e'
      clear e9
      obtain ⟨b, of, rfl, c0, c1, c2, c3, c4, c5⟩ := hc i hix
      have HK : Hid (L6.ok xs[i]) := HX.out xs[i] (List.getElem_mem _)
      have HD : Hid (refuF t (xs[i] :: xs.drop (i + 1)) = RV) := by
        have := HE.out
        rw [List.drop_eq_getElem_cons hix] at this
        exact this
      clear hc HE
      generalize xs[i] = x at *
      obtain ⟨xv, xp, xn, xb, xw, xe⟩ := x
      obtain ⟨k1, k2, k3, k4⟩ := HK.out
      simp only at k1 k2 k3 k4 c0 c1 c2 c3 c4 c5
      clear HK
      by_cases hn1 : xn < 1
      · have HF : Hid ((32 : Int) = RV) := Lib.hid (by rw [← HD.out]; unfold refuF aloneF; rw [if_pos (Or.inl hn1)]; rfl)
        have d1 : decide (xn < 1) = true := decide_eq_true hn1
        have HB1 : Hid (Below w.heap.size w (wr.alloc (.cells #[.int .u64 (xv : Int), .int .u64 (xp : Int), .int .i64 xn, .bool xb, .bool xw, .bool xe] 34))) := HB.out.alloc HB.out.size _
        clear HD
        go_wp2_with fail
        go_ret
        exact ⟨by rw [← HF.out]; rfl, HB1.out⟩
      · obtain ⟨m, rfl⟩ : ∃ m : Nat, xn = (m : Int) := ⟨xn.toNat, by omega⟩
        have d1 : decide ((m : Int) < 1) = false := decide_eq_false hn1
        obtain ⟨U, hU⟩ : ∃ U, unitF ⟨xv, xp, (m : Int), xb, xw, xe⟩ = U := ⟨_, rfl⟩
        have hU0 : ¬ U = 0 := by rw [← hU]; rcases unitF_cases ⟨xv, xp, (m : Int), xb, xw, xe⟩ with ⟨_, e⟩ | ⟨_, e⟩ <;> omega
        have hU0' : ¬ (U : Int) = 0 := by omega
        cases xb with
        | true =>
          have HU : Hid (∀ W, LfAt W wr.heap.size ⟨xv, xp, (m : Int), true, xw, xe⟩ → Below w.heap.size w W → Calls Try.prog 24 #[.agg #[.int .u64 (xv : Int), .int .u64 (xp : Int), .int .i64 (m : Int), .bool true, .bool xw, .bool xe]] W fun e w' => e = .returned (.int .u64 (U : Int)) ∧ D6 w' wr.heap.size xv xp (m : Int) true xw xe ∧ Hid (LfAt w' wr.heap.size ⟨xv, xp, (m : Int), true, xw, xe⟩) ∧ Hid (Below w.heap.size w w')) := fun W hl hb => (runit_any ⟨xv, xp, (m : Int), true, xw, xe⟩ W).mono fun _ _ ⟨e, k⟩ => ⟨by rw [e, hU], (hl.below k).cells, hl.below k, hb.trans (k.mono hb.size)⟩
          have HL : Hid (LfAt (wr.alloc (.cells #[.int .u64 (xv : Int), .int .u64 (xp : Int), .int .i64 (m : Int), .bool true, .bool xw, .bool xe] 34)) wr.heap.size ⟨xv, xp, (m : Int), true, xw, xe⟩) := heap_alloc_new wr _
          have HB1 : Hid (Below w.heap.size w (wr.alloc (.cells #[.int .u64 (xv : Int), .int .u64 (xp : Int), .int .i64 (m : Int), .bool true, .bool xw, .bool xe] 34))) := HB.out.alloc HB.out.size _
          by_cases h512 : m % 512 ≠ 0
          · have jb : ((m : Int).tmod 512 != 0) = true := bne_iff_ne.2 (by rw [Int.tmod_eq_emod_of_nonneg (by omega)]; omega)
            have HF : Hid ((32 : Int) = RV) := Lib.hid (by rw [← HD.out]; unfold refuF aloneF; rw [if_pos (Or.inr ⟨rfl, by show ¬ (m : Int) % 512 = 0; omega⟩)]; rfl)
            clear HD
            go_upto_region 6 with fail
            generalize (wr.alloc (.cells #[.int .u64 (xv : Int), .int .u64 (xp : Int), .int .i64 (m : Int), .bool true, .bool xw, .bool xe] 34)) = y1 at *
            generalize wr.heap.size = X at *
            clear c0 c1 c2 c3 c4 c5
            obtain ⟨c0, c1, c2, c3, c4, c5⟩ : y1.cell? ⟨X, 0, none⟩ = some (.int .u64 (xv : Int)) ∧ y1.cell? ⟨X, 1, none⟩ = some (.int .u64 (xp : Int)) ∧ y1.cell? ⟨X, 2, none⟩ = some (.int .i64 (m : Int)) ∧ y1.cell? ⟨X, 3, none⟩ = some (.bool true) ∧ y1.cell? ⟨X, 4, none⟩ = some (.bool xw) ∧ y1.cell? ⟨X, 5, none⟩ = some (.bool xe) := HL.out.cells
            go_wp2_with fail
            go_ret
            exact ⟨by rw [← HF.out]; rfl, HB1.out⟩
          have h512' : m % 512 = 0 := by omega
          have jb : ((m : Int).tmod 512 != 0) = false := by
            have e : (m : Int).tmod 512 = 0 := by rw [Int.tmod_eq_emod_of_nonneg (by omega)]; omega
            rw [e]; rfl
          have HA1 : Hid (¬ ((m : Int) < 1 ∨ (true = true ∧ (m : Int) % 512 ≠ 0))) := Lib.hid (by rintro (e | ⟨_, e⟩) <;> omega)
          have HAl : Hid (aloneF ⟨xv, xp, (m : Int), true, xw, xe⟩ = if xv % U ≠ 0 ∨ xp % U ≠ 0 then 33 else if winB xv m 549755813888 = false then 40 else if winB xp m 4294967296 = false then 34 else 0) := Lib.hid (by unfold aloneF; rw [if_neg HA1.out, hU]; rfl)
          have HD2 : Hid ((if aloneF ⟨xv, xp, (m : Int), true, xw, xe⟩ ≠ 0 then aloneF ⟨xv, xp, (m : Int), true, xw, xe⟩ else if xv < t then 120 else refuF (xv + m * 4096) (xs.drop (i + 1))) = RV) := HD
          obtain ⟨al, hal⟩ : ∃ al, aloneF ⟨xv, xp, (m : Int), true, xw, xe⟩ = al := ⟨_, rfl⟩
          rw [hal] at HAl HD2
          clear HD HA1 hal
          by_cases hv0 : xv % U ≠ 0
          · obtain ⟨r1, hr1⟩ : ∃ r1, xv % U = r1 := ⟨_, rfl⟩
            have i1 : (xv : Int).tmod (U : Int) = (r1 : Int) := by rw [← hr1]; rfl
            have i2 : (0 : Int) < (r1 : Int) := by omega
            have i3 : decide ((0 : Int) < (r1 : Int)) = true := decide_eq_true i2
            have HF : Hid ((33 : Int) = RV) := Lib.hid (by have h5 := HD2.out; have e := HAl.out; rw [if_pos (Or.inl hv0)] at e; rw [e, if_pos (by decide)] at h5; exact h5)
            clear HD2 hv0 hr1 HAl
            go_upto_region 6 with fail
            generalize (wr.alloc (.cells #[.int .u64 (xv : Int), .int .u64 (xp : Int), .int .i64 (m : Int), .bool true, .bool xw, .bool xe] 34)) = y1 at *
            generalize wr.heap.size = X at *
            clear c0 c1 c2 c3 c4 c5
            obtain ⟨c0, c1, c2, c3, c4, c5⟩ : y1.cell? ⟨X, 0, none⟩ = some (.int .u64 (xv : Int)) ∧ y1.cell? ⟨X, 1, none⟩ = some (.int .u64 (xp : Int)) ∧ y1.cell? ⟨X, 2, none⟩ = some (.int .i64 (m : Int)) ∧ y1.cell? ⟨X, 3, none⟩ = some (.bool true) ∧ y1.cell? ⟨X, 4, none⟩ = some (.bool xw) ∧ y1.cell? ⟨X, 5, none⟩ = some (.bool xe) := HL.out.cells
            go_upto_region 8 with fail
            first | (go_region_with (first | (go_at_call 24; refine (HU.out y1.drew HL.out HB1.out.drew).mono ?_; rintro e w9 ⟨rfl, ⟨d0, d1, d2, d3, d4, d5⟩, HL9, HB9⟩))) | fail
            all_goals
              go_wp2_with fail
              go_ret
              exact ⟨by rw [← HF.out]; rfl, HB9.out⟩
          have i1 : (xv : Int).tmod (U : Int) = 0 := by
            have e : (xv : Int).tmod (U : Int) = ((xv % U : Nat) : Int) := rfl
            rw [e]; omega
          by_cases hp0 : xp % U ≠ 0
          · obtain ⟨r2, hr2⟩ : ∃ r2, xp % U = r2 := ⟨_, rfl⟩
            have j1 : (xp : Int).tmod (U : Int) = (r2 : Int) := by rw [← hr2]; rfl
            have j2 : (0 : Int) < (r2 : Int) := by omega
            have j3 : decide ((0 : Int) < (r2 : Int)) = true := decide_eq_true j2
            have HF : Hid ((33 : Int) = RV) := Lib.hid (by have h5 := HD2.out; have e := HAl.out; rw [if_pos (Or.inr hp0)] at e; rw [e, if_pos (by decide)] at h5; exact h5)
            clear HD2 hv0 hp0 hr2 HAl
            go_upto_region 6 with fail
            generalize (wr.alloc (.cells #[.int .u64 (xv : Int), .int .u64 (xp : Int), .int .i64 (m : Int), .bool true, .bool xw, .bool xe] 34)) = y1 at *
            generalize wr.heap.size = X at *
            clear c0 c1 c2 c3 c4 c5
            obtain ⟨c0, c1, c2, c3, c4, c5⟩ : y1.cell? ⟨X, 0, none⟩ = some (.int .u64 (xv : Int)) ∧ y1.cell? ⟨X, 1, none⟩ = some (.int .u64 (xp : Int)) ∧ y1.cell? ⟨X, 2, none⟩ = some (.int .i64 (m : Int)) ∧ y1.cell? ⟨X, 3, none⟩ = some (.bool true) ∧ y1.cell? ⟨X, 4, none⟩ = some (.bool xw) ∧ y1.cell? ⟨X, 5, none⟩ = some (.bool xe) := HL.out.cells
            go_upto_region 8 with fail
            go_region_held3 (fun w' => w'.cell? ⟨X, 0, none⟩ = some (.int .u64 (xv : Int)) ∧ w'.cell? ⟨X, 1, none⟩ = some (.int .u64 (xp : Int)) ∧ w'.cell? ⟨X, 2, none⟩ = some (.int .i64 (m : Int)) ∧ w'.cell? ⟨X, 3, none⟩ = some (.bool true) ∧ w'.cell? ⟨X, 4, none⟩ = some (.bool xw) ∧ w'.cell? ⟨X, 5, none⟩ = some (.bool xe)) (go_keep) (first | (go_at_call 24; first | (refine (HU.out _ HL9.out HB9.out).mono ?_; rintro e w8 ⟨rfl, ⟨f0, f1, f2, f3, f4, f5⟩, HL8, HB8⟩) | (refine (HU.out y1.drew HL.out HB1.out.drew).mono ?_; rintro e w9 ⟨rfl, ⟨d0, d1, d2, d3, d4, d5⟩, HL9, HB9⟩)))
            all_goals
              go_wp2_with fail
              go_ret
              exact ⟨by rw [← HF.out]; rfl, HB8.out⟩
          have j1 : (xp : Int).tmod (U : Int) = 0 := by
            have e : (xp : Int).tmod (U : Int) = ((xp % U : Nat) : Int) := rfl
            rw [e]; omega
          rw [if_neg (fun o => o.elim hv0 hp0)] at HAl
          clear hv0 hp0
          have wm : IntKind.u64.wrap (m : Int) = (m : Int) := by rw [IntKind.wrap_u64]; omega
          go_upto_region 6 with fail
          generalize (wr.alloc (.cells #[.int .u64 (xv : Int), .int .u64 (xp : Int), .int .i64 (m : Int), .bool true, .bool xw, .bool xe] 34)) = y1 at *
          generalize wr.heap.size = X at *
          clear c0 c1 c2 c3 c4 c5
          obtain ⟨c0, c1, c2, c3, c4, c5⟩ : y1.cell? ⟨X, 0, none⟩ = some (.int .u64 (xv : Int)) ∧ y1.cell? ⟨X, 1, none⟩ = some (.int .u64 (xp : Int)) ∧ y1.cell? ⟨X, 2, none⟩ = some (.int .i64 (m : Int)) ∧ y1.cell? ⟨X, 3, none⟩ = some (.bool true) ∧ y1.cell? ⟨X, 4, none⟩ = some (.bool xw) ∧ y1.cell? ⟨X, 5, none⟩ = some (.bool xe) := HL.out.cells
          go_upto_region 8 with fail
          go_region_held3 (fun w' => w'.cell? ⟨X, 0, none⟩ = some (.int .u64 (xv : Int)) ∧ w'.cell? ⟨X, 1, none⟩ = some (.int .u64 (xp : Int)) ∧ w'.cell? ⟨X, 2, none⟩ = some (.int .i64 (m : Int)) ∧ w'.cell? ⟨X, 3, none⟩ = some (.bool true) ∧ w'.cell? ⟨X, 4, none⟩ = some (.bool xw) ∧ w'.cell? ⟨X, 5, none⟩ = some (.bool xe)) (go_keep) (first | (go_at_call 24; first | (refine (HU.out _ HL9.out HB9.out).mono ?_; rintro e w8 ⟨rfl, ⟨f0, f1, f2, f3, f4, f5⟩, HL8, HB8⟩) | (refine (HU.out y1.drew HL.out HB1.out.drew).mono ?_; rintro e w9 ⟨rfl, ⟨d0, d1, d2, d3, d4, d5⟩, HL9, HB9⟩)))
          all_goals
            clear HL9 HB9 HL HB1 HU d0 d1 d2 d3 d4 d5
            have HWin1 : Hid (winB xv m 549755813888 = !(decide (549755813888 ≤ xv) || decide ((549755813888 - xv) / 4096 < m))) := Lib.hid (by unfold winB; rw [Bool.eq_iff_iff]; simp; omega)
            have HWin2 : Hid (winB xp m 4294967296 = !(decide (4294967296 ≤ xp) || decide ((4294967296 - xp) / 4096 < m))) := Lib.hid (by unfold winB; rw [Bool.eq_iff_iff]; simp; omega)
            obtain ⟨V39, hV39⟩ : ∃ V : Nat, V = 549755813888 := ⟨_, rfl⟩
            by_cases ha : 549755813888 ≤ xv
            · have HF : Hid ((40 : Int) = RV) := Lib.hid (by
                have h5 := HD2.out
                have e := HAl.out
                rw [show winB xv m 549755813888 = false by rw [HWin1.out, decide_eq_true ha]; rfl, if_pos rfl] at e
                rw [e, if_pos (by decide)] at h5
                exact h5)
              have ja : (549755813888 : Int) ≤ (xv : Int) := by omega
              clear HD2 ha HWin1 HWin2 hV39 HAl
              go_wp2_with fail
              go_ret
              exact ⟨by rw [← HF.out]; rfl, HB8.out⟩
            have ja : decide ((549755813888 : Int) ≤ (xv : Int)) = false := decide_eq_false (by omega)
            obtain ⟨q1, hq1⟩ : ∃ q : Nat, 549755813888 - xv = q := ⟨_, rfl⟩
            have ws1 : IntKind.u64.wrap (549755813888 - (xv : Int)) = (q1 : Int) := by rw [IntKind.wrap_u64]; omega
            obtain ⟨s1, hs1⟩ : ∃ s : Nat, q1 / 4096 = s := ⟨_, rfl⟩
            have wq1 : (q1 : Int).tdiv 4096 = (s1 : Int) := by rw [← hs1]; rfl
            rw [hq1, hs1, decide_eq_false ha, Bool.false_or] at HWin1
            have hs1b : s1 ≤ 549755813888 := by omega
            clear hq1 hs1
            by_cases hb2 : s1 < m
            · have HF : Hid ((40 : Int) = RV) := Lib.hid (by
                have h5 := HD2.out
                have e := HAl.out
                rw [show winB xv m 549755813888 = false by rw [HWin1.out, decide_eq_true hb2]; rfl, if_pos rfl] at e
                rw [e, if_pos (by decide)] at h5
                exact h5)
              have jb2 : (s1 : Int) < (m : Int) := by omega
              clear HD2 ha HWin1 HWin2 hV39 HAl
              go_wp2_with fail
              go_ret
              exact ⟨by rw [← HF.out]; rfl, HB8.out⟩
            have jb2 : decide ((s1 : Int) < (m : Int)) = false := decide_eq_false (by omega)
            have jb2n : decide (s1 < m) = false := decide_eq_false (by omega)
            have HW1 : Hid (winB xv m 549755813888 = true) := Lib.hid (by rw [HWin1.out, decide_eq_false hb2]; rfl)
            rw [if_neg (by rw [HW1.out]; decide)] at HAl
            clear HWin1
            by_cases hc2 : 4294967296 ≤ xp
            · have HF : Hid ((34 : Int) = RV) := Lib.hid (by
                have h5 := HD2.out
                have e := HAl.out
                rw [show winB xp m 4294967296 = false by rw [HWin2.out, decide_eq_true hc2]; rfl, if_pos rfl] at e
                rw [e, if_pos (by decide)] at h5
                exact h5)
              have jc : (4294967296 : Int) ≤ (xp : Int) := by omega
              clear HD2 HWin2 HW1 hV39 HAl
              go_wp2_with fail
              go_ret
              exact ⟨by rw [← HF.out]; rfl, HB8.out⟩
            have jc : decide ((4294967296 : Int) ≤ (xp : Int)) = false := decide_eq_false (by omega)
            obtain ⟨q2, hq2⟩ : ∃ q : Nat, 4294967296 - xp = q := ⟨_, rfl⟩
            have ws2 : IntKind.u64.wrap (4294967296 - (xp : Int)) = (q2 : Int) := by rw [IntKind.wrap_u64]; omega
            obtain ⟨s2, hs2⟩ : ∃ s : Nat, q2 / 4096 = s := ⟨_, rfl⟩
            have wq2 : (q2 : Int).tdiv 4096 = (s2 : Int) := by rw [← hs2]; rfl
            rw [hq2, hs2, decide_eq_false hc2, Bool.false_or] at HWin2
            have hs2b : s2 ≤ 549755813888 := by omega
            clear hq2 hs2
            by_cases hd2 : s2 < m
            · have HF : Hid ((34 : Int) = RV) := Lib.hid (by
                have h5 := HD2.out
                have e := HAl.out
                rw [show winB xp m 4294967296 = false by rw [HWin2.out, decide_eq_true hd2]; rfl, if_pos rfl] at e
                rw [e, if_pos (by decide)] at h5
                exact h5)
              have jd : (s2 : Int) < (m : Int) := by omega
              clear HD2 HWin2 HW1 hV39 HAl
              go_wp2_with fail
              go_ret
              exact ⟨by rw [← HF.out]; rfl, HB8.out⟩
            have jd : decide ((s2 : Int) < (m : Int)) = false := decide_eq_false (by omega)
            have jdn : decide (s2 < m) = false := decide_eq_false (by omega)
            have HW2 : Hid (winB xp m 4294967296 = true) := Lib.hid (by rw [HWin2.out, decide_eq_false hd2]; rfl)
            rw [if_neg (by rw [HW2.out]; decide)] at HAl
            rw [HAl.out, if_neg (by decide)] at HD2
            have hend : xv + m * 4096 ≤ 549755813888 := of_decide_eq_true HW1.out
            clear HWin2 HW1 HW2 hV39 HAl
            by_cases he2 : xv < t
            · have HF : Hid ((120 : Int) = RV) := Lib.hid (by have h5 := HD2.out; rw [if_pos he2] at h5; exact h5)
              have je : (xv : Int) < (t : Int) := by omega
              clear HD2
              go_wp2_with fail
              go_ret
              exact ⟨by rw [← HF.out]; rfl, HB8.out⟩
            have je : decide ((xv : Int) < (t : Int)) = false := decide_eq_false (by omega)
            have jen : decide (xv < t) = false := decide_eq_false (by omega)
            have HE2 : Hid (refuF (xv + m * 4096) (xs.drop (i + 1)) = RV) := Lib.hid (by have h5 := HD2.out; rw [if_neg he2] at h5; exact h5)
            obtain ⟨K, hK⟩ : ∃ K, m * 4096 = K := ⟨_, rfl⟩
            obtain ⟨e2, hE⟩ : ∃ e2, xv + K = e2 := ⟨_, rfl⟩
            have wK : IntKind.u64.wrap ((m : Int) * 4096) = (K : Int) := by rw [IntKind.wrap_u64]; omega
            have wE : IntKind.u64.wrap ((xv : Int) + (K : Int)) = (e2 : Int) := by rw [IntKind.wrap_u64]; omega
            rw [hK, hE] at HE2
            clear hK hE HD2 he2 hend
            go_wp2_with fail
            go_roundw
            case rel => exact ⟨i + 1, e2, by omega, rfl, rfl, HE2, HB8⟩
            case measure => simp [intOf]; omega
        | false =>
          have HU : Hid (∀ W, LfAt W wr.heap.size ⟨xv, xp, (m : Int), false, xw, xe⟩ → Below w.heap.size w W → Calls Try.prog 24 #[.agg #[.int .u64 (xv : Int), .int .u64 (xp : Int), .int .i64 (m : Int), .bool false, .bool xw, .bool xe]] W fun e w' => e = .returned (.int .u64 (U : Int)) ∧ D6 w' wr.heap.size xv xp (m : Int) false xw xe ∧ Hid (LfAt w' wr.heap.size ⟨xv, xp, (m : Int), false, xw, xe⟩) ∧ Hid (Below w.heap.size w w')) := fun W hl hb => (runit_any ⟨xv, xp, (m : Int), false, xw, xe⟩ W).mono fun _ _ ⟨e, k⟩ => ⟨by rw [e, hU], (hl.below k).cells, hl.below k, hb.trans (k.mono hb.size)⟩
          have HL : Hid (LfAt (wr.alloc (.cells #[.int .u64 (xv : Int), .int .u64 (xp : Int), .int .i64 (m : Int), .bool false, .bool xw, .bool xe] 34)) wr.heap.size ⟨xv, xp, (m : Int), false, xw, xe⟩) := heap_alloc_new wr _
          have HB1 : Hid (Below w.heap.size w (wr.alloc (.cells #[.int .u64 (xv : Int), .int .u64 (xp : Int), .int .i64 (m : Int), .bool false, .bool xw, .bool xe] 34))) := HB.out.alloc HB.out.size _
          have HA1 : Hid (¬ ((m : Int) < 1 ∨ (false = true ∧ (m : Int) % 512 ≠ 0))) := Lib.hid (fun o => o.elim (fun e => by omega) (fun e => by cases e.1))
          have HAl : Hid (aloneF ⟨xv, xp, (m : Int), false, xw, xe⟩ = if xv % U ≠ 0 ∨ xp % U ≠ 0 then 33 else if winB xv m 549755813888 = false then 40 else if winB xp m 4294967296 = false then 34 else 0) := Lib.hid (by unfold aloneF; rw [if_neg HA1.out, hU]; rfl)
          have HD2 : Hid ((if aloneF ⟨xv, xp, (m : Int), false, xw, xe⟩ ≠ 0 then aloneF ⟨xv, xp, (m : Int), false, xw, xe⟩ else if xv < t then 120 else refuF (xv + m * 4096) (xs.drop (i + 1))) = RV) := HD
          obtain ⟨al, hal⟩ : ∃ al, aloneF ⟨xv, xp, (m : Int), false, xw, xe⟩ = al := ⟨_, rfl⟩
          rw [hal] at HAl HD2
          clear HD HA1 hal
          by_cases hv0 : xv % U ≠ 0
          · obtain ⟨r1, hr1⟩ : ∃ r1, xv % U = r1 := ⟨_, rfl⟩
            have i1 : (xv : Int).tmod (U : Int) = (r1 : Int) := by rw [← hr1]; rfl
            have i2 : (0 : Int) < (r1 : Int) := by omega
            have i3 : decide ((0 : Int) < (r1 : Int)) = true := decide_eq_true i2
            have HF : Hid ((33 : Int) = RV) := Lib.hid (by have h5 := HD2.out; have e := HAl.out; rw [if_pos (Or.inl hv0)] at e; rw [e, if_pos (by decide)] at h5; exact h5)
            clear HD2 hv0 hr1 HAl
            go_upto_region 6 with fail
            generalize (wr.alloc (.cells #[.int .u64 (xv : Int), .int .u64 (xp : Int), .int .i64 (m : Int), .bool false, .bool xw, .bool xe] 34)) = y1 at *
            generalize wr.heap.size = X at *
            clear c0 c1 c2 c3 c4 c5
            obtain ⟨c0, c1, c2, c3, c4, c5⟩ : y1.cell? ⟨X, 0, none⟩ = some (.int .u64 (xv : Int)) ∧ y1.cell? ⟨X, 1, none⟩ = some (.int .u64 (xp : Int)) ∧ y1.cell? ⟨X, 2, none⟩ = some (.int .i64 (m : Int)) ∧ y1.cell? ⟨X, 3, none⟩ = some (.bool false) ∧ y1.cell? ⟨X, 4, none⟩ = some (.bool xw) ∧ y1.cell? ⟨X, 5, none⟩ = some (.bool xe) := HL.out.cells
            go_upto_region 8 with fail
            first | (go_region_with (first | (go_at_call 24; refine (HU.out y1.drew HL.out HB1.out.drew).mono ?_; rintro e w9 ⟨rfl, ⟨d0, d1, d2, d3, d4, d5⟩, HL9, HB9⟩))) | fail
            all_goals
              go_wp2_with fail
              go_ret
              exact ⟨by rw [← HF.out]; rfl, HB9.out⟩
          have i1 : (xv : Int).tmod (U : Int) = 0 := by
            have e : (xv : Int).tmod (U : Int) = ((xv % U : Nat) : Int) := rfl
            rw [e]; omega
          by_cases hp0 : xp % U ≠ 0
          · obtain ⟨r2, hr2⟩ : ∃ r2, xp % U = r2 := ⟨_, rfl⟩
            have j1 : (xp : Int).tmod (U : Int) = (r2 : Int) := by rw [← hr2]; rfl
            have j2 : (0 : Int) < (r2 : Int) := by omega
            have j3 : decide ((0 : Int) < (r2 : Int)) = true := decide_eq_true j2
            have HF : Hid ((33 : Int) = RV) := Lib.hid (by have h5 := HD2.out; have e := HAl.out; rw [if_pos (Or.inr hp0)] at e; rw [e, if_pos (by decide)] at h5; exact h5)
            clear HD2 hv0 hp0 hr2 HAl
            go_upto_region 6 with fail
            generalize (wr.alloc (.cells #[.int .u64 (xv : Int), .int .u64 (xp : Int), .int .i64 (m : Int), .bool false, .bool xw, .bool xe] 34)) = y1 at *
            generalize wr.heap.size = X at *
            clear c0 c1 c2 c3 c4 c5
            obtain ⟨c0, c1, c2, c3, c4, c5⟩ : y1.cell? ⟨X, 0, none⟩ = some (.int .u64 (xv : Int)) ∧ y1.cell? ⟨X, 1, none⟩ = some (.int .u64 (xp : Int)) ∧ y1.cell? ⟨X, 2, none⟩ = some (.int .i64 (m : Int)) ∧ y1.cell? ⟨X, 3, none⟩ = some (.bool false) ∧ y1.cell? ⟨X, 4, none⟩ = some (.bool xw) ∧ y1.cell? ⟨X, 5, none⟩ = some (.bool xe) := HL.out.cells
            go_upto_region 8 with fail
            go_region_held3 (fun w' => w'.cell? ⟨X, 0, none⟩ = some (.int .u64 (xv : Int)) ∧ w'.cell? ⟨X, 1, none⟩ = some (.int .u64 (xp : Int)) ∧ w'.cell? ⟨X, 2, none⟩ = some (.int .i64 (m : Int)) ∧ w'.cell? ⟨X, 3, none⟩ = some (.bool false) ∧ w'.cell? ⟨X, 4, none⟩ = some (.bool xw) ∧ w'.cell? ⟨X, 5, none⟩ = some (.bool xe)) (go_keep) (first | (go_at_call 24; first | (refine (HU.out _ HL9.out HB9.out).mono ?_; rintro e w8 ⟨rfl, ⟨f0, f1, f2, f3, f4, f5⟩, HL8, HB8⟩) | (refine (HU.out y1.drew HL.out HB1.out.drew).mono ?_; rintro e w9 ⟨rfl, ⟨d0, d1, d2, d3, d4, d5⟩, HL9, HB9⟩)))
            all_goals
              go_wp2_with fail
              go_ret
              exact ⟨by rw [← HF.out]; rfl, HB8.out⟩
          have j1 : (xp : Int).tmod (U : Int) = 0 := by
            have e : (xp : Int).tmod (U : Int) = ((xp % U : Nat) : Int) := rfl
            rw [e]; omega
          rw [if_neg (fun o => o.elim hv0 hp0)] at HAl
          clear hv0 hp0
          have wm : IntKind.u64.wrap (m : Int) = (m : Int) := by rw [IntKind.wrap_u64]; omega
          go_upto_region 6 with fail
          generalize (wr.alloc (.cells #[.int .u64 (xv : Int), .int .u64 (xp : Int), .int .i64 (m : Int), .bool false, .bool xw, .bool xe] 34)) = y1 at *
          generalize wr.heap.size = X at *
          clear c0 c1 c2 c3 c4 c5
          obtain ⟨c0, c1, c2, c3, c4, c5⟩ : y1.cell? ⟨X, 0, none⟩ = some (.int .u64 (xv : Int)) ∧ y1.cell? ⟨X, 1, none⟩ = some (.int .u64 (xp : Int)) ∧ y1.cell? ⟨X, 2, none⟩ = some (.int .i64 (m : Int)) ∧ y1.cell? ⟨X, 3, none⟩ = some (.bool false) ∧ y1.cell? ⟨X, 4, none⟩ = some (.bool xw) ∧ y1.cell? ⟨X, 5, none⟩ = some (.bool xe) := HL.out.cells
          go_upto_region 8 with fail
          go_region_held3 (fun w' => w'.cell? ⟨X, 0, none⟩ = some (.int .u64 (xv : Int)) ∧ w'.cell? ⟨X, 1, none⟩ = some (.int .u64 (xp : Int)) ∧ w'.cell? ⟨X, 2, none⟩ = some (.int .i64 (m : Int)) ∧ w'.cell? ⟨X, 3, none⟩ = some (.bool false) ∧ w'.cell? ⟨X, 4, none⟩ = some (.bool xw) ∧ w'.cell? ⟨X, 5, none⟩ = some (.bool xe)) (go_keep) (first | (go_at_call 24; first | (refine (HU.out _ HL9.out HB9.out).mono ?_; rintro e w8 ⟨rfl, ⟨f0, f1, f2, f3, f4, f5⟩, HL8, HB8⟩) | (refine (HU.out y1.drew HL.out HB1.out.drew).mono ?_; rintro e w9 ⟨rfl, ⟨d0, d1, d2, d3, d4, d5⟩, HL9, HB9⟩)))
          all_goals
            clear HL9 HB9 HL HB1 HU d0 d1 d2 d3 d4 d5
            have HWin1 : Hid (winB xv m 549755813888 = !(decide (549755813888 ≤ xv) || decide ((549755813888 - xv) / 4096 < m))) := Lib.hid (by unfold winB; rw [Bool.eq_iff_iff]; simp; omega)
            have HWin2 : Hid (winB xp m 4294967296 = !(decide (4294967296 ≤ xp) || decide ((4294967296 - xp) / 4096 < m))) := Lib.hid (by unfold winB; rw [Bool.eq_iff_iff]; simp; omega)
            obtain ⟨V39, hV39⟩ : ∃ V : Nat, V = 549755813888 := ⟨_, rfl⟩
            by_cases ha : 549755813888 ≤ xv
            · have HF : Hid ((40 : Int) = RV) := Lib.hid (by
                have h5 := HD2.out
                have e := HAl.out
                rw [show winB xv m 549755813888 = false by rw [HWin1.out, decide_eq_true ha]; rfl, if_pos rfl] at e
                rw [e, if_pos (by decide)] at h5
                exact h5)
              have ja : (549755813888 : Int) ≤ (xv : Int) := by omega
              clear HD2 ha HWin1 HWin2 hV39 HAl
              go_wp2_with fail
              go_ret
              exact ⟨by rw [← HF.out]; rfl, HB8.out⟩
            have ja : decide ((549755813888 : Int) ≤ (xv : Int)) = false := decide_eq_false (by omega)
            obtain ⟨q1, hq1⟩ : ∃ q : Nat, 549755813888 - xv = q := ⟨_, rfl⟩
            have ws1 : IntKind.u64.wrap (549755813888 - (xv : Int)) = (q1 : Int) := by rw [IntKind.wrap_u64]; omega
            obtain ⟨s1, hs1⟩ : ∃ s : Nat, q1 / 4096 = s := ⟨_, rfl⟩
            have wq1 : (q1 : Int).tdiv 4096 = (s1 : Int) := by rw [← hs1]; rfl
            rw [hq1, hs1, decide_eq_false ha, Bool.false_or] at HWin1
            have hs1b : s1 ≤ 549755813888 := by omega
            clear hq1 hs1
            by_cases hb2 : s1 < m
            · have HF : Hid ((40 : Int) = RV) := Lib.hid (by
                have h5 := HD2.out
                have e := HAl.out
                rw [show winB xv m 549755813888 = false by rw [HWin1.out, decide_eq_true hb2]; rfl, if_pos rfl] at e
                rw [e, if_pos (by decide)] at h5
                exact h5)
              have jb2 : (s1 : Int) < (m : Int) := by omega
              clear HD2 ha HWin1 HWin2 hV39 HAl
              go_wp2_with fail
              go_ret
              exact ⟨by rw [← HF.out]; rfl, HB8.out⟩
            have jb2 : decide ((s1 : Int) < (m : Int)) = false := decide_eq_false (by omega)
            have jb2n : decide (s1 < m) = false := decide_eq_false (by omega)
            have HW1 : Hid (winB xv m 549755813888 = true) := Lib.hid (by rw [HWin1.out, decide_eq_false hb2]; rfl)
            rw [if_neg (by rw [HW1.out]; decide)] at HAl
            clear HWin1
            by_cases hc2 : 4294967296 ≤ xp
            · have HF : Hid ((34 : Int) = RV) := Lib.hid (by
                have h5 := HD2.out
                have e := HAl.out
                rw [show winB xp m 4294967296 = false by rw [HWin2.out, decide_eq_true hc2]; rfl, if_pos rfl] at e
                rw [e, if_pos (by decide)] at h5
                exact h5)
              have jc : (4294967296 : Int) ≤ (xp : Int) := by omega
              clear HD2 HWin2 HW1 hV39 HAl
              go_wp2_with fail
              go_ret
              exact ⟨by rw [← HF.out]; rfl, HB8.out⟩
            have jc : decide ((4294967296 : Int) ≤ (xp : Int)) = false := decide_eq_false (by omega)
            obtain ⟨q2, hq2⟩ : ∃ q : Nat, 4294967296 - xp = q := ⟨_, rfl⟩
            have ws2 : IntKind.u64.wrap (4294967296 - (xp : Int)) = (q2 : Int) := by rw [IntKind.wrap_u64]; omega
            obtain ⟨s2, hs2⟩ : ∃ s : Nat, q2 / 4096 = s := ⟨_, rfl⟩
            have wq2 : (q2 : Int).tdiv 4096 = (s2 : Int) := by rw [← hs2]; rfl
            rw [hq2, hs2, decide_eq_false hc2, Bool.false_or] at HWin2
            have hs2b : s2 ≤ 549755813888 := by omega
            clear hq2 hs2
            by_cases hd2 : s2 < m
            · have HF : Hid ((34 : Int) = RV) := Lib.hid (by
                have h5 := HD2.out
                have e := HAl.out
                rw [show winB xp m 4294967296 = false by rw [HWin2.out, decide_eq_true hd2]; rfl, if_pos rfl] at e
                rw [e, if_pos (by decide)] at h5
                exact h5)
              have jd : (s2 : Int) < (m : Int) := by omega
              clear HD2 HWin2 HW1 hV39 HAl
              go_wp2_with fail
              go_ret
              exact ⟨by rw [← HF.out]; rfl, HB8.out⟩
            have jd : decide ((s2 : Int) < (m : Int)) = false := decide_eq_false (by omega)
            have jdn : decide (s2 < m) = false := decide_eq_false (by omega)
            have HW2 : Hid (winB xp m 4294967296 = true) := Lib.hid (by rw [HWin2.out, decide_eq_false hd2]; rfl)
            rw [if_neg (by rw [HW2.out]; decide)] at HAl
            rw [HAl.out, if_neg (by decide)] at HD2
            have hend : xv + m * 4096 ≤ 549755813888 := of_decide_eq_true HW1.out
            clear HWin2 HW1 HW2 hV39 HAl
            by_cases he2 : xv < t
            · have HF : Hid ((120 : Int) = RV) := Lib.hid (by have h5 := HD2.out; rw [if_pos he2] at h5; exact h5)
              have je : (xv : Int) < (t : Int) := by omega
              clear HD2
              go_wp2_with fail
              go_ret
              exact ⟨by rw [← HF.out]; rfl, HB8.out⟩
            have je : decide ((xv : Int) < (t : Int)) = false := decide_eq_false (by omega)
            have jen : decide (xv < t) = false := decide_eq_false (by omega)
            have HE2 : Hid (refuF (xv + m * 4096) (xs.drop (i + 1)) = RV) := Lib.hid (by have h5 := HD2.out; rw [if_neg he2] at h5; exact h5)
            obtain ⟨K, hK⟩ : ∃ K, m * 4096 = K := ⟨_, rfl⟩
            obtain ⟨e2, hE⟩ : ∃ e2, xv + K = e2 := ⟨_, rfl⟩
            have wK : IntKind.u64.wrap ((m : Int) * 4096) = (K : Int) := by rw [IntKind.wrap_u64]; omega
            have wE : IntKind.u64.wrap ((xv : Int) + (K : Int)) = (e2 : Int) := by rw [IntKind.wrap_u64]; omega
            rw [hK, hE] at HE2
            clear hK hE HD2 he2 hend
            go_wp2_with fail
            go_roundw
            case rel => exact ⟨i + 1, e2, by omega, rfl, rfl, HE2, HB8⟩
            case measure => simp [intOf]; omega
    · have ji : ¬ (i : Int) < (n : Int) := by omega
      have HF : Hid ((0 : Int) = RV) := Lib.hid (by
        have h5 := HE.out
        rw [List.drop_eq_nil_of_le (by rw [HN.out]; omega)] at h5
        exact h5)
      go_wp2_with fail
      go_ret
      exact ⟨by rw [← HF.out]; rfl, HB.out⟩
end Go.Proofs.Ytgjamnhepbblhaa
