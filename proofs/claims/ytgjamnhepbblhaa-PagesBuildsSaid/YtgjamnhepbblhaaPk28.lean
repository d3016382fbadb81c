import Derived.Test.YtgjamnhepbblhaaPk27
/- Pages: the document's tables, of any rows: the walk (written by parts/gen_pgtw.py). Own work. -/
namespace Go.Proofs.Ytgjamnhepbblhaa
open Go.RowKit Wk
set_option linter.unusedVariables false
/-- what the document's tables answers -/
def TbsP (w : World) (xs : List L6) (e : Ending) (w' : World) : Prop := ∃ g cap ts, e = .returned (.slice (some ⟨g, 0, none⟩) ts.length cap) ∧ OwnQ w' w.heap.size (.slice (some ⟨g, 0, none⟩) ts.length cap) ts (fun _ => 0) ∧ ts.length ≤ cap ∧ 0 < ts.length ∧ ts.length ≤ 1026 ∧ (ts.length ≤ 1024 → ts = tsU [(0, 0)] (units xs)) ∧ (1024 < ts.length → 1024 < (tsU [(0, 0)] (units xs)).length) ∧ Below w.heap.size w w'
theorem OwnQ.slice {w : World} {base : Nat} {v : Value} {ts : List (Nat × Nat)} {E : Nat → Nat} (h : OwnQ w base v ts E) (hp : 0 < ts.length) : ∃ g cap, v = .slice (some ⟨g, 0, none⟩) ts.length cap ∧ ts.length ≤ cap ∧ OwnQ w base (.slice (some ⟨g, 0, none⟩) ts.length cap) ts E := by
  obtain ⟨g, cap, rfl, hc⟩ := h.form hp
  exact ⟨g, cap, rfl, hc, h⟩
set_option maxRecDepth 100000 in
set_option maxHeartbeats 8000000 in
theorem rtables_any {w : World} {v : Value} {xs : List L6} (h : Lv w v xs) (hr : refuF 0 xs = 0) : Calls Try.prog 28 #[v] w (TbsP w xs) := by
  have HR := Lib.hid h
  have HRf := Lib.hid hr
  obtain ⟨ao, cap, rfl, h1, h2, h3, _⟩ := h
  unfold maxLen at h2
  obtain ⟨n, hn⟩ : ∃ n, xs.length = n := ⟨_, rfl⟩
  have HN := Lib.hid hn
  have HXa : Hid (∀ x ∈ xs, aloneF x = 0) := refu_all hr
  obtain ⟨FL, hFL⟩ : ∃ FL, (tsU [(0, 0)] (units xs)).length = FL := ⟨_, rfl⟩
  have HFL := Lib.hid hFL
  rw [hn] at h1 ⊢
  have b0 := q_build0 0
  have s0 := q_slice 0 0
  have HQ0 : Hid (OwnQ (w.alloc (.cells (qrow 0 0) 68)) w.heap.size (.slice (some ⟨w.heap.size, 0, none⟩) 1 1) [(0, 0)] (fun _ => 0)) := OwnQ.one w
  have HB0 : Hid (Below w.heap.size w (w.alloc (.cells (qrow 0 0) 68))) := (Below.refl _ _).alloc (Nat.le_refl _) _
  have HT0 : Hid ([(0, 0)] = tsU [(0, 0)] (units (xs.take 0))) := Lib.hid (by simp [units, tsU])
  have HRc1 : Hid (∀ W, Calls Try.prog 29 #[.int .i64 1] W fun e w' => e = .returned (.int .u64 1073741824) ∧ Below W.heap.size W w') := fun W => preach_any (l := 1) (r := 1073741824) (Or.inr (Or.inl ⟨rfl, rfl⟩)) W
  have HRc2 : Hid (∀ W, Calls Try.prog 29 #[.int .i64 2] W fun e w' => e = .returned (.int .u64 2097152) ∧ Below W.heap.size W w') := fun W => preach_any (l := 2) (r := 2097152) (Or.inr (Or.inr ⟨rfl, rfl⟩)) W
  generalize qrow 0 0 = Q0 at *
  clear hn h3 hr hFL
  go_enter Try.func28, Try.ntmps28
  have HB00 := Lib.hid b0
  have HS00 := Lib.hid s0
  clear b0 s0
  go_wp2_with (first | (refine wpList_qbuild rfl #[(0, .const (.int .i64 0))] rfl #[(0, .int .i64 0)] (by simp [Act.eval]) (fun W => HB00.out W) ?_) | (refine wpList_qslice rfl #[(0, .tmp 7)] rfl #[(0, .agg Q0)] (by simp [Act.eval, Act.put]) (fun W => HS00.out W) ?_))
  generalize (w.alloc (.cells Q0 68)) = w1 at *
  clear HB00 HS00
  go_loopw [3, 4] (fun lv iv wr => ∃ (i g lc : Nat) (ts : List (Nat × Nat)), i ≤ n ∧ iv = .int .i64 (i : Int) ∧ lv = .slice (some ⟨g, 0, none⟩) ts.length lc ∧ ts.length ≤ lc ∧ 0 < ts.length ∧ ts.length ≤ 1026 ∧ Hid (ts.length ≤ 1024 → ts = tsU [(0, 0)] (units (xs.take i))) ∧ Hid (1024 < ts.length → 1024 < FL) ∧ Hid (OwnQ wr w.heap.size (.slice (some ⟨g, 0, none⟩) ts.length lc) ts (fun _ => 0)) ∧ Hid (Below w.heap.size w wr)) (fun _ iv _ => n - (intOf iv).toNat)
  case atStart => exact ⟨0, w.heap.size, 1, [(0, 0)], by omega, rfl, rfl, by simp, by simp, by simp, (fun _ => HT0.out), (fun e => by simp at e), HQ0, HB0⟩
  case round =>
    clear HQ0 HB0 HT0
    obtain ⟨i, g, lc, ts, hi, rfl, rfl, hlc, hl0, hlm, HT, HF, HO, HB⟩ := hrel
    by_cases hin : i < n
    · have hix : i < xs.length := by rw [HN.out]; exact hin
      have ji : (i : Int) < (n : Int) := by omega
      have wi : IntKind.i64.wrap ((i : Int) + 1) = ((i + 1 : Nat) : Int) := by rw [IntKind.wrap_i64]; omega
      have HCl : Hid (∀ W, Below w.heap.size w W → ∃ b o, ao = some ⟨b, o, none⟩ ∧ W.cell? ⟨b, o + i * 6, none⟩ = some (.int .u64 (xs[i].v : Int)) ∧ W.cell? ⟨b, o + i * 6 + 1, none⟩ = some (.int .u64 (xs[i].p : Int)) ∧ W.cell? ⟨b, o + i * 6 + 2, none⟩ = some (.int .i64 xs[i].n) ∧ W.cell? ⟨b, o + i * 6 + 3, none⟩ = some (.bool xs[i].big) ∧ W.cell? ⟨b, o + i * 6 + 4, none⟩ = some (.bool xs[i].wr) ∧ W.cell? ⟨b, o + i * 6 + 5, none⟩ = some (.bool xs[i].ex)) := fun W hW => by
        obtain ⟨_, _, e', _, _, _, hc⟩ := HR.out.below hW
        simp only [Value.slice.injEq] at e'
        obtain ⟨rfl, e9, rfl⟩ := e'
        exact hc i hix
      have hxa := HXa.out xs[i] (List.getElem_mem _)
      have HFu := Lib.hid (chF_full HRf.out hix)
      have HRw := Lib.hid (chF_row HRf.out hix)
      rw [HFL.out] at HFu
      obtain ⟨T, hT⟩ : ∃ T, tsU [(0, 0)] (units (xs.take i)) = T := ⟨_, rfl⟩
      rw [hT] at HFu HRw HT
      clear hT
      generalize xs[i] = x at *
      obtain ⟨z1, z2, z3, z4, z5, z6⟩ := aloneF_zero hxa
      obtain ⟨xv, xp, xn, xb, xw, xe⟩ := x
      simp only at z1 z4 HCl HFu HRw
      obtain ⟨m, rfl⟩ : ∃ m : Nat, xn = (m : Int) := ⟨xn.toNat, by omega⟩
      have z4 : xv + m * 4096 ≤ 549755813888 := z4
      rw [show ((m : Int)).toNat = m from rfl] at HFu HRw
      obtain ⟨K, hK⟩ : ∃ K, m * 4096 = K := ⟨_, rfl⟩
      obtain ⟨en, hen⟩ : ∃ en, xv + K = en := ⟨_, rfl⟩
      have wm : IntKind.u64.wrap (m : Int) = (m : Int) := by rw [IntKind.wrap_u64]; omega
      have wK : IntKind.u64.wrap ((m : Int) * 4096) = (K : Int) := by rw [IntKind.wrap_u64]; omega
      have wE : IntKind.u64.wrap ((xv : Int) + (K : Int)) = (en : Int) := by rw [IntKind.wrap_u64]; omega
      rw [hK, hen] at HFu HRw
      rw [hK, hen] at z4
      obtain ⟨v0, hv0⟩ : ∃ v0, xv / 2097152 * 2097152 = v0 := ⟨_, rfl⟩
      have jn21 : bits .andNot .u64 (xv : Int) 2097151 = (v0 : Int) := by rw [← hv0]; exact not21 (by omega)
      have jn21w : bits .andNot .u64 (xv : Int) (IntKind.u64.wrap 2097151) = (v0 : Int) := jn21
      obtain ⟨c0b, hc0b⟩ : ∃ c0b, xv / 2097152 = c0b := ⟨_, rfl⟩
      obtain ⟨nj, hnj⟩ : ∃ nj, (en - 1) / 2097152 + 1 - c0b = nj := ⟨_, rfl⟩
      have hen1 : 1 ≤ en := by omega
      have HJn : Hid (∀ j, (c0b + j) * 2097152 < en ↔ j < nj) := Lib.hid (fun j => by rw [← hnj, ← hc0b]; have : xv / 2097152 ≤ (en - 1) / 2097152 := Nat.div_le_div_right (by omega); omega)
      rw [hc0b, hnj] at HFu HRw
      have HV0 : Hid (v0 = (c0b + 0) * 2097152) := Lib.hid (by rw [Nat.add_zero, ← hc0b, hv0])
      have hcb : (c0b + nj) * 2097152 ≤ 1099511627776 := by rw [← hnj, ← hc0b]; have : xv / 2097152 ≤ (en - 1) / 2097152 := Nat.div_le_div_right (by omega); omega
      clear hK hen hv0 hc0b hnj z1 z2 z3 z5 z6 hxa
      obtain ⟨b, of, hao, c0, c1, c2, c3, c4, c5⟩ := HCl.out wr HB.out
      subst hao
      have HCl : Hid (∀ W, Below w.heap.size w W → W.cell? ⟨b, of + i * 6, none⟩ = some (.int .u64 (xv : Int)) ∧ W.cell? ⟨b, of + i * 6 + 2, none⟩ = some (.int .i64 (m : Int)) ∧ W.cell? ⟨b, of + i * 6 + 3, none⟩ = some (.bool xb)) := fun W hW => by
        obtain ⟨b', o', e', d0, d1, d2, d3, _⟩ := HCl.out W hW
        simp only [Option.some.injEq, Addr.mk.injEq] at e'
        obtain ⟨rfl, rfl, _⟩ := e'
        exact ⟨d0, d2, d3⟩
      clear c1 c3 c4 c5
      go_upto_region 5 with fail
      first | (go_quiet (fail)) | fail
      all_goals
        have HO1 : Hid (OwnQ (wr.drewN nq) w.heap.size (.slice (some ⟨g, 0, none⟩) ts.length lc) ts (fun _ => 0)) := HO.out
        have HB1 : Hid (Below w.heap.size w (wr.drewN nq)) := bdq6 HB.out nq
        clear HO HB c0 c2
        generalize (wr.drewN nq) = y1 at *
        obtain ⟨c0, c2, c3⟩ := HCl.out y1 HB1.out
        clear c2 c3
        go_upto_region 6 with fail
        go_region_held3 (fun w' => w'.cell? ⟨b, of + i * 6, none⟩ = some (.int .u64 (xv : Int))) (first | (exact (HCl.out _ HB9.out).1) | go_keep) (first | (go_at_call 29; refine (HRc2.out _).mono ?_; rintro e w9 ⟨rfl, hb9⟩; have HB9 := Lib.hid (HB1.out.drew.trans (hb9.mono HB1.out.size)); have HO9 := Lib.hid (OwnQ.below (w := y1.drew) HO1.out hb9); clear hb9))
        all_goals
          rw [show IntKind.u64.wrap 2097151 = (2097151 : Int) from rfl]
          clear c0 HO1 HB1 jn21 jn21w wm wK wE
          have HIa : Hid (ts.length ≤ 1024 → ts = chF T xb c0b 0) := HT
          obtain ⟨U, hUU⟩ : ∃ U : Nat, (2097152 : Nat) = U := ⟨_, rfl⟩
          have HRcU : Hid (∀ W, Calls Try.prog 29 #[.int .i64 2] W fun e w' => e = .returned (.int .u64 (U : Int)) ∧ Below W.heap.size W w') := fun W => by rw [← hUU]; exact HRc2.out W
          have HUl : Hid (U = 2097152) := Lib.hid hUU.symm
          have hU1 : 1 ≤ U ∧ U ≤ 4194304 := by omega
          rw [hUU] at HJn HV0 hcb
          clear hUU HRc2
          clear HT
          generalize w9 = y2 at *
          go_wp2_with fail
          go_loopw [3, 6] (fun lv vv wr => ∃ (j g lc q : Nat) (ts : List (Nat × Nat)), j ≤ nj ∧ vv = .int .u64 (q : Int) ∧ Hid (q = (c0b + j) * U) ∧ q ≤ 1099511627776 ∧ lv = .slice (some ⟨g, 0, none⟩) ts.length lc ∧ ts.length ≤ lc ∧ 0 < ts.length ∧ ts.length ≤ 1026 ∧ Hid (ts.length ≤ 1024 → ts = chF T xb c0b j) ∧ Hid (1024 < ts.length → 1024 < FL) ∧ Hid (OwnQ wr w.heap.size (.slice (some ⟨g, 0, none⟩) ts.length lc) ts (fun _ => 0)) ∧ Hid (Below w.heap.size w wr)) (fun _ vv _ => 1099511627777 - (intOf vv).toNat)
          case atStart => exact ⟨0, g, lc, v0, ts, Nat.zero_le _, rfl, HV0, by have := HV0.out; have h9 : (c0b + 0) * U ≤ (c0b + nj) * U := Nat.mul_le_mul_right _ (by omega); omega, rfl, hlc, hl0, hlm, HIa, HF, HO9, HB9⟩
          case round =>
            clear HIa HF HO9 HB9 hlc hl0 hlm
            obtain ⟨j, g, lc, q, ts, hj, rfl, HQv, hq40, rfl, hlc, hl0, hlm, HT, HF, HO, HB⟩ := hrel
            by_cases hjn : j < nj
            · have hqe : q < en := by rw [HQv.out]; exact (HJn.out j).2 hjn
              have jq : (q : Int) < (en : Int) := by omega
              by_cases hls : ts.length ≤ 1024
              · have jl : (ts.length : Int) ≤ 1024 := by omega
                have HTs := Lib.hid (HT.out hls)
                obtain ⟨bb, hbb⟩ : ∃ bb, c0b + j = bb := ⟨_, rfl⟩
                have HFn := HFu.out (j + 1) (by omega)
                have HSt : Hid (chF T xb c0b (j + 1) = tsStep (chF T xb c0b j) xb bb) := Lib.hid (by show tsStep _ _ (c0b + j) = _; rw [hbb])
                rw [HSt.out, ← HTs.out] at HFn
                rw [hbb] at HQv
                have HFN := Lib.hid HFn
                have hqb : q = bb * U := HQv.out
                have HQ2 : Hid (q + U = (c0b + (j + 1)) * U) := Lib.hid (by rw [hqb, ← hbb, ← Nat.add_assoc, Nat.add_mul (c0b + j) 1, Nat.one_mul])
                have hq2 : q + U ≤ 1099511627776 := by
                  have h9 : (c0b + (j + 1)) * U ≤ (c0b + nj) * U := Nat.mul_le_mul_right _ (by omega)
                  have h10 := HQ2.out
                  omega
                obtain ⟨a3, ha3⟩ : ∃ a3, q / 1073741824 * 1073741824 = a3 := ⟨_, rfl⟩
                have j30 : bits .andNot .u64 (q : Int) 1073741823 = (a3 : Int) := by rw [← ha3]; exact not30 (by omega)
                have j30w : bits .andNot .u64 (q : Int) (IntKind.u64.wrap 1073741823) = (a3 : Int) := j30
                have HV1 : Hid (vq (1, bb / 512) = a3) := Lib.hid (by rw [vq_one, ← ha3, hqb, HUl.out, d30])
                have HV2 : Hid (vq (2, bb) = q) := Lib.hid (by rw [vq_two, hqb, HUl.out])
                have ha3l : a3 ≤ 1099511627776 := by omega
                have wq : IntKind.u64.wrap ((q : Int) + (U : Int)) = ((q + U : Nat) : Int) := by rw [IntKind.wrap_u64]; omega
                clear hqb ha3 hbb HT HQv HFn
                go_upto_region 9 with fail
                go_wp2_with fail
                refine (HRc1.out _).mono ?_
                rintro e u1 ⟨rfl, hb1⟩
                have HB1 := Lib.hid (HB.out.trans (hb1.mono HB.out.size))
                have HO1 := Lib.hid (HO.out.below hb1)
                clear hb1 HB HO
                have HHs := Lib.hid (has_any HO1.out (by omega) (Or.inl rfl) HV1.out hlc)
                go_wp2_with fail
                refine HHs.out.mono ?_
                rintro e u2 ⟨rfl, hb2⟩
                have HB2 := Lib.hid (HB1.out.trans (hb2.mono HB1.out.size))
                have HO2 := Lib.hid (HO1.out.below hb2)
                clear hb2 HB1 HO1 HHs
                by_cases hm1 : (1, bb / 512) ∈ ts
                · have HM : Hid (ts1 ts (bb / 512) = ts) := Lib.hid (by unfold ts1; rw [if_pos hm1])
                  rw [decide_eq_true hm1]
                  clear hm1
                  go_upto_region 11 with fail
                  obtain ⟨c0, c2, c3⟩ := HCl.out _ HB2.out
                  clear c0 c2
                  cases xb with
                  | true =>
                    have HN1 : Hid (tsStep ts true bb = ts) := Lib.hid (by rw [tsStep_eq, if_pos rfl, HM.out])
                    clear HV1 HV2 j30 j30w
                    go_wp2_with fail
                    refine (HRcU.out _).mono ?_
                    rintro e u9 ⟨rfl, hb9⟩
                    have HB9 := Lib.hid (HB2.out.trans (hb9.mono HB2.out.size))
                    have HO9 := Lib.hid (HO2.out.below hb9)
                    clear hb9 c3
                    have hl9 := (tsStep_len ts true bb).2
                    rw [HN1.out] at hl9
                    have HT9 : Hid ((ts).length ≤ 1024 → ts = chF T true c0b (j + 1)) := fun _ => by rw [HSt.out, ← HTs.out, HN1.out]
                    have HF9 : Hid (1024 < (ts).length → 1024 < FL) := fun e => Nat.lt_of_lt_of_le e (by rw [← HN1.out]; exact HFN.out)
                    go_wp2_with fail
                    go_roundw
                    case rel => exact ⟨j + 1, g, lc, q + U, ts, by omega, rfl, HQ2, hq2, rfl, hlc, hl0, by omega, HT9, HF9, HO9, HB9⟩
                    case measure =>
                      simp [intOf]
                      omega
                  | false =>
                    have HHs := Lib.hid (has_any HO2.out (by omega) (Or.inr rfl) HV2.out hlc)
                    go_wp2_with fail
                    refine HHs.out.mono ?_
                    rintro e u5 ⟨rfl, hb5⟩
                    have HB5 := Lib.hid (HB2.out.trans (hb5.mono HB2.out.size))
                    have HO5 := Lib.hid (HO2.out.below hb5)
                    clear hb5 c3 HHs
                    by_cases hm2 : (2, bb) ∈ ts
                    · have HN1 : Hid (tsStep ts false bb = ts) := Lib.hid (by rw [tsStep_eq, if_neg (by decide), HM.out]; unfold ts2; rw [if_pos hm2])
                      rw [decide_eq_true hm2]
                      clear HV1 HV2 j30 j30w hm2
                      go_wp2_with fail
                      refine (HRcU.out _).mono ?_
                      rintro e u9 ⟨rfl, hb9⟩
                      have HB9 := Lib.hid (HB5.out.trans (hb9.mono HB5.out.size))
                      have HO9 := Lib.hid (HO5.out.below hb9)
                      clear hb9
                      have hl9 := (tsStep_len ts false bb).2
                      rw [HN1.out] at hl9
                      have HT9 : Hid ((ts).length ≤ 1024 → ts = chF T false c0b (j + 1)) := fun _ => by rw [HSt.out, ← HTs.out, HN1.out]
                      have HF9 : Hid (1024 < (ts).length → 1024 < FL) := fun e => Nat.lt_of_lt_of_le e (by rw [← HN1.out]; exact HFN.out)
                      go_wp2_with fail
                      go_roundw
                      case rel => exact ⟨j + 1, g, lc, q + U, ts, by omega, rfl, HQ2, hq2, rfl, hlc, hl0, by omega, HT9, HF9, HO9, HB9⟩
                      case measure =>
                        simp [intOf]
                        omega
                    · have HN1 : Hid (tsStep ts false bb = ts ++ [(2, bb)]) := Lib.hid (by rw [tsStep_eq, if_neg (by decide), HM.out]; unfold ts2; rw [if_neg hm2])
                      rw [decide_eq_false hm2]
                      have HqB := Lib.hid (q_build 2 (q : Int))
                      have HqS := Lib.hid (q_slice 2 (q : Int))
                      have HqE : Hid (qrow 2 (q : Int) = qrow (((2, bb) : Nat × Nat).1 : Int) (vq (2, bb) : Int)) := Lib.hid (by rw [HV2.out]; rfl)
                      generalize qrow 2 (q : Int) = Q2 at HqB HqS HqE
                      clear HV1 HV2 j30 j30w hm2
                      have HOA : Hid (OwnQ (u5.alloc (.cells Q2 68)) w.heap.size (.slice (some ⟨g, 0, none⟩) (ts).length lc) (ts) (fun _ => 0)) := HO5.out.below ((Below.refl _ _).alloc (Nat.le_refl _) _)
                      have HBA : Hid (Below w.heap.size w (u5.alloc (.cells Q2 68))) := HB5.out.alloc HB5.out.size _
                      have HBK : Hid ((u5.alloc (.cells Q2 68)).heap[u5.heap.size]? = some (.cells Q2 68 (0, 0))) := heap_alloc_new u5 _
                      have hl9 := (tsStep_len ts false bb).2
                      rw [HN1.out] at hl9
                      have HLb : Hid ((ts).length ≤ 2000) := show (ts).length ≤ 2000 by omega
                      go_wp2_with (first | (refine wpList_qbuild rfl #[(0, .const (.int .i64 2)), (1, .tmp 75)] rfl #[(0, .int .i64 2), (1, .int .u64 (q : Int))] (by simp [Act.eval, Act.put]) (fun W => HqB.out W) ?_) | (refine wpList_qslice rfl #[(0, .tmp 76)] rfl #[(0, .agg Q2)] (by simp [Act.eval, Act.put]) (fun W => HqS.out W) ?_) | (at_builtin; refine wpList_appendQ (ts := ts) (y := (2, bb)) (base := w.heap.size) rfl (.tmp 74) (.tmp 77) rfl HqE.out HOA.out rfl rfl HBK.out HLb.out HBA.out.size ?_; intro v7 u7 HO7 HG7; obtain ⟨t7, ht7⟩ : ∃ t7, ts ++ [(2, bb)] = t7 := ⟨_, rfl⟩; rw [ht7] at HO7; obtain ⟨g7, c7, hv7, hc7, hO7⟩ := HO7.out.slice (by rw [← ht7]; simp); subst hv7; clear hO7))
                      have HB7 : Hid (Below w.heap.size w u7) := HBA.out.grown HG7.out HBA.out.size (fun k e => (HOA.out.lt k e).1)
                      clear HqB HqS HqE HBK HOA HBA
                      go_wp2_with fail
                      refine (HRcU.out _).mono ?_
                      rintro e u9 ⟨rfl, hb9⟩
                      have HB9 := Lib.hid (HB7.out.trans (hb9.mono HB7.out.size))
                      have HO9 := Lib.hid (HO7.out.below hb9)
                      clear hb9
                      have HT9 : Hid (t7.length ≤ 1024 → t7 = chF T false c0b (j + 1)) := fun _ => by rw [HSt.out, ← HTs.out, HN1.out, ht7]
                      have HF9 : Hid (1024 < t7.length → 1024 < FL) := fun e => Nat.lt_of_lt_of_le e (by rw [← ht7, ← HN1.out]; exact HFN.out)
                      have hl7 : t7.length ≤ 1026 ∧ 0 < t7.length := by rw [← ht7]; simp at hl9 ⊢; omega
                      clear ht7 hl9
                      go_wp2_with fail
                      go_roundw
                      case rel => exact ⟨j + 1, g7, c7, q + U, t7, by omega, rfl, HQ2, hq2, rfl, hc7, hl7.2, hl7.1, HT9, HF9, HO9, HB9⟩
                      case measure =>
                        simp [intOf]
                        omega
                · have HM : Hid (ts1 ts (bb / 512) = ts ++ [(1, bb / 512)]) := Lib.hid (by unfold ts1; rw [if_neg hm1])
                  cases xb with
                  | true =>
                    rw [decide_eq_false hm1]
                    have HqB := Lib.hid (q_build 1 (a3 : Int))
                    have HqS := Lib.hid (q_slice 1 (a3 : Int))
                    have HqE : Hid (qrow 1 (a3 : Int) = qrow (((1, bb / 512) : Nat × Nat).1 : Int) (vq (1, bb / 512) : Int)) := Lib.hid (by rw [HV1.out]; rfl)
                    generalize qrow 1 (a3 : Int) = Q1 at HqB HqS HqE
                    clear hm1
                    go_wp2_with fail
                    refine (HRc1.out _).mono ?_
                    rintro e u3 ⟨rfl, hb3⟩
                    have HB3 := Lib.hid (HB2.out.trans (hb3.mono HB2.out.size))
                    have HO3 := Lib.hid (HO2.out.below hb3)
                    clear hb3 HB2 HO2
                    have HOA : Hid (OwnQ (u3.alloc (.cells Q1 68)) w.heap.size (.slice (some ⟨g, 0, none⟩) ts.length lc) ts (fun _ => 0)) := HO3.out.below ((Below.refl _ _).alloc (Nat.le_refl _) _)
                    have HBA : Hid (Below w.heap.size w (u3.alloc (.cells Q1 68))) := HB3.out.alloc HB3.out.size _
                    have HBK : Hid ((u3.alloc (.cells Q1 68)).heap[u3.heap.size]? = some (.cells Q1 68 (0, 0))) := heap_alloc_new u3 _
                    have HLb : Hid (ts.length ≤ 2000) := show ts.length ≤ 2000 by omega
                    go_wp2_with (first | (refine wpList_qbuild rfl #[(0, .const (.int .i64 1)), (1, .tmp 58)] rfl #[(0, .int .i64 1), (1, .int .u64 (a3 : Int))] (by simp [Act.eval, Act.put]) (fun W => HqB.out W) ?_) | (refine wpList_qslice rfl #[(0, .tmp 59)] rfl #[(0, .agg Q1)] (by simp [Act.eval, Act.put]) (fun W => HqS.out W) ?_) | (at_builtin; refine wpList_appendQ (ts := ts) (y := (1, bb / 512)) (base := w.heap.size) rfl (.tmp 54) (.tmp 60) rfl HqE.out HOA.out rfl rfl HBK.out HLb.out HBA.out.size ?_; intro v4 u4 HO4 HG4; obtain ⟨t4, ht4⟩ : ∃ t4, ts ++ [(1, bb / 512)] = t4 := ⟨_, rfl⟩; rw [ht4] at HO4; obtain ⟨g4, c4, hv4, hc4, hO4⟩ := HO4.out.slice (by rw [← ht4]; simp); subst hv4; have HB4 : Hid (Below w.heap.size w u4) := HBA.out.grown HG4.out HBA.out.size (fun k e => (HOA.out.lt k e).1); obtain ⟨c0, c2, c3⟩ := HCl.out _ HB4.out; clear c0 c2))
                    clear HqB HqS HqE HBK HOA HBA HLb
                    have hlen4 : t4.length ≤ 1025 := by rw [← ht4]; simp; omega
                    have hp4 : 0 < t4.length := by rw [← ht4]; simp
                    have HM := Lib.hid (HM.out.trans ht4)
                    clear ht4
                    have HO4 := Lib.hid hO4
                    clear hO4
                    have HN1 : Hid (tsStep ts true bb = t4) := Lib.hid (by rw [tsStep_eq, if_pos rfl, HM.out])
                    clear HV1 HV2 j30 j30w
                    refine (HRcU.out _).mono ?_
                    rintro e u9 ⟨rfl, hb9⟩
                    have HB9 := Lib.hid (HB4.out.trans (hb9.mono HB4.out.size))
                    have HO9 := Lib.hid (HO4.out.below hb9)
                    clear hb9 c3
                    have hl9 := (tsStep_len ts true bb).2
                    rw [HN1.out] at hl9
                    have HT9 : Hid ((t4).length ≤ 1024 → t4 = chF T true c0b (j + 1)) := fun _ => by rw [HSt.out, ← HTs.out, HN1.out]
                    have HF9 : Hid (1024 < (t4).length → 1024 < FL) := fun e => Nat.lt_of_lt_of_le e (by rw [← HN1.out]; exact HFN.out)
                    go_wp2_with fail
                    go_roundw
                    case rel => exact ⟨j + 1, g4, c4, q + U, t4, by omega, rfl, HQ2, hq2, rfl, hc4, hp4, by omega, HT9, HF9, HO9, HB9⟩
                    case measure =>
                      simp [intOf]
                      omega
                  | false =>
                    rw [decide_eq_false hm1]
                    have HqB := Lib.hid (q_build 1 (a3 : Int))
                    have HqS := Lib.hid (q_slice 1 (a3 : Int))
                    have HqE : Hid (qrow 1 (a3 : Int) = qrow (((1, bb / 512) : Nat × Nat).1 : Int) (vq (1, bb / 512) : Int)) := Lib.hid (by rw [HV1.out]; rfl)
                    generalize qrow 1 (a3 : Int) = Q1 at HqB HqS HqE
                    clear hm1
                    go_wp2_with fail
                    refine (HRc1.out _).mono ?_
                    rintro e u3 ⟨rfl, hb3⟩
                    have HB3 := Lib.hid (HB2.out.trans (hb3.mono HB2.out.size))
                    have HO3 := Lib.hid (HO2.out.below hb3)
                    clear hb3 HB2 HO2
                    have HOA : Hid (OwnQ (u3.alloc (.cells Q1 68)) w.heap.size (.slice (some ⟨g, 0, none⟩) ts.length lc) ts (fun _ => 0)) := HO3.out.below ((Below.refl _ _).alloc (Nat.le_refl _) _)
                    have HBA : Hid (Below w.heap.size w (u3.alloc (.cells Q1 68))) := HB3.out.alloc HB3.out.size _
                    have HBK : Hid ((u3.alloc (.cells Q1 68)).heap[u3.heap.size]? = some (.cells Q1 68 (0, 0))) := heap_alloc_new u3 _
                    have HLb : Hid (ts.length ≤ 2000) := show ts.length ≤ 2000 by omega
                    go_wp2_with (first | (refine wpList_qbuild rfl #[(0, .const (.int .i64 1)), (1, .tmp 58)] rfl #[(0, .int .i64 1), (1, .int .u64 (a3 : Int))] (by simp [Act.eval, Act.put]) (fun W => HqB.out W) ?_) | (refine wpList_qslice rfl #[(0, .tmp 59)] rfl #[(0, .agg Q1)] (by simp [Act.eval, Act.put]) (fun W => HqS.out W) ?_) | (at_builtin; refine wpList_appendQ (ts := ts) (y := (1, bb / 512)) (base := w.heap.size) rfl (.tmp 54) (.tmp 60) rfl HqE.out HOA.out rfl rfl HBK.out HLb.out HBA.out.size ?_; intro v4 u4 HO4 HG4; obtain ⟨t4, ht4⟩ : ∃ t4, ts ++ [(1, bb / 512)] = t4 := ⟨_, rfl⟩; rw [ht4] at HO4; obtain ⟨g4, c4, hv4, hc4, hO4⟩ := HO4.out.slice (by rw [← ht4]; simp); subst hv4; have HB4 : Hid (Below w.heap.size w u4) := HBA.out.grown HG4.out HBA.out.size (fun k e => (HOA.out.lt k e).1); obtain ⟨c0, c2, c3⟩ := HCl.out _ HB4.out; clear c0 c2))
                    clear HqB HqS HqE HBK HOA HBA HLb
                    have hlen4 : t4.length ≤ 1025 := by rw [← ht4]; simp; omega
                    have hp4 : 0 < t4.length := by rw [← ht4]; simp
                    have HM := Lib.hid (HM.out.trans ht4)
                    clear ht4
                    have HO4 := Lib.hid hO4
                    clear hO4
                    have HHs := Lib.hid (has_any HO4.out (by omega) (Or.inr rfl) HV2.out hc4)
                    refine HHs.out.mono ?_
                    rintro e u5 ⟨rfl, hb5⟩
                    have HB5 := Lib.hid (HB4.out.trans (hb5.mono HB4.out.size))
                    have HO5 := Lib.hid (HO4.out.below hb5)
                    clear hb5 c3 HHs
                    by_cases hm2 : (2, bb) ∈ t4
                    · have HN1 : Hid (tsStep ts false bb = t4) := Lib.hid (by rw [tsStep_eq, if_neg (by decide), HM.out]; unfold ts2; rw [if_pos hm2])
                      rw [decide_eq_true hm2]
                      clear HV1 HV2 j30 j30w hm2
                      go_wp2_with fail
                      refine (HRcU.out _).mono ?_
                      rintro e u9 ⟨rfl, hb9⟩
                      have HB9 := Lib.hid (HB5.out.trans (hb9.mono HB5.out.size))
                      have HO9 := Lib.hid (HO5.out.below hb9)
                      clear hb9
                      have hl9 := (tsStep_len ts false bb).2
                      rw [HN1.out] at hl9
                      have HT9 : Hid ((t4).length ≤ 1024 → t4 = chF T false c0b (j + 1)) := fun _ => by rw [HSt.out, ← HTs.out, HN1.out]
                      have HF9 : Hid (1024 < (t4).length → 1024 < FL) := fun e => Nat.lt_of_lt_of_le e (by rw [← HN1.out]; exact HFN.out)
                      go_wp2_with fail
                      go_roundw
                      case rel => exact ⟨j + 1, g4, c4, q + U, t4, by omega, rfl, HQ2, hq2, rfl, hc4, hp4, by omega, HT9, HF9, HO9, HB9⟩
                      case measure =>
                        simp [intOf]
                        omega
                    · have HN1 : Hid (tsStep ts false bb = t4 ++ [(2, bb)]) := Lib.hid (by rw [tsStep_eq, if_neg (by decide), HM.out]; unfold ts2; rw [if_neg hm2])
                      rw [decide_eq_false hm2]
                      have HqB := Lib.hid (q_build 2 (q : Int))
                      have HqS := Lib.hid (q_slice 2 (q : Int))
                      have HqE : Hid (qrow 2 (q : Int) = qrow (((2, bb) : Nat × Nat).1 : Int) (vq (2, bb) : Int)) := Lib.hid (by rw [HV2.out]; rfl)
                      generalize qrow 2 (q : Int) = Q2 at HqB HqS HqE
                      clear HV1 HV2 j30 j30w hm2
                      have HOA : Hid (OwnQ (u5.alloc (.cells Q2 68)) w.heap.size (.slice (some ⟨g4, 0, none⟩) (t4).length c4) (t4) (fun _ => 0)) := HO5.out.below ((Below.refl _ _).alloc (Nat.le_refl _) _)
                      have HBA : Hid (Below w.heap.size w (u5.alloc (.cells Q2 68))) := HB5.out.alloc HB5.out.size _
                      have HBK : Hid ((u5.alloc (.cells Q2 68)).heap[u5.heap.size]? = some (.cells Q2 68 (0, 0))) := heap_alloc_new u5 _
                      have hl9 := (tsStep_len ts false bb).2
                      rw [HN1.out] at hl9
                      have HLb : Hid ((t4).length ≤ 2000) := show (t4).length ≤ 2000 by omega
                      go_wp2_with (first | (refine wpList_qbuild rfl #[(0, .const (.int .i64 2)), (1, .tmp 75)] rfl #[(0, .int .i64 2), (1, .int .u64 (q : Int))] (by simp [Act.eval, Act.put]) (fun W => HqB.out W) ?_) | (refine wpList_qslice rfl #[(0, .tmp 76)] rfl #[(0, .agg Q2)] (by simp [Act.eval, Act.put]) (fun W => HqS.out W) ?_) | (at_builtin; refine wpList_appendQ (ts := t4) (y := (2, bb)) (base := w.heap.size) rfl (.tmp 74) (.tmp 77) rfl HqE.out HOA.out rfl rfl HBK.out HLb.out HBA.out.size ?_; intro v7 u7 HO7 HG7; obtain ⟨t7, ht7⟩ : ∃ t7, t4 ++ [(2, bb)] = t7 := ⟨_, rfl⟩; rw [ht7] at HO7; obtain ⟨g7, c7, hv7, hc7, hO7⟩ := HO7.out.slice (by rw [← ht7]; simp); subst hv7; clear hO7))
                      have HB7 : Hid (Below w.heap.size w u7) := HBA.out.grown HG7.out HBA.out.size (fun k e => (HOA.out.lt k e).1)
                      clear HqB HqS HqE HBK HOA HBA
                      go_wp2_with fail
                      refine (HRcU.out _).mono ?_
                      rintro e u9 ⟨rfl, hb9⟩
                      have HB9 := Lib.hid (HB7.out.trans (hb9.mono HB7.out.size))
                      have HO9 := Lib.hid (HO7.out.below hb9)
                      clear hb9
                      have HT9 : Hid (t7.length ≤ 1024 → t7 = chF T false c0b (j + 1)) := fun _ => by rw [HSt.out, ← HTs.out, HN1.out, ht7]
                      have HF9 : Hid (1024 < t7.length → 1024 < FL) := fun e => Nat.lt_of_lt_of_le e (by rw [← ht7, ← HN1.out]; exact HFN.out)
                      have hl7 : t7.length ≤ 1026 ∧ 0 < t7.length := by rw [← ht7]; simp at hl9 ⊢; omega
                      clear ht7 hl9
                      go_wp2_with fail
                      go_roundw
                      case rel => exact ⟨j + 1, g7, c7, q + U, t7, by omega, rfl, HQ2, hq2, rfl, hc7, hl7.2, hl7.1, HT9, HF9, HO9, HB9⟩
                      case measure =>
                        simp [intOf]
                        omega
              · have jl : decide ((ts.length : Int) ≤ 1024) = false := decide_eq_false (by omega)
                have jl2 : decide (ts.length ≤ 1024) = false := decide_eq_false hls
                have HT3 : Hid (ts.length ≤ 1024 → ts = tsU [(0, 0)] (units (xs.take (i + 1)))) := fun e => absurd e hls
                clear HT
                go_wp2_with fail
                go_roundw
                case rel => exact ⟨i + 1, g, lc, ts, by omega, rfl, rfl, hlc, hl0, hlm, HT3, HF, HO, HB⟩
                case measure => simp [intOf]; omega
            · have hjn' : j = nj := by omega
              have jq : ¬ (q : Int) < (en : Int) := by
                have h5 : ¬ q < en := by rw [HQv.out]; exact fun e => hjn ((HJn.out j).1 e)
                omega
              have HT3 : Hid (ts.length ≤ 1024 → ts = tsU [(0, 0)] (units (xs.take (i + 1)))) := fun e => by rw [HRw.out, ← hjn']; exact HT.out e
              clear HT hjn'
              go_wp2_with fail
              go_roundw
              case rel => exact ⟨i + 1, g, lc, ts, by omega, rfl, rfl, hlc, hl0, hlm, HT3, HF, HO, HB⟩
              case measure => simp [intOf]; omega
    · have ji : ¬ (i : Int) < (n : Int) := by omega
      have hin' : i = n := by omega
      have HT2 : Hid (ts.length ≤ 1024 → ts = tsU [(0, 0)] (units xs)) := fun e => by
        have h5 := HT.out e
        rw [hin', ← HN.out, List.take_length] at h5
        exact h5
      have HF2 : Hid (1024 < ts.length → 1024 < (tsU [(0, 0)] (units xs)).length) := fun e => by rw [HFL.out]; exact HF.out e
      clear HT HF hin'
      go_wp2_with fail
      go_ret
      exact ⟨g, lc, ts, rfl, HO.out, hlc, hl0, hlm, HT2.out, HF2.out, HB.out⟩
end Go.Proofs.Ytgjamnhepbblhaa
