/- Bundle: plans. Own work. -/
import Derived.Test.YtinjhgimhboigaaDoorBnSec3
namespace Go.Proofs.YtinjhgimhboigaaDoor
open Go.RowKit Bn
set_option linter.unusedVariables false
set_option linter.unusedSimpArgs false
/-- a row of lanes -/
def LnG (w : World) (v : Value) (ls : List (List (Int × Int))) : Prop :=
  ∃ ao cap, v = .slice ao ls.length cap ∧ ls.length ≤ cap ∧ cap ≤ maxLen ∧ ∀ j (h : j < ls.length), ∃ b o u, ao = some ⟨b, o, none⟩ ∧ w.cell? ⟨b, o + j, none⟩ = some u ∧ RowG 2 stE w u ls[j]
/-- a row of plans -/
def PlG (w : World) (v : Value) (xs : List Sc) : Prop :=
  ∃ ao cap, v = .slice ao xs.length cap ∧ xs.length ≤ cap ∧ cap ≤ maxLen ∧ ∀ i (h : i < xs.length), ∃ b o u, ao = some ⟨b, o, none⟩ ∧ w.cell? ⟨b, o + i * 2, none⟩ = some (.int .i64 xs[i].maj) ∧ w.cell? ⟨b, o + i * 2 + 1, none⟩ = some u ∧ LnG w u xs[i].lanes
theorem cell_low {w w' : World} (hb : Below w.heap.size w w') {b o : Nat} {v : Value} (h : w.cell? ⟨b, o, none⟩ = some v) : w'.cell? ⟨b, o, none⟩ = some v := (World.cell?_of_block (a := ⟨b, o, none⟩) (hb.block b (World.block_lt_of_cell? w _ h))).trans h
theorem LnG.below {w w' : World} {v : Value} {ls : List (List (Int × Int))} (h : LnG w v ls) (hb : Below w.heap.size w w') : LnG w' v ls := by
  obtain ⟨ao, cap, rfl, h1, h2, h3⟩ := h
  refine ⟨ao, cap, rfl, h1, h2, fun j hj => ?_⟩
  obtain ⟨b, o, u, rfl, hc, hr⟩ := h3 j hj
  exact ⟨b, o, u, rfl, cell_low hb hc, hr.below hb⟩
theorem PlG.below {w w' : World} {v : Value} {xs : List Sc} (h : PlG w v xs) (hb : Below w.heap.size w w') : PlG w' v xs := by
  obtain ⟨ao, cap, rfl, h1, h2, h3⟩ := h
  refine ⟨ao, cap, rfl, h1, h2, fun j hj => ?_⟩
  obtain ⟨b, o, u, rfl, hc, hd, hr⟩ := h3 j hj
  exact ⟨b, o, u, rfl, cell_low hb hc, cell_low hb hd, hr.below hb⟩
def lnOk (l : List (Int × Int)) : Prop := ∀ x ∈ l, stOk x
def scOk (p : Sc) : Prop := I64R p.maj ∧ ∀ l ∈ p.lanes, lnOk l
def lsum : List (List (Int × Int)) → Nat
  | [] => 0
  | l :: ls => 8 + 8 * l.length + lsum ls
def psum : List Sc → Nat
  | [] => 0
  | p :: ps => 8 + lsum p.lanes + psum ps
theorem lane_len (l : List (Int × Int)) (s : S) : (laneS l s).1.length = s.1.length + 8 + 8 * l.length := by rw [laneS, each_len stS_len, many_len]
theorem lanes_len : ∀ (ls : List (List (Int × Int))) (s : S), (eachS laneS ls s).1.length = s.1.length + lsum ls
  | [], s => rfl
  | l :: ls, s => by rw [eachS, lanes_len ls, lane_len, lsum]; omega
theorem plan_len (n : Nat) (p : Sc) (s : S) : (planS n p s).1.length = s.1.length + 8 + lsum p.lanes := by rw [planS, lanes_len, zeros_len, word_len, field_len]
theorem plans_len (n : Nat) : ∀ (ps : List Sc) (s : S), (eachS (planS n) ps s).1.length = s.1.length + psum ps
  | [], s => rfl
  | p :: ps, s => by rw [eachS, plans_len n ps, plan_len, psum]; omega
theorem lsum_take : ∀ (ls : List (List (Int × Int))) (i : Nat) (h : i < ls.length), lsum (ls.take i) + 8 + 8 * ls[i].length ≤ lsum ls
  | l :: ls, 0, h => by simp [lsum]
  | l :: ls, i + 1, h => by
    have := lsum_take ls i (by simpa using h)
    simp only [List.take_succ_cons, lsum, List.getElem_cons_succ]
    omega
theorem psum_take : ∀ (ps : List Sc) (i : Nat) (h : i < ps.length), psum (ps.take i) + 8 + lsum ps[i].lanes ≤ psum ps
  | p :: ps, 0, h => by simp [psum]
  | p :: ps, i + 1, h => by
    have := psum_take ps i (by simpa using h)
    simp only [List.take_succ_cons, psum, List.getElem_cons_succ]
    omega
def lanesL : List Sc → Nat
  | [] => 0
  | p :: _ => p.lanes.length
section
variable {B kb : Nat} {im : List Value} {o : Option Nat} {en : List Value} {w0 : World} {s : S} {w : World}
set_option maxRecDepth 100000 in
set_option maxHeartbeats 8000000 in
theorem plansX (h : Sx B kb im o en w0 s w) {v : Value} {xs : List Sc} {ms st : Int} (hi : im[8]? = some v) (hi9 : im[9]? = some (.int .i64 ms)) (hi10 : im[10]? = some (.int .i64 st)) {wz : World} (hz : PlG wz v xs) (hbz : ∀ W, Fx B w0 W → Below wz.heap.size wz W) (hok : ∀ x ∈ xs, scOk x) (hms : I64R ms) (hst : I64R st) (hl : s.1.length + 8 + psum xs ≤ 274877906944) : Calls Tryd.prog 23 #[.pointer (some ⟨kb, 0, none⟩)] w fun e w' => e = .returned (.tuple #[]) ∧ Sx B kb im o en w0 (eachS (planS (lanesL xs)) xs (halfS st (noneS ms (halfS (lanesL xs : Int) (halfS (xs.length : Int) s))))) w' := by
  have HBz : Hid (∀ W, Fx B w0 W → Below wz.heap.size wz W) := hbz
  have HL : Hid ((halfS st (noneS ms (halfS (lanesL xs : Int) (halfS (xs.length : Int) s)))).1.length + psum xs ≤ 274877906944) := show _ ≤ _ by rw [half_len, none_len, half_len, half_len]; omega
  have HLs : Hid (s.1.length + 8 ≤ 274877906944) := show _ ≤ _ by omega
  have HOk : Hid (∀ x ∈ xs, scOk x) := hok
  obtain ⟨ao, cap, rfl, h1, h2, h3⟩ := hz
  have HRz : Hid (∀ i (h : i < xs.length), ∃ b o u, ao = some ⟨b, o, none⟩ ∧ wz.cell? ⟨b, o + i * 2, none⟩ = some (.int .i64 xs[i].maj) ∧ wz.cell? ⟨b, o + i * 2 + 1, none⟩ = some u ∧ LnG wz u xs[i].lanes) := h3
  unfold maxLen at h2
  have HI : Hid (∀ W s', Sx B kb im o en w0 s' W → W.cell? ⟨kb, 8, none⟩ = some (.slice ao xs.length cap) ∧ W.cell? ⟨kb, 9, none⟩ = some (.int .i64 ms) ∧ W.cell? ⟨kb, 10, none⟩ = some (.int .i64 st)) := fun W s' hW => ⟨(St.cell hW 8).trans ((lyC_im hW.him (by decide)).trans hi), (St.cell hW 9).trans ((lyC_im hW.him (by decide)).trans hi9), (St.cell hW 10).trans ((lyC_im hW.him (by decide)).trans hi10)⟩
  obtain ⟨c8, c9, c10⟩ := HI.out _ _ h
  have HFst : Hid (0 < xs.length → ∃ b of la lc, ao = some ⟨b, of, none⟩ ∧ w.cell? ⟨b, of + 1, none⟩ = some (.slice la (lanesL xs) lc) ∧ lanesL xs ≤ 9223372036854775807) := fun hp => by
    obtain ⟨b, of, u, e, _, hc, hL⟩ := h3 0 hp
    obtain ⟨la, lc, rfl, k1, k2, _⟩ := hL
    unfold maxLen at k2
    have e2 : xs[0].lanes.length = lanesL xs := by
      cases xs with
      | nil => simp at hp
      | cons p ps => rfl
    rw [e2] at hc k1
    refine ⟨b, of, la, lc, e, ?_, by omega⟩
    have := cell_low (hbz w h.fr) hc
    simpa using this
  obtain ⟨n, hn⟩ : ∃ n, xs.length = n := ⟨_, rfl⟩
  obtain ⟨q, hq⟩ : ∃ q, lanesL xs = q := ⟨_, rfl⟩
  have HN := Lib.hid hn
  have HQ0 : Hid (n = 0 → q = 0) := fun e => by
    rw [← hq]
    cases xs with
    | nil => rfl
    | cons p ps => simp at hn; omega
  have H0 := Lib.hid h
  rw [hn, hq] at HL
  rw [hn] at h1 HI c8 HFst
  rw [hq] at HFst
  rw [hn, hq]
  obtain ⟨s0, hs0⟩ : ∃ s0, halfS st (noneS ms (halfS (q : Int) (halfS (n : Int) s))) = s0 := ⟨_, rfl⟩
  have HS0 : Hid (halfS st (noneS ms (halfS (q : Int) (halfS (n : Int) s))) = s0) := hs0
  rw [hs0] at HL ⊢
  clear hn hq hs0 h hl hok hbz hi hi9 hi10 h3
  go_enter Tryd.func23, Tryd.ntmps23
  go_upto_if 13 with fail
  go_cut [2] (fun y wx => y = .int .i64 (q : Int) ∧ wx = w ∧ Hid (q ≤ 9223372036854775807))
  case first =>
    by_cases hp : 0 < n
    · obtain ⟨b, of, la, lc, rfl, hc, hq9⟩ := HFst.out hp
      have jp : (0 : Int) < (n : Int) := by omega
      go_wp2_with fail
      go_meet
      exact ⟨rfl, rfl, hq9⟩
    · have jp : ¬ (0 : Int) < (n : Int) := by omega
      have hq0 : q = 0 := HQ0.out (by omega)
      go_wp2_with fail
      go_meet
      exact ⟨by rw [hq0]; rfl, rfl, by rw [hq0]; exact Lib.hid (Nat.zero_le _)⟩
  case rest =>
    obtain ⟨rfl, hw, HQ9⟩ := hcut
    have hw := hw.symm
    subst hw
    have hq9 := HQ9.out
    go_wp2_with fail
    refine (halfX H0.out (k := (n : Int)) ⟨by omega, by omega⟩ (by have := HLs.out; omega)).mono ?_
    rintro e w1 ⟨rfl, h1'⟩
    have H1 := Lib.hid h1'
    clear c8 c9 c10
    obtain ⟨c8, c9, c10⟩ := HI.out _ _ h1'
    clear h1' H0
    go_wp2_with fail
    refine (halfX H1.out (k := (q : Int)) ⟨by omega, by omega⟩ (by rw [half_len]; have := HLs.out; omega)).mono ?_
    rintro e w2 ⟨rfl, h2'⟩
    have H2 := Lib.hid h2'
    clear c8 c9 c10
    obtain ⟨c8, c9, c10⟩ := HI.out _ _ h2'
    clear h2' H1
    go_wp2_with fail
    refine (noneX H2.out (k := ms) hms (by rw [half_len, half_len]; have := HLs.out; omega)).mono ?_
    rintro e w3 ⟨rfl, h3'⟩
    have H3 := Lib.hid h3'
    clear c8 c9 c10
    obtain ⟨c8, c9, c10⟩ := HI.out _ _ h3'
    clear h3' H2
    go_wp2_with fail
    refine (halfX H3.out (k := st) hst (by rw [none_len, half_len, half_len]; have := HLs.out; omega)).mono ?_
    rintro e w4 ⟨rfl, h4'⟩
    rw [HS0.out] at h4'
    have H4 : Hid (Sx B kb im o en w0 (eachS (planS q) (xs.take 0) s0) w4) := Lib.hid h4'
    clear c8 c9 c10
    obtain ⟨c8, c9, c10⟩ := HI.out _ _ h4'
    clear h4' H3 HI HFst HQ0 HS0
    go_wp2_with fail
    go_loopw [54] (fun iv wr => ∃ i : Nat, i ≤ n ∧ iv = .int .i64 (i : Int) ∧ Hid (Sx B kb im o en w0 (eachS (planS q) (xs.take i) s0) wr)) (fun iv _ => n - (intOf iv).toNat)
    case atStart => exact ⟨0, Nat.zero_le _, rfl, H4⟩
    case round =>
      clear H4
      obtain ⟨i, hi, rfl, HI⟩ := hrel
      by_cases hin : i < n
      · have ji : (i : Int) < (n : Int) := by omega
        have hix : i < xs.length := by rw [HN.out]; exact hin
        have hw1 : IntKind.i64.wrap ((i : Int) + 1) = ((i + 1 : Nat) : Int) := by rw [IntKind.wrap_i64]; omega
        obtain ⟨b, of, u, rfl, c0z, c1z, hLn⟩ := HRz.out i hix
        have c0 := cell_low (HBz.out wr HI.out.fr) c0z
        have c1 := cell_low (HBz.out wr HI.out.fr) c1z
        clear c0z c1z
        obtain ⟨hmj, hlo⟩ := HOk.out xs[i] (List.getElem_mem _)
        have HE : Hid (∀ W, Sx B kb im o en w0 (planS q xs[i] (eachS (planS q) (xs.take i) s0)) W → Sx B kb im o en w0 (eachS (planS q) (xs.take (i + 1)) s0) W) := fun W hW => by rw [eachS_take _ _ _ _ hix]; exact hW
        have HLi : Hid ((eachS (planS q) (xs.take i) s0).1.length + 8 + lsum xs[i].lanes ≤ 274877906944) := show _ ≤ _ by
          rw [plans_len]
          have := psum_take xs i hix
          have := HL.out
          omega
        generalize eachS (planS q) (xs.take i) s0 = si at HI HE HLi
        generalize xs[i] = x at *
        obtain ⟨mj, lns⟩ := x
        simp only at hmj hlo HLi c0 hLn
        have HLo : Hid (∀ l ∈ lns, lnOk l) := hlo
        obtain ⟨la, lc, rfl, k1, k2, k3⟩ := hLn
        unfold maxLen at k2
        have HK3 : Hid (∀ j (h : j < lns.length), ∃ b o u, la = some ⟨b, o, none⟩ ∧ wz.cell? ⟨b, o + j, none⟩ = some u ∧ RowG 2 stE wz u lns[j]) := k3
        obtain ⟨ll, hll⟩ : ∃ ll, lns.length = ll := ⟨_, rfl⟩
        have HLL := Lib.hid hll
        rw [hll] at k1 c1
        have hd : ((ll : Int) == (q : Int)) = decide (lns.length = q) := by
          rw [hll]
          by_cases h : ll = q
          · rw [decide_eq_true h, h]; simp
          · rw [decide_eq_false h]; simp; omega
        obtain ⟨bb, hbb⟩ : ∃ bb, decide (lns.length = q) = bb := ⟨_, rfl⟩
        rw [hbb] at hd
        have HEp : Hid (planS q ⟨mj, lns⟩ si = eachS laneS lns (zerosS 4 (wordS mj (fieldS bb si)))) := show _ = _ by rw [planS]; simp only [hbb]
        clear hbb hll hlo k3
        have HF0 : Hid (Fx B w0 (wr.alloc (.cells #[.int .i64 mj, .slice la ll lc] 57))) := HI.out.fr.trans (Fx.of_below ((Below.refl _ _).alloc (Nat.le_refl _) _))
        have HS0 : Hid (Sx B kb im o en (wr.alloc (.cells #[.int .i64 mj, .slice la ll lc] 57)) si (wr.alloc (.cells #[.int .i64 mj, .slice la ll lc] 57))) := (St.below HI.out ((Below.refl _ _).alloc (Nat.le_refl _) _)).here
        have HBx : Hid (∀ W, Fx B (wr.alloc (.cells #[.int .i64 mj, .slice la ll lc] 57)) W → W.cell? ⟨wr.heap.size, 0, none⟩ = some (.int .i64 mj) ∧ W.cell? ⟨wr.heap.size, 1, none⟩ = some (.slice la ll lc)) := fun W hW => by
          have hb := (hW.block' ⟨_, heap_alloc_new wr _⟩ (by simp) (by decide) (by decide) (by decide)).trans (heap_alloc_new wr _)
          refine ⟨?_, ?_⟩ <;> (rw [cell_of_row _ _ _ _ _ _ hb]; rfl)
        go_wp2_with fail
        refine (fieldX HS0.out bb).mono ?_
        rintro e w1 ⟨rfl, g1⟩
        obtain ⟨d0, d1⟩ := HBx.out _ g1.fr
        have G1 := Lib.hid g1
        clear g1 HS0
        go_wp2_with fail
        refine (wordX G1.out (k := mj) hmj (by rw [field_len]; have := HLi.out; omega)).mono ?_
        rintro e w2 ⟨rfl, g2⟩
        clear d0 d1
        obtain ⟨d0, d1⟩ := HBx.out _ g2.fr
        have G2 := Lib.hid g2
        clear g2 G1
        go_wp2_with fail
        refine (zerosX G2.out (c := 4) (by rw [word_len, field_len]; have := HLi.out; omega)).mono ?_
        rintro e w3 ⟨rfl, g3⟩
        clear d0 d1
        obtain ⟨d0, d1⟩ := HBx.out _ g3.fr
        have HL3 : Hid ((zerosS 4 (wordS mj (fieldS bb si))).1.length + lsum lns ≤ 274877906944) := show _ ≤ _ by rw [zeros_len, word_len, field_len]; have := HLi.out; omega
        obtain ⟨s3, hs3⟩ : ∃ s3, zerosS 4 (wordS mj (fieldS bb si)) = s3 := ⟨_, rfl⟩
        rw [hs3] at g3 HEp HL3
        have G3 : Hid (Sx B kb im o en (wr.alloc (.cells #[.int .i64 mj, .slice la ll lc] 57)) (eachS laneS (lns.take 0) s3) w3) := Lib.hid g3
        clear g3 G2 hs3 HBx HI
        generalize (wr.alloc (.cells #[.int .i64 mj, .slice la ll lc] 57)) = W0 at G3 HF0
        go_wp2_with fail
        go_loopw [74] (fun jv wq => ∃ j : Nat, j ≤ ll ∧ jv = .int .i64 (j : Int) ∧ Hid (Sx B kb im o en W0 (eachS laneS (lns.take j) s3) wq)) (fun jv _ => ll - (intOf jv).toNat)
        case atStart => exact ⟨0, Nat.zero_le _, rfl, G3⟩
        case round =>
          clear G3 d0 d1
          obtain ⟨j, hj, rfl, HJ⟩ := hrel
          by_cases hjn : j < ll
          · have jj : (j : Int) < (ll : Int) := by omega
            have hjx : j < lns.length := by rw [HLL.out]; exact hjn
            have hw2 : IntKind.i64.wrap ((j : Int) + 1) = ((j + 1 : Nat) : Int) := by rw [IntKind.wrap_i64]; omega
            obtain ⟨b2, o2, u2, rfl, e0z, hrz⟩ := HK3.out j hjx
            have e0 := cell_low (HBz.out _ (HF0.out.trans HJ.out.fr)) e0z
            have HRw : Hid (∀ W, Fx B W0 W → RowG 2 stE W u2 lns[j]) := fun W hW => hrz.below (HBz.out _ (HF0.out.trans hW))
            obtain ⟨va, vc, rfl, _⟩ := hrz
            have HEj : Hid (∀ W, Sx B kb im o en W0 (laneS lns[j] (eachS laneS (lns.take j) s3)) W → Sx B kb im o en W0 (eachS laneS (lns.take (j + 1)) s3) W) := fun W hW => by rw [eachS_take _ _ _ _ hjx]; exact hW
            have HLj : Hid ((eachS laneS (lns.take j) s3).1.length + 8 + 8 * lns[j].length ≤ 274877906944) := show _ ≤ _ by
              rw [lanes_len]
              have := lsum_take lns j hjx
              have := HL3.out
              omega
            have hok2 := HLo.out lns[j] (List.getElem_mem _)
            clear e0z
            generalize eachS laneS (lns.take j) s3 = sj at HJ HEj HLj
            generalize lns[j] = l2 at *
            go_wp2_with fail
            refine (laneX HJ.out HRw.out hok2 HLj.out).mono ?_
            rintro e w5 ⟨rfl, g5⟩
            have G5 := Lib.hid (HEj.out _ g5)
            clear g5 HJ
            go_wp2_with fail
            go_roundw
            case rel => exact ⟨j + 1, by omega, rfl, G5⟩
            case measure => simp [intOf]; omega
          · obtain rfl : j = ll := by omega
            have jj : ¬ (j : Int) < (j : Int) := by omega
            have HT : Hid (eachS laneS (lns.take j) s3 = eachS laneS lns s3) := show _ = _ by rw [List.take_of_length_le (by rw [HLL.out]; exact Nat.le_refl _)]
            rw [HT.out, ← HEp.out] at HJ
            go_wp2_with fail
            go_roundw
            case rel => exact ⟨i + 1, by omega, rfl, HE.out _ (HJ.out.since HF0.out)⟩
            case measure => simp [intOf]; omega
      · obtain rfl : i = n := by omega
        have ji : ¬ (i : Int) < (i : Int) := by omega
        have HE : Hid (eachS (planS q) (xs.take i) s0 = eachS (planS q) xs s0) := show _ = _ by rw [List.take_of_length_le (by rw [HN.out]; exact Nat.le_refl _)]
        rw [HE.out] at HI
        go_wp2_with fail
        go_end0
        exact ⟨rfl, HI.out⟩
end
end Go.Proofs.YtinjhgimhboigaaDoor
