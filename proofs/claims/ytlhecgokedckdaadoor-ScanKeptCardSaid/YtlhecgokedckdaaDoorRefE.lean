/- The document's own answer to chapter 5: Integer (made by gen_refe.py). -/
import Derived.Test.YtlhecgokedckdaaDoorRefB
import Derived.Test.YtlhecgokedckdaaDoorRefE0
namespace Go.Proofs.YtlhecgokedckdaaDoor
open Go.RowKit Sc
/-- what the document's Integer answers -/
def rintV : Res Nat → Value
  | .ok n _ => .tuple #[.int .u64 (n : Int), .int .i64 (-1)]
  | .bad k => .tuple #[.int .u64 0, .int .i64 (k : Int)]
/-- the digits that have been read -/
def DigI (s : ByteArray) (o base n i : Nat) : Prop := ∃ j, i = o + j ∧ n ≤ top ∧ digitsF base 0 ((sb s).drop o) = (digitsF base n ((sb s).drop i)).shift j
/-- what stands behind the digits -/
def SufI (s : ByteArray) (n i : Nat) : Prop := n ≤ top ∧ rintF (sb s) = (rsufF n ((sb s).drop i)).shift i
theorem shift_shift {α : Type} (a b : Nat) (r : Res α) : (r.shift a).shift b = r.shift (b + a) := by cases r <;> simp [Res.shift] <;> omega
theorem DigI.next {s : ByteArray} {o base n i : Nat} (h : DigI s o base n i) (hi : i < s.size) (hv : value s[i].toNat < base) (hov : over n base (value s[i].toNat) = false) (hb : base ≤ 16) : DigI s o base (n * base + value s[i].toNat) (i + 1) := by
  obtain ⟨j, h1, h2, h3⟩ := h
  refine ⟨j + 1, by omega, ?_, ?_⟩
  · unfold over at hov
    rw [decide_eq_false_iff_not] at hov
    generalize value s[i].toNat = v at *
    have hvt : v ≤ top := by unfold top; omega
    have h4 : n ≤ (top - v) / base := by omega
    have h5 : n * base ≤ top - v := (Nat.le_div_iff_mul_le (by omega)).1 h4
    omega
  · rw [h3, sb_cons s i hi, digitsF, if_neg (by omega), hov]
    simp only [Bool.false_eq_true, if_false]
    rw [shift_shift]
theorem DigI.over {s : ByteArray} {o base n i : Nat} (h : DigI s o base n i) (hi : i < s.size) (hv : value s[i].toNat < base) (hov : over n base (value s[i].toNat) = true) : ∃ j, i = o + j ∧ digitsF base 0 ((sb s).drop o) = .bad j := by
  obtain ⟨j, h1, h2, h3⟩ := h
  refine ⟨j, h1, ?_⟩
  rw [h3, sb_cons s i hi, digitsF, if_neg (by omega), hov]
  rfl
theorem DigI.stop {s : ByteArray} {o base n i : Nat} (h : DigI s o base n i) (hv : base ≤ value (((sb s).drop i).headD 0)) : ∃ j, i = o + j ∧ digitsF base 0 ((sb s).drop o) = .ok n j := by
  obtain ⟨j, h1, h2, h3⟩ := h
  refine ⟨j, h1, ?_⟩
  rw [h3]
  cases e : (sb s).drop i with
  | nil => rfl
  | cons b t =>
    rw [e] at hv
    have hv' : base ≤ value b := hv
    rw [digitsF, if_pos hv']
    rfl
theorem int_head {s : ByteArray} {i : Nat} (h : i < s.size) : ((sb s).drop i).headD 0 = s[i].toNat := by rw [sb_cons s i h]; rfl
theorem int_none {s : ByteArray} {i : Nat} (h : ¬ i < s.size) : ((sb s).drop i).headD 0 = 0 := by rw [sb_over s i h]; rfl
theorem DigI.overV {s : ByteArray} {o base n i : Nat} (h : DigI s o base n i) (hx : rintF (sb s) = (rtailF base ((sb s).drop o)).shift o) (hi : i < s.size) (hv : value s[i].toNat < base) (hov : Sc.over n base (value s[i].toNat) = true) : rintV (rintF (sb s)) = .tuple #[.int .u64 0, .int .i64 (i : Int)] := by
  obtain ⟨j, h1, h2⟩ := h.over hi hv hov
  rw [hx, rtailF, h2, h1]
  rfl
theorem DigI.noneV {s : ByteArray} {o base n : Nat} (h : DigI s o base n o) (hx : rintF (sb s) = (rtailF base ((sb s).drop o)).shift o) (hv : base ≤ value (((sb s).drop o).headD 0)) : rintV (rintF (sb s)) = .tuple #[.int .u64 0, .int .i64 (o : Int)] := by
  obtain ⟨j, h1, h2⟩ := h.stop hv
  obtain rfl : j = 0 := by omega
  rw [hx, rtailF, h2]
  rfl
theorem DigI.suf {s : ByteArray} {o base n i : Nat} (h : DigI s o base n i) (hx : rintF (sb s) = (rtailF base ((sb s).drop o)).shift o) (hv : base ≤ value (((sb s).drop i).headD 0)) (hne : i ≠ o) : SufI s n i := by
  obtain ⟨j, h1, h2⟩ := h.stop hv
  refine ⟨by obtain ⟨_, _, hn, _⟩ := h; exact hn, ?_⟩
  rw [hx, rtailF, h2]
  simp only
  rw [if_neg (by omega), shift_shift, List.drop_drop, ← h1]
theorem SufI.endV {s : ByteArray} {n i : Nat} (h : SufI s n i) (hi : ¬ i < s.size) : rintV (rintF (sb s)) = .tuple #[.int .u64 (n : Int), .int .i64 (-1)] := by
  rw [h.2, sb_over s i hi]
  rfl
theorem SufI.badV {s : ByteArray} {n i : Nat} (h : SufI s n i) (hi : i < s.size) (hu : unit s[i].toNat = 1) : rintV (rintF (sb s)) = .tuple #[.int .u64 0, .int .i64 (i : Int)] := by
  rw [h.2, sb_cons s i hi, rsufF, if_pos hu]
  rfl
theorem SufI.overV {s : ByteArray} {n i : Nat} (h : SufI s n i) (hi : i < s.size) (hu : unit s[i].toNat ≠ 1) (ho : Sc.over n (unit s[i].toNat) 0 = true) : rintV (rintF (sb s)) = .tuple #[.int .u64 0, .int .i64 (i : Int)] := by
  rw [h.2, sb_cons s i hi, rsufF, if_neg hu, if_pos ho]
  rfl
theorem SufI.moreV {s : ByteArray} {n i : Nat} (h : SufI s n i) (hi : i < s.size) (hu : unit s[i].toNat ≠ 1) (ho : Sc.over n (unit s[i].toNat) 0 = false) (h2 : i + 1 < s.size) : rintV (rintF (sb s)) = .tuple #[.int .u64 0, .int .i64 ((i + 1 : Nat) : Int)] := by
  rw [h.2, sb_cons s i hi, rsufF, if_neg hu, ho, sb_cons s (i + 1) h2]
  rfl
theorem SufI.okV {s : ByteArray} {n i : Nat} (h : SufI s n i) (hi : i < s.size) (hu : unit s[i].toNat ≠ 1) (ho : Sc.over n (unit s[i].toNat) 0 = false) (h2 : ¬ i + 1 < s.size) : rintV (rintF (sb s)) = .tuple #[.int .u64 ((n * unit s[i].toNat : Nat) : Int), .int .i64 (-1)] := by
  rw [h.2, sb_cons s i hi, rsufF, if_neg hu, ho, sb_over s (i + 1) h2]
  rfl
theorem hexV_neg' {b : Nat} (h : 15 < value b) : hexV b = -1 := by unfold hexV; rw [if_neg (by omega)]
theorem hexV_pos' {b : Nat} (h : ¬ 15 < value b) : hexV b = (value b : Int) := by unfold hexV; rw [if_pos (by omega)]
theorem value_dig {b : Nat} (hb : b < 256) (h : value b ≤ 9) : 48 ≤ b ∧ b - 48 = value b := by
  have : ∀ t : Fin 256, value t.val ≤ 9 → 48 ≤ t.val ∧ t.val - 48 = value t.val := by decide +kernel
  exact this ⟨b, hb⟩ h
theorem isD_no {b : Nat} (hb : b < 256) (h : 9 < value b) : isD b = false := by
  have : ∀ t : Fin 256, 9 < value t.val → isD t.val = false := by decide +kernel
  exact this ⟨b, hb⟩ h
theorem isD_yes {b : Nat} (hb : b < 256) (h : ¬ 9 < value b) : isD b = true := by
  have : ∀ t : Fin 256, ¬ 9 < value t.val → isD t.val = true := by decide +kernel
  exact this ⟨b, hb⟩ h
theorem hex_bytes (s : ByteArray) (h : 1 < s.size) : isHex (sb s) = (decide (s[0].toNat = 48) && decide (s[1].toNat = 120)) := by
  unfold isHex
  have e : (sb s).take 2 = [s[0].toNat, s[1].toNat] := by
    have := sb_cons s 0 (by omega)
    rw [List.drop_zero] at this
    rw [this, List.take_succ_cons, sb_cons s 1 h]
    rfl
  rw [e, Bool.eq_iff_iff]
  simp
theorem hex_short (s : ByteArray) (h : ¬ 1 < s.size) : isHex (sb s) = false := by
  unfold isHex
  refine decide_eq_false fun e => ?_
  have := congrArg List.length e
  rw [List.length_take, sb_length] at this
  simp at this
  omega
set_option maxRecDepth 100000 in
set_option maxHeartbeats 4000000 in
theorem rInteger_any {w : World} (s : ByteArray) (hs : s.size ≤ 1048576) :
    Calls Tryd.prog 38 #[.string s] w fun e w' => e = .returned (rintV (rintF (sb s))) ∧ Below w.heap.size w w' := by
  by_cases h1 : 1 < s.size
  · have hh := hex_bytes s h1
    have j1 : (1 : Int) < (s.size : Int) := by omega
    have j0 : (0 : Int) < (s.size : Int) := by omega
    by_cases h48 : s[0].toNat = 48
    · have j48 : ((s[0].toNat : Int) == 48) = true := by rw [h48]; rfl
      by_cases h120 : s[1].toNat = 120
      · have j120 : ((s[1].toNat : Int) == 120) = true := by rw [h120]; rfl
        have HX : Hid (rintF (sb s) = (rtailF 16 ((sb s).drop 2)).shift 2) := by
          show _ = _
          unfold rintF
          rw [hh, decide_eq_true h48, decide_eq_true h120]
          rfl
        clear hh h48 h120
        go_enter Tryd.func38, Tryd.ntmps38
        go_wp2_with fail
        go_loopw [4, 5] (fun nv iv wr => ∃ (n i : Nat) (ni : Int), nv = .int .u64 ni ∧ Hid (ni = (n : Int)) ∧ iv = .int .i64 (i : Int) ∧ 2 ≤ i ∧ i ≤ s.size ∧ DigI s 2 16 n i ∧ Hid (Below w.heap.size w wr)) (fun _ iv _ => s.size - (intOf iv).toNat)
        case atStart => exact ⟨0, 2, 0, rfl, (rfl : (0 : Int) = ((0 : Nat) : Int)), rfl, by omega, by omega, ⟨0, rfl, Nat.zero_le _, by cases digitsF 16 0 ((sb s).drop 2) <;> simp [Res.shift]⟩, Below.refl _ _⟩
        case round =>
          obtain ⟨n, i, ni, rfl, HNI, rfl, h2i, hi, HD, HBl⟩ := hrel
          have hnt : n ≤ 18446744073709551615 := by obtain ⟨_, _, hn, _⟩ := HD; exact hn
          have HNT : Hid (n ≤ 18446744073709551615) := hnt
          clear hnt
          by_cases hlt : i < s.size
          · have hz : s[i].toNat < 256 := s[i].toNat_lt
            have i1 : (i : Int) < (s.size : Int) := by omega
            have hhd := int_head hlt
            have HH : Hid (∀ W, Calls Tryd.prog 51 #[.int .u8 (s[i].toNat : Int)] W fun e w' => e = .returned (.int .i64 (hexV s[i].toNat)) ∧ W = w') := fun W => hex_any hz W
            by_cases hv : 15 < value s[i].toNat
            · rw [hexV_neg' hv] at HH
              have hst : 16 ≤ value (((sb s).drop i).headD 0) := by rw [hhd]; omega
              by_cases hne : i = 2
              · subst hne
                have HV : Hid (rintV (rintF (sb s)) = .tuple #[.int .u64 0, .int .i64 ((2 : Nat) : Int)]) := HD.noneV HX.out hst
                clear HD hst hv hhd
                go_wp2_with fail
                refine (HH.out _).mono ?_
                rintro e w2 ⟨rfl, rfl⟩
                clear HH
                go_wp2_with fail
                go_ret2
                rw [HV.out]
                exact ⟨rfl, HBl.out⟩
              · have HS := HD.suf HX.out hst hne
                have i0 : ¬ (i : Int) = 2 := by omega
                clear HD hst hv hhd
                go_wp2_with fail
                refine (HH.out _).mono ?_
                rintro e w2 ⟨rfl, rfl⟩
                clear HH
                by_cases e : s[i].toNat = 75
                · have k75 : ((s[i].toNat : Int) == 75) = true := by rw [e]; rfl
                  have k77 : ((s[i].toNat : Int) == 77) = false := by rw [e]; rfl
                  have hu : unit s[i].toNat = 1024 := by rw [e]; rfl
                  have hu1 : unit s[i].toNat ≠ 1 := by rw [hu]; decide
                  by_cases ho : 18014398509481983 < n
                  · have hov : over n (unit s[i].toNat) 0 = true := by
                      rw [hu]
                      exact decide_eq_true (by unfold top; omega)
                    have HV : Hid (rintV (rintF (sb s)) = .tuple #[.int .u64 0, .int .i64 (i : Int)]) := HS.overV hlt hu1 hov
                    have g1 : (18014398509481983 : Int) < ni := by rw [HNI.out]; omega
                    clear HS hov hu hu1 e ho
                    go_wp2_with fail
                    go_ret2
                    rw [HV.out]
                    exact ⟨rfl, HBl.out⟩
                  · have hov : over n (unit s[i].toNat) 0 = false := by
                      rw [hu]
                      exact decide_eq_false (by unfold top; omega)
                    have g1 : ¬ (18014398509481983 : Int) < ni := by rw [HNI.out]; omega
                    have g0 : 0 ≤ ni := by rw [HNI.out]; omega
                    by_cases hl2 : i + 1 < s.size
                    · have HV : Hid (rintV (rintF (sb s)) = .tuple #[.int .u64 0, .int .i64 ((i + 1 : Nat) : Int)]) := HS.moreV hlt hu1 hov hl2
                      have g2 : (i : Int) + 1 < (s.size : Int) := by omega
                      clear HS hov hu hu1 e ho
                      go_wp2_with fail
                      go_ret2
                      rw [HV.out]
                      exact ⟨rfl, HBl.out⟩
                    · have HV : Hid (rintV (rintF (sb s)) = .tuple #[.int .u64 ((n * unit s[i].toNat : Nat) : Int), .int .i64 (-1)]) := HS.okV hlt hu1 hov hl2
                      rw [hu] at HV
                      have g2 : ¬ (i : Int) + 1 < (s.size : Int) := by omega
                      have HM : Hid (((n * 1024 : Nat) : Int) = ni * 1024) := by
                        show _ = _
                        rw [HNI.out]
                        omega
                      clear HS hov hu hu1 e ho
                      go_wp2_with fail
                      go_ret2
                      rw [HV.out, HM.out]
                      exact ⟨rfl, HBl.out⟩
                · have k75 : ((s[i].toNat : Int) == 75) = false := beq_eq_false_iff_ne.2 (by omega)
                  by_cases e7 : s[i].toNat = 77
                  · have k77 : ((s[i].toNat : Int) == 77) = true := by rw [e7]; rfl
                    have hu : unit s[i].toNat = 1048576 := by rw [e7]; rfl
                    have hu1 : unit s[i].toNat ≠ 1 := by rw [hu]; decide
                    by_cases ho : 17592186044415 < n
                    · have hov : over n (unit s[i].toNat) 0 = true := by
                        rw [hu]
                        exact decide_eq_true (by unfold top; omega)
                      have HV : Hid (rintV (rintF (sb s)) = .tuple #[.int .u64 0, .int .i64 (i : Int)]) := HS.overV hlt hu1 hov
                      have g1 : (17592186044415 : Int) < ni := by rw [HNI.out]; omega
                      clear HS hov hu hu1 e7 ho
                      go_wp2_with fail
                      go_ret2
                      rw [HV.out]
                      exact ⟨rfl, HBl.out⟩
                    · have hov : over n (unit s[i].toNat) 0 = false := by
                        rw [hu]
                        exact decide_eq_false (by unfold top; omega)
                      have g1 : ¬ (17592186044415 : Int) < ni := by rw [HNI.out]; omega
                      have g0 : 0 ≤ ni := by rw [HNI.out]; omega
                      by_cases hl2 : i + 1 < s.size
                      · have HV : Hid (rintV (rintF (sb s)) = .tuple #[.int .u64 0, .int .i64 ((i + 1 : Nat) : Int)]) := HS.moreV hlt hu1 hov hl2
                        have g2 : (i : Int) + 1 < (s.size : Int) := by omega
                        clear HS hov hu hu1 e7 ho
                        go_wp2_with fail
                        go_ret2
                        rw [HV.out]
                        exact ⟨rfl, HBl.out⟩
                      · have HV : Hid (rintV (rintF (sb s)) = .tuple #[.int .u64 ((n * unit s[i].toNat : Nat) : Int), .int .i64 (-1)]) := HS.okV hlt hu1 hov hl2
                        rw [hu] at HV
                        have g2 : ¬ (i : Int) + 1 < (s.size : Int) := by omega
                        have HM : Hid (((n * 1048576 : Nat) : Int) = ni * 1048576) := by
                          show _ = _
                          rw [HNI.out]
                          omega
                        clear HS hov hu hu1 e7 ho
                        go_wp2_with fail
                        go_ret2
                        rw [HV.out, HM.out]
                        exact ⟨rfl, HBl.out⟩
                  · have k77 : ((s[i].toNat : Int) == 77) = false := beq_eq_false_iff_ne.2 (by omega)
                    have hu : unit s[i].toNat = 1 := by unfold unit; rw [if_neg e7, if_neg e]
                    have HV : Hid (rintV (rintF (sb s)) = .tuple #[.int .u64 0, .int .i64 (i : Int)]) := HS.badV hlt hu
                    clear HS hu e e7
                    go_wp2_with fail
                    go_ret2
                    rw [HV.out]
                    exact ⟨rfl, HBl.out⟩
            · rw [hexV_pos' hv] at HH
              have HDn := HD.next hlt (by omega) (n := n)
              have HDo := HD.overV HX.out hlt (by omega)
              have hvl : value s[i].toNat < 16 := by omega
              clear hv hhd HD
              generalize value s[i].toNat = v at *
              by_cases ho : 1152921504606846975 < n
              · have HV : Hid (rintV (rintF (sb s)) = .tuple #[.int .u64 0, .int .i64 (i : Int)]) := HDo (decide_eq_true (by unfold top; omega))
                have g1 : (1152921504606846975 : Int) < ni := by rw [HNI.out]; omega
                clear HDn HDo ho
                go_wp2_with fail
                refine (HH.out _).mono ?_
                rintro e w2 ⟨rfl, rfl⟩
                go_wp2_with fail
                go_ret2
                rw [HV.out]
                exact ⟨rfl, HBl.out⟩
              · have HN := HDn (decide_eq_false (by unfold top; omega)) (by omega)
                have g1 : ¬ (1152921504606846975 : Int) < ni := by rw [HNI.out]; omega
                have g0 : 0 ≤ ni := by rw [HNI.out]; omega
                have HM : Hid (16 * ni + (v : Int) = ((n * 16 + v : Nat) : Int)) := by
                  show _ = _
                  rw [HNI.out]
                  omega
                clear HDn HDo ho
                go_wp2_with fail
                refine (HH.out _).mono ?_
                rintro e w2 ⟨rfl, rfl⟩
                go_wp2_with fail
                refine (HH.out _).mono ?_
                rintro e w2 ⟨rfl, rfl⟩
                clear HH
                go_wp2_with fail
                exact ⟨⟨n * 16 + v, i + 1, _, rfl, HM, by go_num, by omega, by omega, HN, HBl⟩, by simp [intOf]; omega⟩
          · have i1 : ¬ (i : Int) < (s.size : Int) := by omega
            have hst : 16 ≤ value (((sb s).drop i).headD 0) := by rw [int_none hlt]; decide
            by_cases hne : i = 2
            · subst hne
              have HV : Hid (rintV (rintF (sb s)) = .tuple #[.int .u64 0, .int .i64 ((2 : Nat) : Int)]) := HD.noneV HX.out hst
              clear HD hst
              go_wp2_with fail
              go_ret2
              rw [HV.out]
              exact ⟨rfl, HBl.out⟩
            · have HS := HD.suf HX.out hst hne
              have i0 : ¬ (i : Int) = 2 := by omega
              clear HD hst
              have HV : Hid (rintV (rintF (sb s)) = .tuple #[.int .u64 (n : Int), .int .i64 (-1)]) := HS.endV hlt
              clear HS
              go_wp2_with fail
              go_ret2
              rw [HV.out, ← HNI.out]
              exact ⟨rfl, HBl.out⟩
      · have j120 : ((s[1].toNat : Int) == 120) = false := beq_eq_false_iff_ne.2 (by omega)
        have HX : Hid (rintF (sb s) = (rtailF 10 ((sb s).drop 0)).shift 0) := by
          show _ = _
          unfold rintF
          rw [hh, decide_eq_true h48, decide_eq_false h120, List.drop_zero]
          cases rtailF 10 (sb s) <;> simp [Res.shift]
        clear h48 h120
        clear hh
        go_enter Tryd.func38, Tryd.ntmps38
        go_wp2_with fail
        go_loopw [4, 5, 6] (fun nv iv _ wr => ∃ (n i : Nat) (ni : Int), nv = .int .u64 ni ∧ Hid (ni = (n : Int)) ∧ iv = .int .i64 (i : Int) ∧ 0 ≤ i ∧ i ≤ s.size ∧ DigI s 0 10 n i ∧ Hid (Below w.heap.size w wr)) (fun _ iv _ _ => s.size - (intOf iv).toNat)
        case atStart => exact ⟨0, 0, 0, rfl, (rfl : (0 : Int) = ((0 : Nat) : Int)), rfl, by omega, by omega, ⟨0, rfl, Nat.zero_le _, by cases digitsF 10 0 ((sb s).drop 0) <;> simp [Res.shift]⟩, Below.refl _ _⟩
        case round =>
          obtain ⟨n, i, ni, rfl, HNI, rfl, h2i, hi, HD, HBl⟩ := hrel
          have hnt : n ≤ 18446744073709551615 := by obtain ⟨_, _, hn, _⟩ := HD; exact hn
          have HNT : Hid (n ≤ 18446744073709551615) := hnt
          clear hnt
          by_cases hlt : i < s.size
          · have hz : s[i].toNat < 256 := s[i].toNat_lt
            have i1 : (i : Int) < (s.size : Int) := by omega
            have hhd := int_head hlt
            have HH : Hid (∀ W, Calls Tryd.prog 36 #[.int .u8 (s[i].toNat : Int)] W fun e w' => e = .returned (.bool (isD s[i].toNat)) ∧ W = w') := fun W => digit_any hz W
            by_cases hv : 9 < value s[i].toNat
            · rw [isD_no hz hv] at HH
              have hst : 10 ≤ value (((sb s).drop i).headD 0) := by rw [hhd]; omega
              by_cases hne : i = 0
              · subst hne
                have HV : Hid (rintV (rintF (sb s)) = .tuple #[.int .u64 0, .int .i64 ((0 : Nat) : Int)]) := HD.noneV HX.out hst
                clear HD hst hv hhd
                go_wp2_with fail
                refine (HH.out _).mono ?_
                rintro e w2 ⟨rfl, rfl⟩
                clear HH
                go_wp2_with fail
                go_ret2
                rw [HV.out]
                exact ⟨rfl, HBl.out⟩
              · have HS := HD.suf HX.out hst hne
                have i0 : ¬ (i : Int) = 0 := by omega
                clear HD hst hv hhd
                go_wp2_with fail
                refine (HH.out _).mono ?_
                rintro e w2 ⟨rfl, rfl⟩
                clear HH
                by_cases e : s[i].toNat = 75
                · have k75 : ((s[i].toNat : Int) == 75) = true := by rw [e]; rfl
                  have k77 : ((s[i].toNat : Int) == 77) = false := by rw [e]; rfl
                  have hu : unit s[i].toNat = 1024 := by rw [e]; rfl
                  have hu1 : unit s[i].toNat ≠ 1 := by rw [hu]; decide
                  by_cases ho : 18014398509481983 < n
                  · have hov : over n (unit s[i].toNat) 0 = true := by
                      rw [hu]
                      exact decide_eq_true (by unfold top; omega)
                    have HV : Hid (rintV (rintF (sb s)) = .tuple #[.int .u64 0, .int .i64 (i : Int)]) := HS.overV hlt hu1 hov
                    have g1 : (18014398509481983 : Int) < ni := by rw [HNI.out]; omega
                    clear HS hov hu hu1 e ho
                    go_wp2_with fail
                    go_ret2
                    rw [HV.out]
                    exact ⟨rfl, HBl.out⟩
                  · have hov : over n (unit s[i].toNat) 0 = false := by
                      rw [hu]
                      exact decide_eq_false (by unfold top; omega)
                    have g1 : ¬ (18014398509481983 : Int) < ni := by rw [HNI.out]; omega
                    have g0 : 0 ≤ ni := by rw [HNI.out]; omega
                    by_cases hl2 : i + 1 < s.size
                    · have HV : Hid (rintV (rintF (sb s)) = .tuple #[.int .u64 0, .int .i64 ((i + 1 : Nat) : Int)]) := HS.moreV hlt hu1 hov hl2
                      have g2 : (i : Int) + 1 < (s.size : Int) := by omega
                      clear HS hov hu hu1 e ho
                      go_wp2_with fail
                      go_ret2
                      rw [HV.out]
                      exact ⟨rfl, HBl.out⟩
                    · have HV : Hid (rintV (rintF (sb s)) = .tuple #[.int .u64 ((n * unit s[i].toNat : Nat) : Int), .int .i64 (-1)]) := HS.okV hlt hu1 hov hl2
                      rw [hu] at HV
                      have g2 : ¬ (i : Int) + 1 < (s.size : Int) := by omega
                      have HM : Hid (((n * 1024 : Nat) : Int) = ni * 1024) := by
                        show _ = _
                        rw [HNI.out]
                        omega
                      clear HS hov hu hu1 e ho
                      go_wp2_with fail
                      go_ret2
                      rw [HV.out, HM.out]
                      exact ⟨rfl, HBl.out⟩
                · have k75 : ((s[i].toNat : Int) == 75) = false := beq_eq_false_iff_ne.2 (by omega)
                  by_cases e7 : s[i].toNat = 77
                  · have k77 : ((s[i].toNat : Int) == 77) = true := by rw [e7]; rfl
                    have hu : unit s[i].toNat = 1048576 := by rw [e7]; rfl
                    have hu1 : unit s[i].toNat ≠ 1 := by rw [hu]; decide
                    by_cases ho : 17592186044415 < n
                    · have hov : over n (unit s[i].toNat) 0 = true := by
                        rw [hu]
                        exact decide_eq_true (by unfold top; omega)
                      have HV : Hid (rintV (rintF (sb s)) = .tuple #[.int .u64 0, .int .i64 (i : Int)]) := HS.overV hlt hu1 hov
                      have g1 : (17592186044415 : Int) < ni := by rw [HNI.out]; omega
                      clear HS hov hu hu1 e7 ho
                      go_wp2_with fail
                      go_ret2
                      rw [HV.out]
                      exact ⟨rfl, HBl.out⟩
                    · have hov : over n (unit s[i].toNat) 0 = false := by
                        rw [hu]
                        exact decide_eq_false (by unfold top; omega)
                      have g1 : ¬ (17592186044415 : Int) < ni := by rw [HNI.out]; omega
                      have g0 : 0 ≤ ni := by rw [HNI.out]; omega
                      by_cases hl2 : i + 1 < s.size
                      · have HV : Hid (rintV (rintF (sb s)) = .tuple #[.int .u64 0, .int .i64 ((i + 1 : Nat) : Int)]) := HS.moreV hlt hu1 hov hl2
                        have g2 : (i : Int) + 1 < (s.size : Int) := by omega
                        clear HS hov hu hu1 e7 ho
                        go_wp2_with fail
                        go_ret2
                        rw [HV.out]
                        exact ⟨rfl, HBl.out⟩
                      · have HV : Hid (rintV (rintF (sb s)) = .tuple #[.int .u64 ((n * unit s[i].toNat : Nat) : Int), .int .i64 (-1)]) := HS.okV hlt hu1 hov hl2
                        rw [hu] at HV
                        have g2 : ¬ (i : Int) + 1 < (s.size : Int) := by omega
                        have HM : Hid (((n * 1048576 : Nat) : Int) = ni * 1048576) := by
                          show _ = _
                          rw [HNI.out]
                          omega
                        clear HS hov hu hu1 e7 ho
                        go_wp2_with fail
                        go_ret2
                        rw [HV.out, HM.out]
                        exact ⟨rfl, HBl.out⟩
                  · have k77 : ((s[i].toNat : Int) == 77) = false := beq_eq_false_iff_ne.2 (by omega)
                    have hu : unit s[i].toNat = 1 := by unfold unit; rw [if_neg e7, if_neg e]
                    have HV : Hid (rintV (rintF (sb s)) = .tuple #[.int .u64 0, .int .i64 (i : Int)]) := HS.badV hlt hu
                    clear HS hu e e7
                    go_wp2_with fail
                    go_ret2
                    rw [HV.out]
                    exact ⟨rfl, HBl.out⟩
            · rw [isD_yes hz hv] at HH
              have hdv := value_dig hz (by omega : value s[i].toNat ≤ 9)
              have HDn := HD.next hlt (by omega) (n := n)
              have HDo := HD.overV HX.out hlt (by omega)
              have hvl : value s[i].toNat < 10 := by omega
              clear hv hhd HD
              generalize value s[i].toNat = v at *
              have g3 : 48 ≤ (s[i].toNat : Int) := by omega
              have g4 : (s[i].toNat : Int) - 48 = (v : Int) := by omega
              have g0 : 0 ≤ ni := by rw [HNI.out]; omega
              have g5 : (18446744073709551615 - (v : Int)).tdiv 10 = ((18446744073709551615 - v) / 10 : Nat) := by
                rw [show (18446744073709551615 - (v : Int)) = ((18446744073709551615 - v : Nat) : Int) from by omega]
                rfl
              by_cases ho : (18446744073709551615 - v) / 10 < n
              · have HV : Hid (rintV (rintF (sb s)) = .tuple #[.int .u64 0, .int .i64 (i : Int)]) := HDo (decide_eq_true (by unfold top; exact ho))
                have g1 : (((18446744073709551615 - v) / 10 : Nat) : Int) < ni := by rw [HNI.out]; omega
                clear HDn HDo ho
                go_wp2_with fail
                refine (HH.out _).mono ?_
                rintro e w2 ⟨rfl, rfl⟩
                go_wp2_with fail
                go_ret2
                rw [HV.out]
                exact ⟨rfl, HBl.out⟩
              · have HN := HDn (decide_eq_false (by unfold top; exact ho)) (by omega)
                have g1 : ¬ (((18446744073709551615 - v) / 10 : Nat) : Int) < ni := by rw [HNI.out]; omega
                have g6 : 10 * ni + (v : Int) ≤ 18446744073709551615 := by rw [HNI.out]; omega
                have HM : Hid (10 * ni + (v : Int) = ((n * 10 + v : Nat) : Int)) := by
                  show _ = _
                  rw [HNI.out]
                  omega
                clear HDn HDo ho
                go_wp2_with fail
                refine (HH.out _).mono ?_
                rintro e w2 ⟨rfl, rfl⟩
                clear HH
                go_wp2_with fail
                exact ⟨⟨n * 10 + v, i + 1, _, rfl, HM, by go_num, by omega, by omega, HN, HBl⟩, by simp [intOf]; omega⟩
          · have i1 : ¬ (i : Int) < (s.size : Int) := by omega
            have hst : 10 ≤ value (((sb s).drop i).headD 0) := by rw [int_none hlt]; decide
            by_cases hne : i = 0
            · exact absurd h1 (by omega)
            · have HS := HD.suf HX.out hst hne
              have i0 : ¬ (i : Int) = 0 := by omega
              clear HD hst
              have HV : Hid (rintV (rintF (sb s)) = .tuple #[.int .u64 (n : Int), .int .i64 (-1)]) := HS.endV hlt
              clear HS
              go_wp2_with fail
              go_ret2
              rw [HV.out, ← HNI.out]
              exact ⟨rfl, HBl.out⟩
    · have j48 : ((s[0].toNat : Int) == 48) = false := beq_eq_false_iff_ne.2 (by omega)
      have HX : Hid (rintF (sb s) = (rtailF 10 ((sb s).drop 0)).shift 0) := by
        show _ = _
        unfold rintF
        rw [hh, decide_eq_false h48, List.drop_zero]
        cases rtailF 10 (sb s) <;> simp [Res.shift]
      clear h48
      clear hh
      go_enter Tryd.func38, Tryd.ntmps38
      go_wp2_with fail
      go_loopw [4, 5, 6] (fun nv iv _ wr => ∃ (n i : Nat) (ni : Int), nv = .int .u64 ni ∧ Hid (ni = (n : Int)) ∧ iv = .int .i64 (i : Int) ∧ 0 ≤ i ∧ i ≤ s.size ∧ DigI s 0 10 n i ∧ Hid (Below w.heap.size w wr)) (fun _ iv _ _ => s.size - (intOf iv).toNat)
      case atStart => exact ⟨0, 0, 0, rfl, (rfl : (0 : Int) = ((0 : Nat) : Int)), rfl, by omega, by omega, ⟨0, rfl, Nat.zero_le _, by cases digitsF 10 0 ((sb s).drop 0) <;> simp [Res.shift]⟩, Below.refl _ _⟩
      case round =>
        obtain ⟨n, i, ni, rfl, HNI, rfl, h2i, hi, HD, HBl⟩ := hrel
        have hnt : n ≤ 18446744073709551615 := by obtain ⟨_, _, hn, _⟩ := HD; exact hn
        have HNT : Hid (n ≤ 18446744073709551615) := hnt
        clear hnt
        by_cases hlt : i < s.size
        · have hz : s[i].toNat < 256 := s[i].toNat_lt
          have i1 : (i : Int) < (s.size : Int) := by omega
          have hhd := int_head hlt
          have HH : Hid (∀ W, Calls Tryd.prog 36 #[.int .u8 (s[i].toNat : Int)] W fun e w' => e = .returned (.bool (isD s[i].toNat)) ∧ W = w') := fun W => digit_any hz W
          by_cases hv : 9 < value s[i].toNat
          · rw [isD_no hz hv] at HH
            have hst : 10 ≤ value (((sb s).drop i).headD 0) := by rw [hhd]; omega
            by_cases hne : i = 0
            · subst hne
              have HV : Hid (rintV (rintF (sb s)) = .tuple #[.int .u64 0, .int .i64 ((0 : Nat) : Int)]) := HD.noneV HX.out hst
              clear HD hst hv hhd
              go_wp2_with fail
              refine (HH.out _).mono ?_
              rintro e w2 ⟨rfl, rfl⟩
              clear HH
              go_wp2_with fail
              go_ret2
              rw [HV.out]
              exact ⟨rfl, HBl.out⟩
            · have HS := HD.suf HX.out hst hne
              have i0 : ¬ (i : Int) = 0 := by omega
              clear HD hst hv hhd
              go_wp2_with fail
              refine (HH.out _).mono ?_
              rintro e w2 ⟨rfl, rfl⟩
              clear HH
              by_cases e : s[i].toNat = 75
              · have k75 : ((s[i].toNat : Int) == 75) = true := by rw [e]; rfl
                have k77 : ((s[i].toNat : Int) == 77) = false := by rw [e]; rfl
                have hu : unit s[i].toNat = 1024 := by rw [e]; rfl
                have hu1 : unit s[i].toNat ≠ 1 := by rw [hu]; decide
                by_cases ho : 18014398509481983 < n
                · have hov : over n (unit s[i].toNat) 0 = true := by
                    rw [hu]
                    exact decide_eq_true (by unfold top; omega)
                  have HV : Hid (rintV (rintF (sb s)) = .tuple #[.int .u64 0, .int .i64 (i : Int)]) := HS.overV hlt hu1 hov
                  have g1 : (18014398509481983 : Int) < ni := by rw [HNI.out]; omega
                  clear HS hov hu hu1 e ho
                  go_wp2_with fail
                  go_ret2
                  rw [HV.out]
                  exact ⟨rfl, HBl.out⟩
                · have hov : over n (unit s[i].toNat) 0 = false := by
                    rw [hu]
                    exact decide_eq_false (by unfold top; omega)
                  have g1 : ¬ (18014398509481983 : Int) < ni := by rw [HNI.out]; omega
                  have g0 : 0 ≤ ni := by rw [HNI.out]; omega
                  by_cases hl2 : i + 1 < s.size
                  · have HV : Hid (rintV (rintF (sb s)) = .tuple #[.int .u64 0, .int .i64 ((i + 1 : Nat) : Int)]) := HS.moreV hlt hu1 hov hl2
                    have g2 : (i : Int) + 1 < (s.size : Int) := by omega
                    clear HS hov hu hu1 e ho
                    go_wp2_with fail
                    go_ret2
                    rw [HV.out]
                    exact ⟨rfl, HBl.out⟩
                  · have HV : Hid (rintV (rintF (sb s)) = .tuple #[.int .u64 ((n * unit s[i].toNat : Nat) : Int), .int .i64 (-1)]) := HS.okV hlt hu1 hov hl2
                    rw [hu] at HV
                    have g2 : ¬ (i : Int) + 1 < (s.size : Int) := by omega
                    have HM : Hid (((n * 1024 : Nat) : Int) = ni * 1024) := by
                      show _ = _
                      rw [HNI.out]
                      omega
                    clear HS hov hu hu1 e ho
                    go_wp2_with fail
                    go_ret2
                    rw [HV.out, HM.out]
                    exact ⟨rfl, HBl.out⟩
              · have k75 : ((s[i].toNat : Int) == 75) = false := beq_eq_false_iff_ne.2 (by omega)
                by_cases e7 : s[i].toNat = 77
                · have k77 : ((s[i].toNat : Int) == 77) = true := by rw [e7]; rfl
                  have hu : unit s[i].toNat = 1048576 := by rw [e7]; rfl
                  have hu1 : unit s[i].toNat ≠ 1 := by rw [hu]; decide
                  by_cases ho : 17592186044415 < n
                  · have hov : over n (unit s[i].toNat) 0 = true := by
                      rw [hu]
                      exact decide_eq_true (by unfold top; omega)
                    have HV : Hid (rintV (rintF (sb s)) = .tuple #[.int .u64 0, .int .i64 (i : Int)]) := HS.overV hlt hu1 hov
                    have g1 : (17592186044415 : Int) < ni := by rw [HNI.out]; omega
                    clear HS hov hu hu1 e7 ho
                    go_wp2_with fail
                    go_ret2
                    rw [HV.out]
                    exact ⟨rfl, HBl.out⟩
                  · have hov : over n (unit s[i].toNat) 0 = false := by
                      rw [hu]
                      exact decide_eq_false (by unfold top; omega)
                    have g1 : ¬ (17592186044415 : Int) < ni := by rw [HNI.out]; omega
                    have g0 : 0 ≤ ni := by rw [HNI.out]; omega
                    by_cases hl2 : i + 1 < s.size
                    · have HV : Hid (rintV (rintF (sb s)) = .tuple #[.int .u64 0, .int .i64 ((i + 1 : Nat) : Int)]) := HS.moreV hlt hu1 hov hl2
                      have g2 : (i : Int) + 1 < (s.size : Int) := by omega
                      clear HS hov hu hu1 e7 ho
                      go_wp2_with fail
                      go_ret2
                      rw [HV.out]
                      exact ⟨rfl, HBl.out⟩
                    · have HV : Hid (rintV (rintF (sb s)) = .tuple #[.int .u64 ((n * unit s[i].toNat : Nat) : Int), .int .i64 (-1)]) := HS.okV hlt hu1 hov hl2
                      rw [hu] at HV
                      have g2 : ¬ (i : Int) + 1 < (s.size : Int) := by omega
                      have HM : Hid (((n * 1048576 : Nat) : Int) = ni * 1048576) := by
                        show _ = _
                        rw [HNI.out]
                        omega
                      clear HS hov hu hu1 e7 ho
                      go_wp2_with fail
                      go_ret2
                      rw [HV.out, HM.out]
                      exact ⟨rfl, HBl.out⟩
                · have k77 : ((s[i].toNat : Int) == 77) = false := beq_eq_false_iff_ne.2 (by omega)
                  have hu : unit s[i].toNat = 1 := by unfold unit; rw [if_neg e7, if_neg e]
                  have HV : Hid (rintV (rintF (sb s)) = .tuple #[.int .u64 0, .int .i64 (i : Int)]) := HS.badV hlt hu
                  clear HS hu e e7
                  go_wp2_with fail
                  go_ret2
                  rw [HV.out]
                  exact ⟨rfl, HBl.out⟩
          · rw [isD_yes hz hv] at HH
            have hdv := value_dig hz (by omega : value s[i].toNat ≤ 9)
            have HDn := HD.next hlt (by omega) (n := n)
            have HDo := HD.overV HX.out hlt (by omega)
            have hvl : value s[i].toNat < 10 := by omega
            clear hv hhd HD
            generalize value s[i].toNat = v at *
            have g3 : 48 ≤ (s[i].toNat : Int) := by omega
            have g4 : (s[i].toNat : Int) - 48 = (v : Int) := by omega
            have g0 : 0 ≤ ni := by rw [HNI.out]; omega
            have g5 : (18446744073709551615 - (v : Int)).tdiv 10 = ((18446744073709551615 - v) / 10 : Nat) := by
              rw [show (18446744073709551615 - (v : Int)) = ((18446744073709551615 - v : Nat) : Int) from by omega]
              rfl
            by_cases ho : (18446744073709551615 - v) / 10 < n
            · have HV : Hid (rintV (rintF (sb s)) = .tuple #[.int .u64 0, .int .i64 (i : Int)]) := HDo (decide_eq_true (by unfold top; exact ho))
              have g1 : (((18446744073709551615 - v) / 10 : Nat) : Int) < ni := by rw [HNI.out]; omega
              clear HDn HDo ho
              go_wp2_with fail
              refine (HH.out _).mono ?_
              rintro e w2 ⟨rfl, rfl⟩
              go_wp2_with fail
              go_ret2
              rw [HV.out]
              exact ⟨rfl, HBl.out⟩
            · have HN := HDn (decide_eq_false (by unfold top; exact ho)) (by omega)
              have g1 : ¬ (((18446744073709551615 - v) / 10 : Nat) : Int) < ni := by rw [HNI.out]; omega
              have g6 : 10 * ni + (v : Int) ≤ 18446744073709551615 := by rw [HNI.out]; omega
              have HM : Hid (10 * ni + (v : Int) = ((n * 10 + v : Nat) : Int)) := by
                show _ = _
                rw [HNI.out]
                omega
              clear HDn HDo ho
              go_wp2_with fail
              refine (HH.out _).mono ?_
              rintro e w2 ⟨rfl, rfl⟩
              clear HH
              go_wp2_with fail
              exact ⟨⟨n * 10 + v, i + 1, _, rfl, HM, by go_num, by omega, by omega, HN, HBl⟩, by simp [intOf]; omega⟩
        · have i1 : ¬ (i : Int) < (s.size : Int) := by omega
          have hst : 10 ≤ value (((sb s).drop i).headD 0) := by rw [int_none hlt]; decide
          by_cases hne : i = 0
          · exact absurd h1 (by omega)
          · have HS := HD.suf HX.out hst hne
            have i0 : ¬ (i : Int) = 0 := by omega
            clear HD hst
            have HV : Hid (rintV (rintF (sb s)) = .tuple #[.int .u64 (n : Int), .int .i64 (-1)]) := HS.endV hlt
            clear HS
            go_wp2_with fail
            go_ret2
            rw [HV.out, ← HNI.out]
            exact ⟨rfl, HBl.out⟩
  · have hh := hex_short s h1
    have j1 : ¬ (1 : Int) < (s.size : Int) := by omega
    have HX : Hid (rintF (sb s) = (rtailF 10 ((sb s).drop 0)).shift 0) := by
      show _ = _
      unfold rintF
      rw [hh, List.drop_zero]
      cases rtailF 10 (sb s) <;> simp [Res.shift]
    clear hh
    go_enter Tryd.func38, Tryd.ntmps38
    go_wp2_with fail
    go_loopw [4, 5, 6] (fun nv iv _ wr => ∃ (n i : Nat) (ni : Int), nv = .int .u64 ni ∧ Hid (ni = (n : Int)) ∧ iv = .int .i64 (i : Int) ∧ 0 ≤ i ∧ i ≤ s.size ∧ DigI s 0 10 n i ∧ Hid (Below w.heap.size w wr)) (fun _ iv _ _ => s.size - (intOf iv).toNat)
    case atStart => exact ⟨0, 0, 0, rfl, (rfl : (0 : Int) = ((0 : Nat) : Int)), rfl, by omega, by omega, ⟨0, rfl, Nat.zero_le _, by cases digitsF 10 0 ((sb s).drop 0) <;> simp [Res.shift]⟩, Below.refl _ _⟩
    case round =>
      obtain ⟨n, i, ni, rfl, HNI, rfl, h2i, hi, HD, HBl⟩ := hrel
      have hnt : n ≤ 18446744073709551615 := by obtain ⟨_, _, hn, _⟩ := HD; exact hn
      have HNT : Hid (n ≤ 18446744073709551615) := hnt
      clear hnt
      by_cases hlt : i < s.size
      · have hz : s[i].toNat < 256 := s[i].toNat_lt
        have i1 : (i : Int) < (s.size : Int) := by omega
        have hhd := int_head hlt
        have HH : Hid (∀ W, Calls Tryd.prog 36 #[.int .u8 (s[i].toNat : Int)] W fun e w' => e = .returned (.bool (isD s[i].toNat)) ∧ W = w') := fun W => digit_any hz W
        by_cases hv : 9 < value s[i].toNat
        · rw [isD_no hz hv] at HH
          have hst : 10 ≤ value (((sb s).drop i).headD 0) := by rw [hhd]; omega
          by_cases hne : i = 0
          · subst hne
            have HV : Hid (rintV (rintF (sb s)) = .tuple #[.int .u64 0, .int .i64 ((0 : Nat) : Int)]) := HD.noneV HX.out hst
            clear HD hst hv hhd
            go_wp2_with fail
            refine (HH.out _).mono ?_
            rintro e w2 ⟨rfl, rfl⟩
            clear HH
            go_wp2_with fail
            go_ret2
            rw [HV.out]
            exact ⟨rfl, HBl.out⟩
          · have HS := HD.suf HX.out hst hne
            have i0 : ¬ (i : Int) = 0 := by omega
            clear HD hst hv hhd
            exact absurd hlt (by omega)
        · rw [isD_yes hz hv] at HH
          have hdv := value_dig hz (by omega : value s[i].toNat ≤ 9)
          have HDn := HD.next hlt (by omega) (n := n)
          have HDo := HD.overV HX.out hlt (by omega)
          have hvl : value s[i].toNat < 10 := by omega
          clear hv hhd HD
          generalize value s[i].toNat = v at *
          have g3 : 48 ≤ (s[i].toNat : Int) := by omega
          have g4 : (s[i].toNat : Int) - 48 = (v : Int) := by omega
          have g0 : 0 ≤ ni := by rw [HNI.out]; omega
          have g5 : (18446744073709551615 - (v : Int)).tdiv 10 = ((18446744073709551615 - v) / 10 : Nat) := by
            rw [show (18446744073709551615 - (v : Int)) = ((18446744073709551615 - v : Nat) : Int) from by omega]
            rfl
          by_cases ho : (18446744073709551615 - v) / 10 < n
          · have HV : Hid (rintV (rintF (sb s)) = .tuple #[.int .u64 0, .int .i64 (i : Int)]) := HDo (decide_eq_true (by unfold top; exact ho))
            have g1 : (((18446744073709551615 - v) / 10 : Nat) : Int) < ni := by rw [HNI.out]; omega
            clear HDn HDo ho
            go_wp2_with fail
            refine (HH.out _).mono ?_
            rintro e w2 ⟨rfl, rfl⟩
            go_wp2_with fail
            go_ret2
            rw [HV.out]
            exact ⟨rfl, HBl.out⟩
          · have HN := HDn (decide_eq_false (by unfold top; exact ho)) (by omega)
            have g1 : ¬ (((18446744073709551615 - v) / 10 : Nat) : Int) < ni := by rw [HNI.out]; omega
            have g6 : 10 * ni + (v : Int) ≤ 18446744073709551615 := by rw [HNI.out]; omega
            have HM : Hid (10 * ni + (v : Int) = ((n * 10 + v : Nat) : Int)) := by
              show _ = _
              rw [HNI.out]
              omega
            clear HDn HDo ho
            go_wp2_with fail
            refine (HH.out _).mono ?_
            rintro e w2 ⟨rfl, rfl⟩
            clear HH
            go_wp2_with fail
            exact ⟨⟨n * 10 + v, i + 1, _, rfl, HM, by go_num, by omega, by omega, HN, HBl⟩, by simp [intOf]; omega⟩
      · have i1 : ¬ (i : Int) < (s.size : Int) := by omega
        have hst : 10 ≤ value (((sb s).drop i).headD 0) := by rw [int_none hlt]; decide
        by_cases hne : i = 0
        · subst hne
          have HV : Hid (rintV (rintF (sb s)) = .tuple #[.int .u64 0, .int .i64 ((0 : Nat) : Int)]) := HD.noneV HX.out hst
          clear HD hst
          go_wp2_with fail
          go_ret2
          rw [HV.out]
          exact ⟨rfl, HBl.out⟩
        · have HS := HD.suf HX.out hst hne
          have i0 : ¬ (i : Int) = 0 := by omega
          clear HD hst
          have HV : Hid (rintV (rintF (sb s)) = .tuple #[.int .u64 (n : Int), .int .i64 (-1)]) := HS.endV hlt
          clear HS
          go_wp2_with fail
          go_ret2
          rw [HV.out, ← HNI.out]
          exact ⟨rfl, HBl.out⟩
end Go.Proofs.YtlhecgokedckdaaDoor
