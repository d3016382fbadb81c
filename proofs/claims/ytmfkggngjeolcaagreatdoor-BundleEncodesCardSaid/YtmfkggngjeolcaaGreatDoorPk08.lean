import Derived.Test.YtmfkggngjeolcaaGreatDoorPk07
import Derived.Deep.DeepCutAuto
import Derived.Deep.CutBlock
import Derived.Test.YtmfkggngjeolcaaGreatDoorPk06
import Derived.Test.YtmfkggngjeolcaaGreatDoorProg
import Derived.WalkKit
import Derived.WalkSpells
import Derived.Deep.RegionHeld3
/- Bundle, the document's own Encode: number, orNone, flag, refuse, count. Own work. -/
namespace Go.Proofs.YtmfkggngjeolcaaGreatDoor
open Go.RowKit Bn Ek
set_option linter.unusedVariables false
set_option linter.unusedSimpArgs false
theorem wrap_nat {n : Nat} (h : n ≤ 18446744073709551615) : IntKind.u64.wrap (n : Int) = (n : Int) := by rw [IntKind.wrap_u64]; omega
section
variable {B kb : Nat} {w0 : World} {s : S} {w : World}
set_option maxRecDepth 100000 in
set_option maxHeartbeats 8000000 in
theorem knumX (h : Ld B kb w0 s w) {k : Int} (hk : I64R k) {sz : Nat} (hz : sz ≤ 4) (hl : s.1.length ≤ 549755813888) : Calls Tryz.prog 39 #[.pointer (some ⟨kb, 0, none⟩), .int .i64 k, .int .i64 (sz : Int)] w fun e w' => e = .returned (.tuple #[]) ∧ Ld B kb w0 (numD sz k s) w' := by
  obtain ⟨v, h⟩ := h
  obtain ⟨hk1, hk2⟩ := hk
  have hgl := gN_le sz (by omega)
  have HG : Hid (∀ W, Calls Tryz.prog 84 #[.int .i64 (sz : Int)] W fun e w' => e = .returned (.int .u64 (gN sz : Nat)) ∧ w' = W) := fun W => rGreatest_any (by omega) W
  have HFit : Hid (fitD sz k = (decide (0 ≤ k) && decide (k ≤ (gN sz : Int)))) := (rfl : _ = _)
  have HMd : Hid (mD sz k = if fitD sz k = true then k.toNat else 0) := (rfl : _ = _)
  have HEq : Hid (numD sz k s = (s.1 ++ Pl.le sz (mD sz k), fieldF s.2 (fitD sz k))) := (rfl : _ = _)
  rw [HEq.out]
  clear HEq
  generalize fitD sz k = b at *
  generalize mD sz k = m at *
  have hm2 : m ≤ 18446744073709551615 := by
    rw [HMd.out]
    split
    · omega
    · omega
  have HMk : Hid (b = true → k = (m : Int)) := fun e => by
    have h1 := HFit.out
    have h2 := HMd.out
    rw [if_pos e] at h2
    rw [e] at h1
    have h3 := h1.symm
    simp only [Bool.and_eq_true, decide_eq_true_eq] at h3
    omega
  have HM0 : Hid (b = false → m = 0) := fun e => by
    have h2 := HMd.out
    rw [e] at h2
    exact h2
  have hwm : IntKind.u64.wrap (m : Int) = (m : Int) := wrap_nat hm2
  have HC : Hid (∀ W, Calls Tryz.prog 42 #[.int .u64 (m : Int), .int .i64 (sz : Int)] W fun e w' => ∃ v, e = .returned v ∧ (Own w' W.heap.size v (Pl.le sz m) ∧ Below W.heap.size W w')) := fun W => rBytes_any (by omega) hm2 W
  have HE : Hid (Enters Tryz.prog 42) := enters_of Tryz.func42 (by kernel_rfl) rfl
  have HLe : Hid ((Pl.le sz m).length = sz) := Pl.le_length sz m
  have HL : Hid (s.1.length ≤ 549755813888) := hl
  have HZ : Hid (sz ≤ 4) := hz
  have HW : Hid (Lv B kb w0 v s w) := h
  obtain ⟨no, hno⟩ : ∃ no, fieldF s.2 b = no := ⟨_, rfl⟩
  have HN1 : Hid (b = true → no = s.2) := fun e => by rw [← hno, e]; rfl
  have HN2 : Hid (b = false → no = 132) := fun e => by rw [← hno, e]; rfl
  rw [hno]
  clear h hl hz HMd hno
  generalize gN sz = M at *
  go_enter Tryz.func39, Tryz.ntmps39
  go_upto_region 0 with fail
  go_cut [14] (fun y wx => y = .bool (!b) ∧ wx = w)
  case first =>
    clear HC HE HLe HL HZ HMk HM0
    by_cases h0 : 0 ≤ k
    · obtain ⟨n, rfl⟩ := Int.eq_ofNat_of_zero_le h0
      have hwn : IntKind.u64.wrap (n : Int) = (n : Int) := wrap_nat (by omega)
      by_cases h1 : n ≤ M
      · have hb : b = true := by rw [HFit.out, decide_eq_true h0, decide_eq_true (by omega : (n : Int) ≤ (M : Int))]; rfl
        subst hb
        have d0 : decide ((n : Int) < 0) = false := decide_eq_false (by omega)
        have d1 : decide ((n : Int) > (M : Int)) = false := decide_eq_false (by omega)
        have d2 : ¬ (M : Int) < (n : Int) := by omega
        clear h0 h1
        go_wp2_with fail
        refine (HG.out _).mono ?_
        rintro e w' ⟨rfl, hw⟩
        have hw := hw.symm
        subst hw
        go_wp2_with fail
        go_meet
        exact ⟨(by first | rfl | (congr 1; simp; omega)), rfl⟩
      · have hb : b = false := by rw [HFit.out, decide_eq_true h0, decide_eq_false (by omega : ¬ (n : Int) ≤ (M : Int))]; rfl
        subst hb
        have d0 : decide ((n : Int) < 0) = false := decide_eq_false (by omega)
        have d1 : decide ((n : Int) > (M : Int)) = true := decide_eq_true (by omega)
        have d2 : (M : Int) < (n : Int) := by omega
        clear h0 h1
        go_wp2_with fail
        refine (HG.out _).mono ?_
        rintro e w' ⟨rfl, hw⟩
        have hw := hw.symm
        subst hw
        go_wp2_with fail
        go_meet
        exact ⟨(by first | rfl | (congr 1; simp; omega)), rfl⟩
    · have hb : b = false := by rw [HFit.out, decide_eq_false h0]; rfl
      subst hb
      have d0 : k < 0 := by omega
      clear h0
      go_wp2_with fail
      go_meet
      exact ⟨rfl, rfl⟩
  case rest =>
    obtain ⟨rfl, hw⟩ := hcut
    have hw := hw.symm
    subst hw
    clear HG HFit
    have c1 := HW.out.cell1
    have f1 := HW.out.free 1
    go_upto_if 14 with fail
    go_cut [1] (fun y wx => y = .int .i64 (m : Int) ∧ Hid (Lv B kb w0 v (s.1, no) wx))
    case first =>
      cases b with
      | true =>
        have hk := HMk.out rfl
        have HNo := Lib.hid (HN1.out rfl)
        clear HN1 HN2 HMk HM0
        go_wp2_with fail
        go_meet
        exact ⟨(by first | rfl | rw [hk]), by rw [HNo.out]; exact HW⟩
      | false =>
        have hm0 := HM0.out rfl
        subst hm0
        have HNo := Lib.hid (HN2.out rfl)
        clear HN1 HN2 HMk HM0
        rcases HW.out.no with hn | hn
        · rw [hn] at c1
          have HR := Lib.hid HW.out.refuse
          clear hn
          go_wp2_with fail
          go_meet
          exact ⟨rfl, by rw [HNo.out]; exact HR⟩
        · rw [hn] at c1
          have HR : Hid (Lv B kb w0 v (s.1, 132) w) := Lib.hid (by have h9 := HW.out; rw [show (s.1, (132 : Int)) = s from Prod.ext rfl hn.symm]; exact h9)
          clear hn
          go_wp2_with fail
          go_meet
          exact ⟨rfl, by rw [HNo.out]; exact HR⟩
    case rest =>
      obtain ⟨rfl, HV⟩ := hcut
      clear c1 f1 HW HMk HM0 HN1 HN2
      have HVd : Hid (Lv B kb w0 v (s.1, no) wc.drew) := HV.out.below ⟨rfl, rfl, rfl, Nat.le_refl _, fun _ _ => rfl⟩
      have c0 := HV.out.cell0
      have f0 := HV.out.free 0
      go_wp2_with fail
      go_region_law (first
        | (refine step_callQ rfl 42 #[.tmp 29, .tmp 30] #[22, 3] rfl HE.out #[.int .u64 (m : Int), .int .i64 (sz : Int)] (by first | (simp [Act.eval]; done) | simp [Act.eval, Act.put]) (HC.out _) ?_; intro u w1 hR; have HW1 : Hid (Lv B kb w0 v (s.1, no) w1) := HVd.out.below hR.2; have c01 := HW1.out.cell0; have HSl : Hid (Sl w1 u (Pl.le sz m)) := hR.1.sl (Pl.le_small _ _); clear hR)
        | (refine step_append_sl (v := v) rfl (.tmp 27) (.tmp 31) rfl rfl HW1.out.own rfl HSl.out (by rw [HLe.out]; have := HL.out; have := HZ.out; simp only; omega) HW1.out.le ?_; intro v2 w2 h2 g2 l2; have hc2 := lcell0_of (HW1.out.after g2); have ht2 := lfree_of (HW1.out.after g2); obtain ⟨ao, n2, c, hv2⟩ : ∃ a m c, v2 = .slice a m c := (by obtain ⟨a, c, e⟩ := own_slice h2; exact ⟨a, _, c, e⟩); subst hv2; have HF := Lib.hid (HW1.out.stored h2 g2 l2 (Pl.le_small _ _)); clear h2 g2 l2))
      all_goals
        go_wp2
        go_end0
        exact ⟨rfl, HF.out⟩
theorem num_len (sz : Nat) (k : Int) (s : S) : (numD sz k s).1.length = s.1.length + sz := by rw [numD, List.length_append, Pl.le_length]
theorem noneD_len (k : Int) (s : S) : (noneD k s).1.length = s.1.length + 2 := num_len _ _ _
theorem flagD_len (k : Bool) (s : S) : (flagD k s).1.length = s.1.length + 1 := num_len _ _ _
theorem manyD_len (k : Nat) (s : S) : (manyD k s).1.length = s.1.length + 8 := by rw [manyD, zeros_len, num_len]
set_option maxRecDepth 100000 in
set_option maxHeartbeats 8000000 in
theorem knoneX (h : Ld B kb w0 s w) {k : Int} (hk : I64R k) (hl : s.1.length ≤ 549755813888) : Calls Tryz.prog 81 #[.pointer (some ⟨kb, 0, none⟩), .int .i64 k] w fun e w' => e = .returned (.tuple #[]) ∧ Ld B kb w0 (noneD k s) w' := by
  have HK : Hid (∀ y, y = (if k = -1 then 65535 else if 65534 < k then -1 else k) → Calls Tryz.prog 39 #[.pointer (some ⟨kb, 0, none⟩), .int .i64 y, .int .i64 2] w fun e w' => e = .returned (.tuple #[]) ∧ Ld B kb w0 (noneD k s) w') := fun y e => by
    subst e
    refine knumX h (sz := 2) ?_ (by decide) hl
    obtain ⟨h1, h2⟩ := hk
    unfold I64R
    split
    · omega
    · split <;> omega
  clear h hk hl
  by_cases h1 : k = -1
  · subst h1
    have HC := Lib.hid (HK.out 65535 rfl)
    clear HK
    go_enter Tryz.func81, Tryz.ntmps81
    go_wp2_with fail
    refine HC.out.mono ?_
    rintro e w1 ⟨rfl, h1⟩
    have H1 := Lib.hid h1
    clear h1 HC
    go_wp2_with fail
    go_end0
    exact ⟨rfl, H1.out⟩
  · have d1 : (k == -1) = false := by simpa using h1
    by_cases h2 : 65534 < k
    · have HC := Lib.hid (HK.out (-1) (by rw [if_neg h1, if_pos h2]))
      clear HK
      go_enter Tryz.func81, Tryz.ntmps81
      go_wp2_with fail
      refine HC.out.mono ?_
      rintro e w1 ⟨rfl, h1⟩
      have H1 := Lib.hid h1
      clear h1 HC
      go_wp2_with fail
      go_end0
      exact ⟨rfl, H1.out⟩
    · have HC := Lib.hid (HK.out k (by rw [if_neg h1, if_neg h2]))
      clear HK
      go_enter Tryz.func81, Tryz.ntmps81
      go_wp2_with fail
      refine HC.out.mono ?_
      rintro e w1 ⟨rfl, h1⟩
      have H1 := Lib.hid h1
      clear h1 HC
      go_wp2_with fail
      go_end0
      exact ⟨rfl, H1.out⟩
set_option maxRecDepth 100000 in
set_option maxHeartbeats 8000000 in
theorem kflagX (h : Ld B kb w0 s w) {b : Bool} (hl : s.1.length ≤ 549755813888) : Calls Tryz.prog 80 #[.pointer (some ⟨kb, 0, none⟩), .bool b] w fun e w' => e = .returned (.tuple #[]) ∧ Ld B kb w0 (flagD b s) w' := by
  have HC : Hid (Calls Tryz.prog 39 #[.pointer (some ⟨kb, 0, none⟩), .int .i64 (if b = true then 1 else 0), .int .i64 1] w fun e w' => e = .returned (.tuple #[]) ∧ Ld B kb w0 (flagD b s) w') := knumX h (sz := 1) (by cases b <;> exact ⟨by decide, by decide⟩) (by decide) hl
  clear h hl
  cases b with
  | true =>
    have HC1 : Hid (Calls Tryz.prog 39 #[.pointer (some ⟨kb, 0, none⟩), .int .i64 1, .int .i64 1] w fun e w' => e = .returned (.tuple #[]) ∧ Ld B kb w0 (flagD true s) w') := HC.out
    clear HC
    go_enter Tryz.func80, Tryz.ntmps80
    go_wp2_with fail
    refine HC1.out.mono ?_
    rintro e w1 ⟨rfl, h1⟩
    have H1 := Lib.hid h1
    clear h1 HC1
    go_wp2_with fail
    go_end0
    exact ⟨rfl, H1.out⟩
  | false =>
    have HC1 : Hid (Calls Tryz.prog 39 #[.pointer (some ⟨kb, 0, none⟩), .int .i64 0, .int .i64 1] w fun e w' => e = .returned (.tuple #[]) ∧ Ld B kb w0 (flagD false s) w') := HC.out
    clear HC
    go_enter Tryz.func80, Tryz.ntmps80
    go_wp2_with fail
    refine HC1.out.mono ?_
    rintro e w1 ⟨rfl, h1⟩
    have H1 := Lib.hid h1
    clear h1 HC1
    go_wp2_with fail
    go_end0
    exact ⟨rfl, H1.out⟩
set_option maxRecDepth 100000 in
set_option maxHeartbeats 8000000 in
theorem krefuseX (h : Ld B kb w0 s w) : Calls Tryz.prog 82 #[.pointer (some ⟨kb, 0, none⟩), .int .i64 132] w fun e w' => e = .returned (.tuple #[]) ∧ Ld B kb w0 (fieldS false s) w' := by
  obtain ⟨v, h⟩ := h
  have c1 := h.cell1
  have f1 := h.free 1
  rcases h.no with hn | hn
  · rw [hn] at c1
    have HR : Hid (Ld B kb w0 (fieldS false s) (w.setCell ⟨kb, 1, none⟩ (.int .i64 132))) := ⟨v, h.refuse⟩
    clear h hn
    go_enter Tryz.func82, Tryz.ntmps82
    go_wp2_with fail
    go_end0
    exact ⟨rfl, HR.out⟩
  · rw [hn] at c1
    have HR : Hid (Ld B kb w0 (fieldS false s) w) := ⟨v, by rw [show fieldS false s = s from Prod.ext rfl hn.symm]; exact h⟩
    clear h hn
    go_enter Tryz.func82, Tryz.ntmps82
    go_wp2_with fail
    go_end0
    exact ⟨rfl, HR.out⟩
set_option maxRecDepth 100000 in
set_option maxHeartbeats 8000000 in
theorem kcountX (h : Ld B kb w0 s w) {n : Nat} (hn : n ≤ 9223372036854775807) (hl : s.1.length ≤ 549755813888) : Calls Tryz.prog 79 #[.pointer (some ⟨kb, 0, none⟩), .int .i64 (n : Int)] w fun e w' => e = .returned (.tuple #[]) ∧ Ld B kb w0 (manyD n s) w' := by
  have HC : Hid (Calls Tryz.prog 39 #[.pointer (some ⟨kb, 0, none⟩), .int .i64 (n : Int), .int .i64 2] w fun e w' => e = .returned (.tuple #[]) ∧ Ld B kb w0 (numD 2 (n : Int) s) w') := knumX h (sz := 2) ⟨by omega, by omega⟩ (by decide) hl
  have HL : Hid ((numD 2 (n : Int) s).1.length + 6 ≤ 1099511627776) := show _ ≤ _ by rw [num_len]; omega
  clear h hl
  go_enter Tryz.func79, Tryz.ntmps79
  go_wp2_with fail
  refine HC.out.mono ?_
  rintro e w1 ⟨rfl, h1⟩
  have HC1 : Hid (Calls Tryz.prog 41 #[.pointer (some ⟨kb, 0, none⟩), .int .i64 6] w1 fun e w' => e = .returned (.tuple #[]) ∧ Ld B kb w0 (manyD n s) w') := kzerosX h1 (c := 6) HL.out
  clear h1 HC
  go_wp2_with fail
  refine HC1.out.mono ?_
  rintro e w2 ⟨rfl, h2⟩
  have H2 := Lib.hid h2
  clear h2 HC1
  go_wp2_with fail
  go_end0
  exact ⟨rfl, H2.out⟩
theorem knum1X (h : Ld B kb w0 s w) {k : Int} (hk : I64R k) (hl : s.1.length ≤ 549755813888) : Calls Tryz.prog 39 #[.pointer (some ⟨kb, 0, none⟩), .int .i64 k, .int .i64 1] w fun e w' => e = .returned (.tuple #[]) ∧ Ld B kb w0 (numD 1 k s) w' := knumX h hk (sz := 1) (by decide) hl
theorem knum2X (h : Ld B kb w0 s w) {k : Int} (hk : I64R k) (hl : s.1.length ≤ 549755813888) : Calls Tryz.prog 39 #[.pointer (some ⟨kb, 0, none⟩), .int .i64 k, .int .i64 2] w fun e w' => e = .returned (.tuple #[]) ∧ Ld B kb w0 (numD 2 k s) w' := knumX h hk (sz := 2) (by decide) hl
theorem knum4X (h : Ld B kb w0 s w) {k : Int} (hk : I64R k) (hl : s.1.length ≤ 549755813888) : Calls Tryz.prog 39 #[.pointer (some ⟨kb, 0, none⟩), .int .i64 k, .int .i64 4] w fun e w' => e = .returned (.tuple #[]) ∧ Ld B kb w0 (numD 4 k s) w' := knumX h hk (sz := 4) (by decide) hl
theorem kzeros2X (h : Ld B kb w0 s w) (hl : s.1.length ≤ 549755813888) : Calls Tryz.prog 41 #[.pointer (some ⟨kb, 0, none⟩), .int .i64 2] w fun e w' => e = .returned (.tuple #[]) ∧ Ld B kb w0 (zerosS 2 s) w' := kzerosX h (c := 2) (by omega)
theorem kzeros3X (h : Ld B kb w0 s w) (hl : s.1.length ≤ 549755813888) : Calls Tryz.prog 41 #[.pointer (some ⟨kb, 0, none⟩), .int .i64 3] w fun e w' => e = .returned (.tuple #[]) ∧ Ld B kb w0 (zerosS 3 s) w' := kzerosX h (c := 3) (by omega)
theorem kzeros4X (h : Ld B kb w0 s w) (hl : s.1.length ≤ 549755813888) : Calls Tryz.prog 41 #[.pointer (some ⟨kb, 0, none⟩), .int .i64 4] w fun e w' => e = .returned (.tuple #[]) ∧ Ld B kb w0 (zerosS 4 s) w' := kzerosX h (c := 4) (by omega)
theorem kzeros6X (h : Ld B kb w0 s w) (hl : s.1.length ≤ 549755813888) : Calls Tryz.prog 41 #[.pointer (some ⟨kb, 0, none⟩), .int .i64 6] w fun e w' => e = .returned (.tuple #[]) ∧ Ld B kb w0 (zerosS 6 s) w' := kzerosX h (c := 6) (by omega)
end
end Go.Proofs.YtmfkggngjeolcaaGreatDoor
/- Bundle: the layer's loops over rows (written by parts/gen_bnsec.py). Own work. -/
namespace Go.Proofs.YtmfkggngjeolcaaGreatDoor
open Go.RowKit Bn
set_option linter.unusedVariables false
set_option linter.unusedSimpArgs false
theorem rangeS_len (r : Rg) (s : S) : (rangeS r s).1.length = s.1.length + 16 := by rw [rangeS, long_len, long_len]
theorem stS_len (x : Int × Int) (s : S) : (stS x s).1.length = s.1.length + 8 := by rw [stS, word_len, zeros_len, none_len]
theorem tenS_len (x : Tn) (s : S) : (tenS x s).1.length = s.1.length + 8 := by rw [tenS, none_len, none_len, byte_len, byte_len, flag_len, byte_len]
theorem portS_len (x : Int) (s : S) : (portS x s).1.length = s.1.length + 8 := by rw [portS, zeros_len, none_len]
theorem chS_len (x : Lk) (s : S) : (chS x s).1.length = s.1.length + 8 := by rw [chS, zeros_len, byte_len, byte_len, none_len, none_len, field_len]
theorem iqS_len (x : Lk) (s : S) : (iqS x s).1.length = s.1.length + 8 := by rw [iqS, zeros_len, flag_len, byte_len, none_len, none_len, field_len]
section
variable {B kb : Nat} {im : List Value} {o : Option Nat} {en : List Value} {w0 : World} {s0 : S} {w : World}
variable {s : S}
set_option maxRecDepth 100000 in
set_option maxHeartbeats 8000000 in
theorem rangesX (h : Sx B kb im o en w0 s0 w) {v : Value} {xs : List Rg} (hr : ∀ W, Fx B w0 W → RowG 2 rgE W v xs) (hok : ∀ x ∈ xs, rgOk x) (hl : s0.1.length + 16 * xs.length ≤ 274877906944) : Calls Tryz.prog 88 #[.pointer (some ⟨kb, 0, none⟩), v] w fun e w' => e = .returned (.tuple #[]) ∧ Sx B kb im o en w0 (eachS rangeS xs s0) w' := by
  have HR : Hid (∀ W, Fx B w0 W → RowG 2 rgE W v xs) := hr
  have H0 : Hid (Sx B kb im o en w0 (eachS rangeS (xs.take 0) s0) w) := Lib.hid h
  have HL : Hid (s0.1.length + 16 * xs.length ≤ 274877906944) := hl
  have HOk : Hid (∀ x ∈ xs, rgOk x) := hok
  obtain ⟨ao, cap, rfl, h1, h2, _⟩ := hr w h.fr
  unfold maxLen at h2
  obtain ⟨n, hn⟩ : ∃ n, xs.length = n := ⟨_, rfl⟩
  have HN := Lib.hid hn
  rw [hn] at h1 HR ⊢
  clear hn h hl hok hr
  go_enter Tryz.func88, Tryz.ntmps88
  go_wp2_with fail
  go_loopw [8] (fun iv wr => ∃ i : Nat, i ≤ n ∧ iv = .int .i64 (i : Int) ∧ Hid (Sx B kb im o en w0 (eachS rangeS (xs.take i) s0) wr)) (fun iv _ => n - (intOf iv).toNat)
  case atStart => exact ⟨0, Nat.zero_le _, rfl, H0⟩
  case round =>
    clear H0
    obtain ⟨i, hi, rfl, HI⟩ := hrel
    by_cases hin : i < n
    · have ji : (i : Int) < (n : Int) := by omega
      have hix : i < xs.length := by rw [HN.out]; exact hin
      have hw1 : IntKind.i64.wrap ((i : Int) + 1) = ((i + 1 : Nat) : Int) := by rw [IntKind.wrap_i64]; omega
      obtain ⟨_, _, e', _, _, hc⟩ := HR.out wr HI.out.fr
      simp only [Value.slice.injEq] at e'
      obtain ⟨rfl, e9, rfl⟩ := e'
      clear e9
      obtain ⟨b, of, rfl, _, hc⟩ := hc i hix
      have c0 := hc 0 (by decide)
      have c1 := hc 1 (by decide)
      simp only [rgE, List.getElem?_cons_zero, List.getElem?_cons_succ, Nat.add_zero] at c0 c1
      have hok1 := HOk.out xs[i] (List.getElem_mem _)
      have HE : Hid (∀ W, Sx B kb im o en w0 (rangeS xs[i] (eachS rangeS (xs.take i) s0)) W → Sx B kb im o en w0 (eachS rangeS (xs.take (i + 1)) s0) W) := fun W hW => by rw [eachS_take _ _ _ _ hix]; exact hW
      have HLi : Hid ((eachS rangeS (xs.take i) s0).1.length + 16 ≤ 274877906944) := show _ ≤ _ by
        rw [each_len rangeS_len, List.length_take]
        have := HL.out
        omega
      generalize eachS rangeS (xs.take i) s0 = si at HI HE HLi
      generalize xs[i] = x at *
      obtain ⟨xa, xb⟩ := x
      obtain ⟨hx0, hx1⟩ := hok1
      clear hc
      have HF0 : Hid (Fx B w0 (wr.alloc (.cells #[.int .u64 (xa : Int), .int .u64 (xb : Int)] 64))) := HI.out.fr.trans (Fx.of_below ((Below.refl _ _).alloc (Nat.le_refl _) _))
      have HS0 : Hid (Sx B kb im o en (wr.alloc (.cells #[.int .u64 (xa : Int), .int .u64 (xb : Int)] 64)) si (wr.alloc (.cells #[.int .u64 (xa : Int), .int .u64 (xb : Int)] 64))) := (St.below HI.out ((Below.refl _ _).alloc (Nat.le_refl _) _)).here
      have HBx : Hid (∀ W, Fx B (wr.alloc (.cells #[.int .u64 (xa : Int), .int .u64 (xb : Int)] 64)) W → W.cell? ⟨wr.heap.size, 0, none⟩ = some (.int .u64 (xa : Int)) ∧ W.cell? ⟨wr.heap.size, 1, none⟩ = some (.int .u64 (xb : Int))) := fun W hW => by
        have hb := (hW.block' ⟨_, heap_alloc_new wr _⟩ (by simp) (by decide) (by decide) (by decide)).trans (heap_alloc_new wr _)
        refine ⟨?_, ?_⟩ <;> (rw [cell_of_row _ _ _ _ _ _ hb]; rfl)
      go_wp2_with fail
      refine (longX HS0.out (m := xa) hx0 (by (try simp only [byte_len, half_len, none_len, word_len, long_len, zeros_len, flag_len, field_len, many_len, ask_len, bytes_len]); have := HLi.out; omega)).mono ?_
      rintro e w1 ⟨rfl, h1⟩
      obtain ⟨d0, d1⟩ := HBx.out _ h1.fr
      have HS1 := Lib.hid h1
      clear h1 HS0
      go_wp2_with fail
      clear d0 d1
      refine (longX HS1.out (m := xb) hx1 (by (try simp only [byte_len, half_len, none_len, word_len, long_len, zeros_len, flag_len, field_len, many_len, ask_len, bytes_len]); have := HLi.out; omega)).mono ?_
      rintro e w2 ⟨rfl, h2⟩
      have HS2 := Lib.hid h2
      clear h2 HS1
      go_wp2_with fail
      go_roundw
      case rel => exact ⟨i + 1, by omega, rfl, HE.out _ (HS2.out.since HF0.out)⟩
      case measure => simp [intOf]; omega
    · obtain rfl : i = n := by omega
      have ji : ¬ (i : Int) < (i : Int) := by omega
      have HE : Hid (eachS rangeS (xs.take i) s0 = eachS rangeS xs s0) := show _ = _ by rw [List.take_of_length_le (by rw [HN.out]; exact Nat.le_refl _)]
      rw [HE.out] at HI
      go_wp2_with fail
      go_end0
      exact ⟨rfl, HI.out⟩
set_option maxRecDepth 100000 in
set_option maxHeartbeats 8000000 in
theorem subjectsX (h : Sx B kb im o en w0 s w) {v : Value} {xs : List Tn} (hi : im[3]? = some v) (hr : ∀ W, Fx B w0 W → RowG 6 tnE W v xs) (hok : ∀ x ∈ xs, tnOk x) (hl : s.1.length + 8 + 8 * xs.length ≤ 274877906944) : Calls Tryz.prog 49 #[.pointer (some ⟨kb, 0, none⟩)] w fun e w' => e = .returned (.tuple #[]) ∧ Sx B kb im o en w0 (eachS tenS xs (manyS xs.length s)) w' := by
  have HR : Hid (∀ W, Fx B w0 W → RowG 6 tnE W v xs) := hr
  have HL : Hid ((manyS xs.length s).1.length + 8 * xs.length ≤ 274877906944) := show _ ≤ _ by rw [many_len]; exact hl
  have HOk : Hid (∀ x ∈ xs, tnOk x) := hok
  obtain ⟨ao, cap, rfl, h1, h2, _⟩ := hr w h.fr
  have h2' := h2
  unfold maxLen at h2
  have HC := Lib.hid (manyX h (n := xs.length) (by unfold maxLen at h2'; omega) (by omega))
  have HI : Hid (∀ W s', Sx B kb im o en w0 s' W → W.cell? ⟨kb, 3, none⟩ = some (.slice ao xs.length cap)) := fun W s' hW => (St.cell hW 3).trans ((lyC_im hW.him (by decide)).trans hi)
  have c0 := HI.out _ _ h
  obtain ⟨n, hn⟩ : ∃ n, xs.length = n := ⟨_, rfl⟩
  have HN := Lib.hid hn
  rw [hn] at h1 HR HC HI c0 HL ⊢
  clear hn h hl hok hr h2' hi
  obtain ⟨s0, hs0⟩ : ∃ s0, manyS n s = s0 := ⟨_, rfl⟩
  rw [hs0] at HC HL ⊢
  clear hs0
  go_enter Tryz.func49, Tryz.ntmps49
  go_wp2_with fail
  refine HC.out.mono ?_
  rintro e w1 ⟨rfl, hm1⟩
  have c1 := HI.out _ _ hm1
  have H0 : Hid (Sx B kb im o en w0 (eachS tenS (xs.take 0) s0) w1) := Lib.hid hm1
  clear hm1 HC HI c0
  go_wp2_with fail
  go_loopw [18] (fun iv wr => ∃ i : Nat, i ≤ n ∧ iv = .int .i64 (i : Int) ∧ Hid (Sx B kb im o en w0 (eachS tenS (xs.take i) s0) wr)) (fun iv _ => n - (intOf iv).toNat)
  case atStart => exact ⟨0, Nat.zero_le _, rfl, H0⟩
  case round =>
    clear H0
    obtain ⟨i, hi, rfl, HI⟩ := hrel
    by_cases hin : i < n
    · have ji : (i : Int) < (n : Int) := by omega
      have hix : i < xs.length := by rw [HN.out]; exact hin
      have hw1 : IntKind.i64.wrap ((i : Int) + 1) = ((i + 1 : Nat) : Int) := by rw [IntKind.wrap_i64]; omega
      obtain ⟨_, _, e', _, _, hc⟩ := HR.out wr HI.out.fr
      simp only [Value.slice.injEq] at e'
      obtain ⟨rfl, e9, rfl⟩ := e'
      clear e9
      obtain ⟨b, of, rfl, _, hc⟩ := hc i hix
      have c0 := hc 0 (by decide)
      have c1 := hc 1 (by decide)
      have c2 := hc 2 (by decide)
      have c3 := hc 3 (by decide)
      have c4 := hc 4 (by decide)
      have c5 := hc 5 (by decide)
      simp only [tnE, List.getElem?_cons_zero, List.getElem?_cons_succ, Nat.add_zero] at c0 c1 c2 c3 c4 c5
      have hok1 := HOk.out xs[i] (List.getElem_mem _)
      have HE : Hid (∀ W, Sx B kb im o en w0 (tenS xs[i] (eachS tenS (xs.take i) s0)) W → Sx B kb im o en w0 (eachS tenS (xs.take (i + 1)) s0) W) := fun W hW => by rw [eachS_take _ _ _ _ hix]; exact hW
      have HLi : Hid ((eachS tenS (xs.take i) s0).1.length + 8 ≤ 274877906944) := show _ ≤ _ by
        rw [each_len tenS_len, List.length_take]
        have := HL.out
        omega
      generalize eachS tenS (xs.take i) s0 = si at HI HE HLi
      generalize xs[i] = x at *
      obtain ⟨xa, xb, xc, xd, xe, xf⟩ := x
      obtain ⟨hx0, hx1, hx3, hx4, hx5⟩ := hok1
      clear hc
      have HF0 : Hid (Fx B w0 (wr.alloc (.cells #[.int .i64 xa, .int .i64 xb, .bool xc, .int .i64 xd, .int .i64 xe, .int .i64 xf] 66))) := HI.out.fr.trans (Fx.of_below ((Below.refl _ _).alloc (Nat.le_refl _) _))
      have HS0 : Hid (Sx B kb im o en (wr.alloc (.cells #[.int .i64 xa, .int .i64 xb, .bool xc, .int .i64 xd, .int .i64 xe, .int .i64 xf] 66)) si (wr.alloc (.cells #[.int .i64 xa, .int .i64 xb, .bool xc, .int .i64 xd, .int .i64 xe, .int .i64 xf] 66))) := (St.below HI.out ((Below.refl _ _).alloc (Nat.le_refl _) _)).here
      have HBx : Hid (∀ W, Fx B (wr.alloc (.cells #[.int .i64 xa, .int .i64 xb, .bool xc, .int .i64 xd, .int .i64 xe, .int .i64 xf] 66)) W → W.cell? ⟨wr.heap.size, 0, none⟩ = some (.int .i64 xa) ∧ W.cell? ⟨wr.heap.size, 1, none⟩ = some (.int .i64 xb) ∧ W.cell? ⟨wr.heap.size, 2, none⟩ = some (.bool xc) ∧ W.cell? ⟨wr.heap.size, 3, none⟩ = some (.int .i64 xd) ∧ W.cell? ⟨wr.heap.size, 4, none⟩ = some (.int .i64 xe) ∧ W.cell? ⟨wr.heap.size, 5, none⟩ = some (.int .i64 xf)) := fun W hW => by
        have hb := (hW.block' ⟨_, heap_alloc_new wr _⟩ (by simp) (by decide) (by decide) (by decide)).trans (heap_alloc_new wr _)
        refine ⟨?_, ?_, ?_, ?_, ?_, ?_⟩ <;> (rw [cell_of_row _ _ _ _ _ _ hb]; rfl)
      go_wp2_with fail
      refine (byteX HS0.out (k := xa) hx0 (by (try simp only [byte_len, half_len, none_len, word_len, long_len, zeros_len, flag_len, field_len, many_len, ask_len, bytes_len]); have := HLi.out; omega)).mono ?_
      rintro e w1 ⟨rfl, h1⟩
      obtain ⟨d0, d1, d2, d3, d4, d5⟩ := HBx.out _ h1.fr
      have HS1 := Lib.hid h1
      clear h1 HS0
      go_wp2_with fail
      clear d0 d1 d2 d3 d4 d5
      refine (flagX HS1.out (b := xc) (by (try simp only [byte_len, half_len, none_len, word_len, long_len, zeros_len, flag_len, field_len, many_len, ask_len, bytes_len]); have := HLi.out; omega)).mono ?_
      rintro e w2 ⟨rfl, h2⟩
      obtain ⟨d0, d1, d2, d3, d4, d5⟩ := HBx.out _ h2.fr
      have HS2 := Lib.hid h2
      clear h2 HS1
      go_wp2_with fail
      clear d0 d1 d2 d3 d4 d5
      refine (byteX HS2.out (k := xd) hx3 (by (try simp only [byte_len, half_len, none_len, word_len, long_len, zeros_len, flag_len, field_len, many_len, ask_len, bytes_len]); have := HLi.out; omega)).mono ?_
      rintro e w3 ⟨rfl, h3⟩
      obtain ⟨d0, d1, d2, d3, d4, d5⟩ := HBx.out _ h3.fr
      have HS3 := Lib.hid h3
      clear h3 HS2
      go_wp2_with fail
      clear d0 d1 d2 d3 d4 d5
      refine (byteX HS3.out (k := xf) hx5 (by (try simp only [byte_len, half_len, none_len, word_len, long_len, zeros_len, flag_len, field_len, many_len, ask_len, bytes_len]); have := HLi.out; omega)).mono ?_
      rintro e w4 ⟨rfl, h4⟩
      obtain ⟨d0, d1, d2, d3, d4, d5⟩ := HBx.out _ h4.fr
      have HS4 := Lib.hid h4
      clear h4 HS3
      go_wp2_with fail
      clear d0 d1 d2 d3 d4 d5
      refine (noneX HS4.out (k := xe) hx4 (by (try simp only [byte_len, half_len, none_len, word_len, long_len, zeros_len, flag_len, field_len, many_len, ask_len, bytes_len]); have := HLi.out; omega)).mono ?_
      rintro e w5 ⟨rfl, h5⟩
      obtain ⟨d0, d1, d2, d3, d4, d5⟩ := HBx.out _ h5.fr
      have HS5 := Lib.hid h5
      clear h5 HS4
      go_wp2_with fail
      clear d0 d1 d2 d3 d4 d5
      refine (noneX HS5.out (k := xb) hx1 (by (try simp only [byte_len, half_len, none_len, word_len, long_len, zeros_len, flag_len, field_len, many_len, ask_len, bytes_len]); have := HLi.out; omega)).mono ?_
      rintro e w6 ⟨rfl, h6⟩
      have HS6 := Lib.hid h6
      clear h6 HS5
      go_wp2_with fail
      go_roundw
      case rel => exact ⟨i + 1, by omega, rfl, HE.out _ (HS6.out.since HF0.out)⟩
      case measure => simp [intOf]; omega
    · obtain rfl : i = n := by omega
      have ji : ¬ (i : Int) < (i : Int) := by omega
      have HE : Hid (eachS tenS (xs.take i) s0 = eachS tenS xs s0) := show _ = _ by rw [List.take_of_length_le (by rw [HN.out]; exact Nat.le_refl _)]
      rw [HE.out] at HI
      go_wp2_with fail
      go_end0
      exact ⟨rfl, HI.out⟩
set_option maxRecDepth 100000 in
set_option maxHeartbeats 8000000 in
theorem channelsX (h : Sx B kb im o en w0 s w) {v : Value} {xs : List Lk} (hi : im[6]? = some v) (hr : ∀ W, Fx B w0 W → RowG 5 lkE W v xs) (hok : ∀ x ∈ xs, lkOk x) (hl : s.1.length + 8 + 8 * xs.length ≤ 274877906944) : Calls Tryz.prog 52 #[.pointer (some ⟨kb, 0, none⟩)] w fun e w' => e = .returned (.tuple #[]) ∧ Sx B kb im o en w0 (eachS chS xs (manyS xs.length s)) w' := by
  have HR : Hid (∀ W, Fx B w0 W → RowG 5 lkE W v xs) := hr
  have HL : Hid ((manyS xs.length s).1.length + 8 * xs.length ≤ 274877906944) := show _ ≤ _ by rw [many_len]; exact hl
  have HOk : Hid (∀ x ∈ xs, lkOk x) := hok
  obtain ⟨ao, cap, rfl, h1, h2, _⟩ := hr w h.fr
  have h2' := h2
  unfold maxLen at h2
  have HC := Lib.hid (manyX h (n := xs.length) (by unfold maxLen at h2'; omega) (by omega))
  have HI : Hid (∀ W s', Sx B kb im o en w0 s' W → W.cell? ⟨kb, 6, none⟩ = some (.slice ao xs.length cap)) := fun W s' hW => (St.cell hW 6).trans ((lyC_im hW.him (by decide)).trans hi)
  have c0 := HI.out _ _ h
  obtain ⟨n, hn⟩ : ∃ n, xs.length = n := ⟨_, rfl⟩
  have HN := Lib.hid hn
  rw [hn] at h1 HR HC HI c0 HL ⊢
  clear hn h hl hok hr h2' hi
  obtain ⟨s0, hs0⟩ : ∃ s0, manyS n s = s0 := ⟨_, rfl⟩
  rw [hs0] at HC HL ⊢
  clear hs0
  go_enter Tryz.func52, Tryz.ntmps52
  go_wp2_with fail
  refine HC.out.mono ?_
  rintro e w1 ⟨rfl, hm1⟩
  have c1 := HI.out _ _ hm1
  have H0 : Hid (Sx B kb im o en w0 (eachS chS (xs.take 0) s0) w1) := Lib.hid hm1
  clear hm1 HC HI c0
  go_wp2_with fail
  go_loopw [18] (fun iv wr => ∃ i : Nat, i ≤ n ∧ iv = .int .i64 (i : Int) ∧ Hid (Sx B kb im o en w0 (eachS chS (xs.take i) s0) wr)) (fun iv _ => n - (intOf iv).toNat)
  case atStart => exact ⟨0, Nat.zero_le _, rfl, H0⟩
  case round =>
    clear H0
    obtain ⟨i, hi, rfl, HI⟩ := hrel
    by_cases hin : i < n
    · have ji : (i : Int) < (n : Int) := by omega
      have hix : i < xs.length := by rw [HN.out]; exact hin
      have hw1 : IntKind.i64.wrap ((i : Int) + 1) = ((i + 1 : Nat) : Int) := by rw [IntKind.wrap_i64]; omega
      obtain ⟨_, _, e', _, _, hc⟩ := HR.out wr HI.out.fr
      simp only [Value.slice.injEq] at e'
      obtain ⟨rfl, e9, rfl⟩ := e'
      clear e9
      obtain ⟨b, of, rfl, _, hc⟩ := hc i hix
      have c0 := hc 0 (by decide)
      have c1 := hc 1 (by decide)
      have c2 := hc 2 (by decide)
      have c3 := hc 3 (by decide)
      have c4 := hc 4 (by decide)
      simp only [lkE, List.getElem?_cons_zero, List.getElem?_cons_succ, Nat.add_zero] at c0 c1 c2 c3 c4
      have hok1 := HOk.out xs[i] (List.getElem_mem _)
      have HE : Hid (∀ W, Sx B kb im o en w0 (chS xs[i] (eachS chS (xs.take i) s0)) W → Sx B kb im o en w0 (eachS chS (xs.take (i + 1)) s0) W) := fun W hW => by rw [eachS_take _ _ _ _ hix]; exact hW
      have HLi : Hid ((eachS chS (xs.take i) s0).1.length + 8 ≤ 274877906944) := show _ ≤ _ by
        rw [each_len chS_len, List.length_take]
        have := HL.out
        omega
      generalize eachS chS (xs.take i) s0 = si at HI HE HLi
      generalize xs[i] = x at *
      obtain ⟨xa, xb, xc, xd, xe⟩ := x
      obtain ⟨hx0, hx1, hx2, hx3⟩ := hok1
      clear hc
      have HF0 : Hid (Fx B w0 (wr.alloc (.cells #[.int .i64 xa, .int .i64 xb, .int .i64 xc, .int .i64 xd, .bool xe] 72))) := HI.out.fr.trans (Fx.of_below ((Below.refl _ _).alloc (Nat.le_refl _) _))
      have HS0 : Hid (Sx B kb im o en (wr.alloc (.cells #[.int .i64 xa, .int .i64 xb, .int .i64 xc, .int .i64 xd, .bool xe] 72)) si (wr.alloc (.cells #[.int .i64 xa, .int .i64 xb, .int .i64 xc, .int .i64 xd, .bool xe] 72))) := (St.below HI.out ((Below.refl _ _).alloc (Nat.le_refl _) _)).here
      have HBx : Hid (∀ W, Fx B (wr.alloc (.cells #[.int .i64 xa, .int .i64 xb, .int .i64 xc, .int .i64 xd, .bool xe] 72)) W → W.cell? ⟨wr.heap.size, 0, none⟩ = some (.int .i64 xa) ∧ W.cell? ⟨wr.heap.size, 1, none⟩ = some (.int .i64 xb) ∧ W.cell? ⟨wr.heap.size, 2, none⟩ = some (.int .i64 xc) ∧ W.cell? ⟨wr.heap.size, 3, none⟩ = some (.int .i64 xd) ∧ W.cell? ⟨wr.heap.size, 4, none⟩ = some (.bool xe)) := fun W hW => by
        have hb := (hW.block' ⟨_, heap_alloc_new wr _⟩ (by simp) (by decide) (by decide) (by decide)).trans (heap_alloc_new wr _)
        refine ⟨?_, ?_, ?_, ?_, ?_⟩ <;> (rw [cell_of_row _ _ _ _ _ _ hb]; rfl)
      go_wp2_with fail
      refine (fieldX HS0.out (!xe)).mono ?_
      rintro e w1 ⟨rfl, h1⟩
      obtain ⟨d0, d1, d2, d3, d4⟩ := HBx.out _ h1.fr
      have HS1 := Lib.hid h1
      clear h1 HS0
      go_wp2_with fail
      clear d0 d1 d2 d3 d4
      refine (noneX HS1.out (k := xa) hx0 (by (try simp only [byte_len, half_len, none_len, word_len, long_len, zeros_len, flag_len, field_len, many_len, ask_len, bytes_len]); have := HLi.out; omega)).mono ?_
      rintro e w2 ⟨rfl, h2⟩
      obtain ⟨d0, d1, d2, d3, d4⟩ := HBx.out _ h2.fr
      have HS2 := Lib.hid h2
      clear h2 HS1
      go_wp2_with fail
      clear d0 d1 d2 d3 d4
      refine (noneX HS2.out (k := xb) hx1 (by (try simp only [byte_len, half_len, none_len, word_len, long_len, zeros_len, flag_len, field_len, many_len, ask_len, bytes_len]); have := HLi.out; omega)).mono ?_
      rintro e w3 ⟨rfl, h3⟩
      obtain ⟨d0, d1, d2, d3, d4⟩ := HBx.out _ h3.fr
      have HS3 := Lib.hid h3
      clear h3 HS2
      go_wp2_with fail
      clear d0 d1 d2 d3 d4
      refine (byteX HS3.out (k := xc) hx2 (by (try simp only [byte_len, half_len, none_len, word_len, long_len, zeros_len, flag_len, field_len, many_len, ask_len, bytes_len]); have := HLi.out; omega)).mono ?_
      rintro e w4 ⟨rfl, h4⟩
      obtain ⟨d0, d1, d2, d3, d4⟩ := HBx.out _ h4.fr
      have HS4 := Lib.hid h4
      clear h4 HS3
      go_wp2_with fail
      clear d0 d1 d2 d3 d4
      refine (byteX HS4.out (k := xd) hx3 (by (try simp only [byte_len, half_len, none_len, word_len, long_len, zeros_len, flag_len, field_len, many_len, ask_len, bytes_len]); have := HLi.out; omega)).mono ?_
      rintro e w5 ⟨rfl, h5⟩
      obtain ⟨d0, d1, d2, d3, d4⟩ := HBx.out _ h5.fr
      have HS5 := Lib.hid h5
      clear h5 HS4
      go_wp2_with fail
      clear d0 d1 d2 d3 d4
      refine (zerosX HS5.out (c := 2) (by (try simp only [byte_len, half_len, none_len, word_len, long_len, zeros_len, flag_len, field_len, many_len, ask_len, bytes_len]); have := HLi.out; omega)).mono ?_
      rintro e w6 ⟨rfl, h6⟩
      have HS6 := Lib.hid h6
      clear h6 HS5
      go_wp2_with fail
      go_roundw
      case rel => exact ⟨i + 1, by omega, rfl, HE.out _ (HS6.out.since HF0.out)⟩
      case measure => simp [intOf]; omega
    · obtain rfl : i = n := by omega
      have ji : ¬ (i : Int) < (i : Int) := by omega
      have HE : Hid (eachS chS (xs.take i) s0 = eachS chS xs s0) := show _ = _ by rw [List.take_of_length_le (by rw [HN.out]; exact Nat.le_refl _)]
      rw [HE.out] at HI
      go_wp2_with fail
      go_end0
      exact ⟨rfl, HI.out⟩
set_option maxRecDepth 100000 in
set_option maxHeartbeats 8000000 in
theorem irqsX (h : Sx B kb im o en w0 s w) {v : Value} {xs : List Lk} (hi : im[7]? = some v) (hr : ∀ W, Fx B w0 W → RowG 5 lkE W v xs) (hok : ∀ x ∈ xs, lkOk x) (hl : s.1.length + 8 + 8 * xs.length ≤ 274877906944) : Calls Tryz.prog 53 #[.pointer (some ⟨kb, 0, none⟩)] w fun e w' => e = .returned (.tuple #[]) ∧ Sx B kb im o en w0 (eachS iqS xs (manyS xs.length s)) w' := by
  have HR : Hid (∀ W, Fx B w0 W → RowG 5 lkE W v xs) := hr
  have HL : Hid ((manyS xs.length s).1.length + 8 * xs.length ≤ 274877906944) := show _ ≤ _ by rw [many_len]; exact hl
  have HOk : Hid (∀ x ∈ xs, lkOk x) := hok
  obtain ⟨ao, cap, rfl, h1, h2, _⟩ := hr w h.fr
  have h2' := h2
  unfold maxLen at h2
  have HC := Lib.hid (manyX h (n := xs.length) (by unfold maxLen at h2'; omega) (by omega))
  have HI : Hid (∀ W s', Sx B kb im o en w0 s' W → W.cell? ⟨kb, 7, none⟩ = some (.slice ao xs.length cap)) := fun W s' hW => (St.cell hW 7).trans ((lyC_im hW.him (by decide)).trans hi)
  have c0 := HI.out _ _ h
  obtain ⟨n, hn⟩ : ∃ n, xs.length = n := ⟨_, rfl⟩
  have HN := Lib.hid hn
  rw [hn] at h1 HR HC HI c0 HL ⊢
  clear hn h hl hok hr h2' hi
  obtain ⟨s0, hs0⟩ : ∃ s0, manyS n s = s0 := ⟨_, rfl⟩
  rw [hs0] at HC HL ⊢
  clear hs0
  go_enter Tryz.func53, Tryz.ntmps53
  go_wp2_with fail
  refine HC.out.mono ?_
  rintro e w1 ⟨rfl, hm1⟩
  have c1 := HI.out _ _ hm1
  have H0 : Hid (Sx B kb im o en w0 (eachS iqS (xs.take 0) s0) w1) := Lib.hid hm1
  clear hm1 HC HI c0
  go_wp2_with fail
  go_loopw [18] (fun iv wr => ∃ i : Nat, i ≤ n ∧ iv = .int .i64 (i : Int) ∧ Hid (Sx B kb im o en w0 (eachS iqS (xs.take i) s0) wr)) (fun iv _ => n - (intOf iv).toNat)
  case atStart => exact ⟨0, Nat.zero_le _, rfl, H0⟩
  case round =>
    clear H0
    obtain ⟨i, hi, rfl, HI⟩ := hrel
    by_cases hin : i < n
    · have ji : (i : Int) < (n : Int) := by omega
      have hix : i < xs.length := by rw [HN.out]; exact hin
      have hw1 : IntKind.i64.wrap ((i : Int) + 1) = ((i + 1 : Nat) : Int) := by rw [IntKind.wrap_i64]; omega
      obtain ⟨_, _, e', _, _, hc⟩ := HR.out wr HI.out.fr
      simp only [Value.slice.injEq] at e'
      obtain ⟨rfl, e9, rfl⟩ := e'
      clear e9
      obtain ⟨b, of, rfl, _, hc⟩ := hc i hix
      have c0 := hc 0 (by decide)
      have c1 := hc 1 (by decide)
      have c2 := hc 2 (by decide)
      have c3 := hc 3 (by decide)
      have c4 := hc 4 (by decide)
      simp only [lkE, List.getElem?_cons_zero, List.getElem?_cons_succ, Nat.add_zero] at c0 c1 c2 c3 c4
      have hok1 := HOk.out xs[i] (List.getElem_mem _)
      have HE : Hid (∀ W, Sx B kb im o en w0 (iqS xs[i] (eachS iqS (xs.take i) s0)) W → Sx B kb im o en w0 (eachS iqS (xs.take (i + 1)) s0) W) := fun W hW => by rw [eachS_take _ _ _ _ hix]; exact hW
      have HLi : Hid ((eachS iqS (xs.take i) s0).1.length + 8 ≤ 274877906944) := show _ ≤ _ by
        rw [each_len iqS_len, List.length_take]
        have := HL.out
        omega
      generalize eachS iqS (xs.take i) s0 = si at HI HE HLi
      generalize xs[i] = x at *
      obtain ⟨xa, xb, xc, xd, xe⟩ := x
      obtain ⟨hx0, hx1, hx2, hx3⟩ := hok1
      clear hc
      have HF0 : Hid (Fx B w0 (wr.alloc (.cells #[.int .i64 xa, .int .i64 xb, .int .i64 xc, .int .i64 xd, .bool xe] 72))) := HI.out.fr.trans (Fx.of_below ((Below.refl _ _).alloc (Nat.le_refl _) _))
      have HS0 : Hid (Sx B kb im o en (wr.alloc (.cells #[.int .i64 xa, .int .i64 xb, .int .i64 xc, .int .i64 xd, .bool xe] 72)) si (wr.alloc (.cells #[.int .i64 xa, .int .i64 xb, .int .i64 xc, .int .i64 xd, .bool xe] 72))) := (St.below HI.out ((Below.refl _ _).alloc (Nat.le_refl _) _)).here
      have HBx : Hid (∀ W, Fx B (wr.alloc (.cells #[.int .i64 xa, .int .i64 xb, .int .i64 xc, .int .i64 xd, .bool xe] 72)) W → W.cell? ⟨wr.heap.size, 0, none⟩ = some (.int .i64 xa) ∧ W.cell? ⟨wr.heap.size, 1, none⟩ = some (.int .i64 xb) ∧ W.cell? ⟨wr.heap.size, 2, none⟩ = some (.int .i64 xc) ∧ W.cell? ⟨wr.heap.size, 3, none⟩ = some (.int .i64 xd) ∧ W.cell? ⟨wr.heap.size, 4, none⟩ = some (.bool xe)) := fun W hW => by
        have hb := (hW.block' ⟨_, heap_alloc_new wr _⟩ (by simp) (by decide) (by decide) (by decide)).trans (heap_alloc_new wr _)
        refine ⟨?_, ?_, ?_, ?_, ?_⟩ <;> (rw [cell_of_row _ _ _ _ _ _ hb]; rfl)
      go_wp2_with fail
      refine (fieldX HS0.out (decide (xc = 1))).mono ?_
      rintro e w1 ⟨rfl, h1⟩
      obtain ⟨d0, d1, d2, d3, d4⟩ := HBx.out _ h1.fr
      have HS1 := Lib.hid h1
      clear h1 HS0
      go_wp2_with fail
      clear d0 d1 d2 d3 d4
      refine (noneX HS1.out (k := xa) hx0 (by (try simp only [byte_len, half_len, none_len, word_len, long_len, zeros_len, flag_len, field_len, many_len, ask_len, bytes_len]); have := HLi.out; omega)).mono ?_
      rintro e w2 ⟨rfl, h2⟩
      obtain ⟨d0, d1, d2, d3, d4⟩ := HBx.out _ h2.fr
      have HS2 := Lib.hid h2
      clear h2 HS1
      go_wp2_with fail
      clear d0 d1 d2 d3 d4
      refine (noneX HS2.out (k := xb) hx1 (by (try simp only [byte_len, half_len, none_len, word_len, long_len, zeros_len, flag_len, field_len, many_len, ask_len, bytes_len]); have := HLi.out; omega)).mono ?_
      rintro e w3 ⟨rfl, h3⟩
      obtain ⟨d0, d1, d2, d3, d4⟩ := HBx.out _ h3.fr
      have HS3 := Lib.hid h3
      clear h3 HS2
      go_wp2_with fail
      clear d0 d1 d2 d3 d4
      refine (byteX HS3.out (k := xd) hx3 (by (try simp only [byte_len, half_len, none_len, word_len, long_len, zeros_len, flag_len, field_len, many_len, ask_len, bytes_len]); have := HLi.out; omega)).mono ?_
      rintro e w4 ⟨rfl, h4⟩
      obtain ⟨d0, d1, d2, d3, d4⟩ := HBx.out _ h4.fr
      have HS4 := Lib.hid h4
      clear h4 HS3
      go_wp2_with fail
      clear d0 d1 d2 d3 d4
      refine (flagX HS4.out (b := xe) (by (try simp only [byte_len, half_len, none_len, word_len, long_len, zeros_len, flag_len, field_len, many_len, ask_len, bytes_len]); have := HLi.out; omega)).mono ?_
      rintro e w5 ⟨rfl, h5⟩
      obtain ⟨d0, d1, d2, d3, d4⟩ := HBx.out _ h5.fr
      have HS5 := Lib.hid h5
      clear h5 HS4
      go_wp2_with fail
      clear d0 d1 d2 d3 d4
      refine (zerosX HS5.out (c := 2) (by (try simp only [byte_len, half_len, none_len, word_len, long_len, zeros_len, flag_len, field_len, many_len, ask_len, bytes_len]); have := HLi.out; omega)).mono ?_
      rintro e w6 ⟨rfl, h6⟩
      have HS6 := Lib.hid h6
      clear h6 HS5
      go_wp2_with fail
      go_roundw
      case rel => exact ⟨i + 1, by omega, rfl, HE.out _ (HS6.out.since HF0.out)⟩
      case measure => simp [intOf]; omega
    · obtain rfl : i = n := by omega
      have ji : ¬ (i : Int) < (i : Int) := by omega
      have HE : Hid (eachS iqS (xs.take i) s0 = eachS iqS xs s0) := show _ = _ by rw [List.take_of_length_le (by rw [HN.out]; exact Nat.le_refl _)]
      rw [HE.out] at HI
      go_wp2_with fail
      go_end0
      exact ⟨rfl, HI.out⟩
end
end Go.Proofs.YtmfkggngjeolcaaGreatDoor
/- Operations of a region that draws, taken by hand. Own work. -/
namespace Go.Proofs.YtmfkggngjeolcaaGreatDoor
open Go.RowKit
theorem takeH {P : Program} {md : Region.Mode} {ops : Array Oper} {Q : Exit → Act → World → Prop} {S : World → Prop} {i d : Nat} {oi : Oper} {v : Value} {fuel : Nat} {listed : Array Bool} {a : Act} {w : World} (hi : ops[i]? = some oi) (hd : oi.dst = some d)
    (hs : Region.noSelect ops = true) (hf : Region.free md ops listed i = true) (hr : (Region.ready md ops listed).contains i = true)
    (hQ : ∀ c a w, Q (.panic c) (a.put (some d) v) w → Q (.panic c) a w) (hy : YieldsIf P ops S oi v a) (hS : S w)
    (h : wpAnyH P md ops Q S fuel (listed.setIfInBounds i true) (a.put (some d) v) w) : wpAnyH P md ops Q S (fuel + 1) listed a w := by
  rw [← hd] at h hQ
  exact wpAnyH_take hi hs hf hr hQ hy hS h
/-- a call of a Go function, whatever it answers -/
theorem step_call3 {P : Program} {ops : Array Oper} {o : Oper} {a : Act} {w : World} {K : Act → World → Prop} {Q : Exit → Act → World → Prop} {E : Prop} (hw : Region.wanted o (yielded ops a.tmps) = true)
    (f : FuncId) (xs : Array Operand) (ats : Array TypeId) (ho : o.op = .call { callee := .value (.func f), args := xs, argTypes := ats }) (he : ∀ args w, (callFunc f args).run P w = .ok (.enter f args) w) (args : Array Value) (hargs : #[] ++ xs.map a.eval ++ #[] = args) {R : Value → World → Prop}
    (hc : Calls P f args w fun e w' => ∃ v, e = .returned v ∧ R v w') (hK : ∀ v w', R v w' → K (a.put o.dst v) w') :
    if Region.wanted o (yielded ops a.tmps) = true then Oper.wp P o a w K Q else E := by
  rw [if_pos hw]
  have e1 : execOp a.eval o = callFunc f args := by
    cases o
    simp only at ho
    subst ho
    rw [← hargs]
    rfl
  unfold Oper.wp
  rw [e1, he args w]
  rw [Oper.upon_enter]
  refine hc.mono ?_
  rintro e w' ⟨v, rfl, h⟩
  exact hK v w' h
/-- one of the operations that may come next: a call -/
theorem readyCall {P : Program} {md : Region.Mode} {ops : Array Oper} {Q : Exit → Act → World → Prop} {S : World → Prop} {i d : Nat} {o : Oper} {fuel : Nat} {listed : Array Bool} {a : Act} {w : World} {rs : List Nat} (hi : ops[i]? = some o) (hd : o.dst = some d) (hw : Region.wanted o (yielded ops a.tmps) = true)
    (f : FuncId) (xs : Array Operand) (ats : Array TypeId) (ho : o.op = .call { callee := .value (.func f), args := xs, argTypes := ats }) (he : ∀ args w, (callFunc f args).run P w = .ok (.enter f args) w) (args : Array Value) (hargs : #[] ++ xs.map a.eval ++ #[] = args) {R : Value → World → Prop}
    (hc : Calls P f args w fun e w' => ∃ v, e = .returned v ∧ R v w') (hS : ∀ v w', R v w' → S w') (hK : ∀ v w', R v w' → S w' → wpAnyH P md ops Q S fuel (listed.setIfInBounds i true) (a.put (some d) v) w') (hs : AllReadyH P md ops Q S fuel listed a w rs) : AllReadyH P md ops Q S fuel listed a w (i :: rs) := by
  rw [← hd] at hK
  exact AllReadyH.cons hi (fun K hK' => step_call3 hw f xs ats ho he args hargs hc (fun v w' hR => hK'.out _ _ (hS v w' hR) (hK v w' hR))) hs
/-- one of the operations that may come next: a store -/
theorem readySkip {P : Program} {md : Region.Mode} {ops : Array Oper} {Q : Exit → Act → World → Prop} {S : World → Prop} {i : Nat} {o : Oper} {fuel : Nat} {listed : Array Bool} {a : Act} {w w' : World} {rs : List Nat} (hi : ops[i]? = some o) (hd : o.dst = none) (hw : Region.wanted o (yielded ops a.tmps) = true) (hv : (execOp a.eval o).run P w = .ok .skip w') (hS : S w')
    (hK : wpAnyH P md ops Q S fuel (listed.setIfInBounds i true) a w') (hs : AllReadyH P md ops Q S fuel listed a w rs) : AllReadyH P md ops Q S fuel listed a w (i :: rs) := by
  refine AllReadyH.cons hi (fun K hK' => ?_) hs
  rw [if_pos hw]
  unfold Oper.wp
  rw [hv, Oper.upon_skip, hd]
  exact hK'.out _ _ hS (fun _ => hK)
end Go.Proofs.YtmfkggngjeolcaaGreatDoor
