/- WordNumbers: the document's own answers. Own work. -/
import Derived.Test.YtkhokajagglogaaGreatWnPl
import Derived.Lib.Hide
namespace Go.Proofs.YtkhokajagglogaaGreat
open Go.RowKit
theorem wrap_nat {n : Nat} (h : n ≤ 18446744073709551615) : IntKind.u64.wrap (n : Int) = (n : Int) := by rw [IntKind.wrap_u64]; omega
theorem wrap_suc {n : Nat} (h : n + 1 ≤ 18446744073709551615) : IntKind.u64.wrap ((n : Int) + 1) = ((n + 1 : Nat) : Int) := by rw [IntKind.wrap_u64]; omega
set_option maxHeartbeats 1000000 in
theorem rGreatest_any {s : Nat} (hs : s ≤ 8) (w : World) : Calls Tryz.prog 29 #[.int .i64 (s : Int)] w fun e w' => e = .returned (.int .u64 (gN s : Nat)) ∧ w' = w := by
  go_enter Tryz.func29, Tryz.ntmps29
  go_wp2
  go_loop [3, 4] (fun nv iv => ∃ k : Nat, k ≤ s ∧ iv = .int .i64 (k : Int) ∧ nv = .int .u64 (gN k : Nat)) (fun _ iv => s - (intOf iv).toNat)
  case atStart => exact ⟨0, by omega, rfl, rfl⟩
  case round =>
    obtain ⟨k, hk, rfl, rfl⟩ := hrel
    by_cases hlt : k < s
    · have HN : Hid (gN (k + 1) = gN k * 256 + 255) := (rfl : _ = _)
      have hb := gN_le (k + 1) (by omega)
      rw [HN.out] at hb
      generalize gN k = x at *
      go_wp2
      go_round
      case rel => exact ⟨k + 1, by omega, by go_num, by rw [HN.out]; go_num⟩
      case measure => simp [intOf]; omega
    · obtain rfl : k = s := by omega
      go_wp2
      go_ret
      exact ⟨rfl, rfl⟩
set_option maxHeartbeats 1000000 in
theorem rTo_any {s n : Nat} (hs : s ≤ 8) (w : World) : Calls Tryz.prog 53 #[.int .u64 (n : Int), .int .i64 (s : Int)] w fun e w' => e = .returned (.tuple #[.int .u64 ((toN (gN s) n).1 : Nat), .bool (toN (gN s) n).2]) ∧ w' = w := by
  have HG := Lib.hid (rGreatest_any hs w)
  generalize gN s = M at *
  by_cases h : n ≤ M
  · have HE : Hid (toN M n = (n, true)) := if_pos h
    have d1 : decide ((n : Int) > (M : Int)) = false := decide_eq_false (by omega)
    go_enter Tryz.func53, Tryz.ntmps53
    go_wp2_with fail
    refine HG.out.mono ?_
    rintro e w' ⟨rfl, hw⟩
    have hw := hw.symm
    subst hw
    go_wp2_with fail
    go_ret2
    exact ⟨by rw [HE.out]; rfl, rfl⟩
  · have HE : Hid (toN M n = (0, false)) := if_neg h
    have d1 : decide ((n : Int) > (M : Int)) = true := decide_eq_true (by omega)
    go_enter Tryz.func53, Tryz.ntmps53
    go_wp2_with fail
    refine HG.out.mono ?_
    rintro e w' ⟨rfl, hw⟩
    have hw := hw.symm
    subst hw
    go_wp2_with fail
    go_ret2
    exact ⟨by rw [HE.out]; rfl, rfl⟩
set_option maxHeartbeats 1000000 in
theorem rAdd_any {s a b : Nat} (hs : s ≤ 8) (ha : a ≤ gN s) (hb : b ≤ gN s) (w : World) : Calls Tryz.prog 87 #[.int .u64 (a : Int), .int .u64 (b : Int), .int .i64 (s : Int)] w fun e w' => e = .returned (.tuple #[.int .u64 ((addN (gN s) a b).1 : Nat), .bool (addN (gN s) a b).2]) ∧ w' = w := by
  have HG := Lib.hid (rGreatest_any hs w)
  have hM := gN_le s hs
  generalize gN s = M at *
  by_cases h : a + b ≤ M
  · have HE : Hid (addN M a b = (a + b, true)) := if_pos h
    have d1 : decide ((a : Int) > (M : Int) - (b : Int)) = false := decide_eq_false (by omega)
    go_enter Tryz.func87, Tryz.ntmps87
    go_wp2_with fail
    refine HG.out.mono ?_
    rintro e w' ⟨rfl, hw⟩
    have hw := hw.symm
    subst hw
    go_wp2_with fail
    go_ret2
    exact ⟨by rw [HE.out]; rfl, rfl⟩
  · have HE : Hid (addN M a b = (0, false)) := if_neg h
    have d1 : decide ((a : Int) > (M : Int) - (b : Int)) = true := decide_eq_true (by omega)
    go_enter Tryz.func87, Tryz.ntmps87
    go_wp2_with fail
    refine HG.out.mono ?_
    rintro e w' ⟨rfl, hw⟩
    have hw := hw.symm
    subst hw
    go_wp2_with fail
    go_ret2
    exact ⟨by rw [HE.out]; rfl, rfl⟩
set_option maxHeartbeats 1000000 in
theorem rSub_any {s a b : Nat} (ha : a ≤ 18446744073709551615) (w : World) : Calls Tryz.prog 89 #[.int .u64 (a : Int), .int .u64 (b : Int), .int .i64 (s : Int)] w fun e w' => e = .returned (.tuple #[.int .u64 ((subN a b).1 : Nat), .bool (subN a b).2]) ∧ w' = w := by
  by_cases h : b ≤ a
  · have HE : Hid (subN a b = (a - b, true)) := if_pos h
    go_enter Tryz.func89, Tryz.ntmps89
    go_wp2_with fail
    go_ret2
    exact ⟨by rw [HE.out]; show _ = Ending.returned (.tuple #[.int .u64 ((a - b : Nat) : Int), _]); rw [Int.ofNat_sub h]; rfl, rfl⟩
  · have HE : Hid (subN a b = (0, false)) := if_neg h
    go_enter Tryz.func89, Tryz.ntmps89
    go_wp2_with fail
    go_ret2
    exact ⟨by rw [HE.out]; rfl, rfl⟩
theorem mul_gt {a b M : Nat} (ha : 0 < a) : M / a < b ↔ M < a * b := by
  rw [Nat.div_lt_iff_lt_mul ha, Nat.mul_comm]
set_option maxHeartbeats 1000000 in
theorem rMul_any {s a b : Nat} (hs : s ≤ 8) (w : World) : Calls Tryz.prog 91 #[.int .u64 (a : Int), .int .u64 (b : Int), .int .i64 (s : Int)] w fun e w' => e = .returned (.tuple #[.int .u64 ((mulN (gN s) a b).1 : Nat), .bool (mulN (gN s) a b).2]) ∧ w' = w := by
  have HG := Lib.hid (rGreatest_any hs w)
  have hM := gN_le s hs
  generalize gN s = M at *
  by_cases h0 : a = 0
  · subst h0
    have HE : Hid (mulN M 0 b = (0, true)) := by show mulN M 0 b = _; unfold mulN; rw [Nat.zero_mul, if_pos (Nat.zero_le _)]
    go_enter Tryz.func91, Tryz.ntmps91
    go_wp2_with fail
    go_ret2
    exact ⟨by rw [HE.out]; rfl, rfl⟩
  · have hp : 0 < a := by omega
    have hpi : (0 : Int) < (a : Int) := by omega
    have hne : (a : Int) ≠ 0 := by omega
    have hm := mul_gt (b := b) (M := M) hp
    have hdl : M / a ≤ M := Nat.div_le_self M a
    have hwd : IntKind.u64.wrap ((M : Int) / (a : Int)) = ((M / a : Nat) : Int) := by rw [← Int.natCast_ediv M a]; exact wrap_nat (Nat.le_trans hdl hM)
    by_cases h : a * b ≤ M
    · have HE : Hid (mulN M a b = (a * b, true)) := if_pos h
      have hq : ¬ M / a < b := by rw [hm]; omega
      have hqi : ¬ ((M / a : Nat) : Int) < (b : Int) := by omega
      have hmi : ((a * b : Nat) : Int) = (a : Int) * (b : Int) := Int.natCast_mul a b
      have hw1 : IntKind.u64.wrap ((a : Int) * (b : Int)) = ((a * b : Nat) : Int) := by rw [← hmi]; exact wrap_nat (Nat.le_trans h hM)
      have HMI : Hid (((a * b : Nat) : Int) = (a : Int) * (b : Int)) := hmi
      clear hm h hmi hq
      generalize M / a = q at *
      go_enter Tryz.func91, Tryz.ntmps91
      go_wp2_with fail
      refine HG.out.mono ?_
      rintro e w' ⟨rfl, hw⟩
      have hw := hw.symm
      subst hw
      go_wp2_with fail
      go_ret2
      exact ⟨by rw [HE.out]; rfl, rfl⟩
    · have HE : Hid (mulN M a b = (0, false)) := if_neg h
      have hq : M / a < b := by rw [hm]; omega
      have hqi : ((M / a : Nat) : Int) < (b : Int) := by omega
      clear hm h hq
      generalize M / a = q at *
      go_enter Tryz.func91, Tryz.ntmps91
      go_wp2_with fail
      refine HG.out.mono ?_
      rintro e w' ⟨rfl, hw⟩
      have hw := hw.symm
      subst hw
      go_wp2_with fail
      go_ret2
      exact ⟨by rw [HE.out]; rfl, rfl⟩
set_option maxHeartbeats 1000000 in
theorem rUp_any {s a b : Nat} (hs : s ≤ 8) (ha : a ≤ gN s) (hb : b ≤ 18446744073709551615) (w : World) : Calls Tryz.prog 93 #[.int .u64 (a : Int), .int .u64 (b : Int), .int .i64 (s : Int)] w fun e w' => e = .returned (.tuple #[.int .u64 ((upN (gN s) a b).1 : Nat), .bool (upN (gN s) a b).2]) ∧ w' = w := by
  by_cases h0 : b = 0
  · subst h0
    have HE : Hid (upN (gN s) a 0 = (0, false)) := if_pos rfl
    generalize gN s = M at *
    go_enter Tryz.func93, Tryz.ntmps93
    go_wp2_with fail
    go_ret2
    exact ⟨by rw [HE.out]; rfl, rfl⟩
  · have hM := gN_le s hs
    have hpi : (0 : Int) < (b : Int) := by omega
    have hne : (b : Int) ≠ 0 := by omega
    have e := upN_mul ha h0
    have hdl : a / b ≤ a := Nat.div_le_self a b
    have hwd : IntKind.u64.wrap ((a : Int) / (b : Int)) = ((a / b : Nat) : Int) := by rw [← Int.natCast_ediv a b]; exact wrap_nat (Nat.le_trans hdl (Nat.le_trans ha hM))
    have hml : a % b < b := Nat.mod_lt a (by omega)
    have hwm : IntKind.u64.wrap ((a : Int) % (b : Int)) = ((a % b : Nat) : Int) := by rw [← Int.natCast_emod a b]; exact wrap_nat (by omega)
    have hwm' : (a : Int) % (b : Int) = ((a % b : Nat) : Int) := (Int.natCast_emod a b).symm
    by_cases h : a % b = 0
    · rw [if_pos h, Nat.add_zero] at e
      have HM := Lib.hid (rMul_any (a := a / b) (b := b) hs w)
      have HE : Hid (upN (gN s) a b = mulN (gN s) (a / b) b) := e
      clear e hml ha hM
      generalize mulN (gN s) (a / b) b = r at *
      generalize upN (gN s) a b = r2 at *
      generalize a / b = q at *
      rw [h] at hwm hwm'
      go_enter Tryz.func93, Tryz.ntmps93
      go_wp2_with fail
      refine HM.out.mono ?_
      rintro e w' ⟨rfl, hw⟩
      have hw := hw.symm
      subst hw
      go_wp2_with fail
      go_ret2
      exact ⟨by rw [HE.out]; rfl, rfl⟩
    · rw [if_neg h] at e
      have HM := Lib.hid (rMul_any (a := a / b + 1) (b := b) hs w)
      have HE : Hid (upN (gN s) a b = mulN (gN s) (a / b + 1) b) := e
      have hq : a / b + 1 ≤ 18446744073709551615 := by
        have := Nat.div_add_mod a b
        have h1 : 1 ≤ b := by omega
        have : a / b * 1 ≤ a / b * b := Nat.mul_le_mul_left _ h1
        rw [Nat.mul_comm b] at *
        omega
      have hw1 : IntKind.u64.wrap (((a / b : Nat) : Int) + 1) = ((a / b + 1 : Nat) : Int) := wrap_suc hq
      have hr0 : 0 < a % b := by omega
      clear e hml ha hM
      generalize mulN (gN s) (a / b + 1) b = r at *
      generalize upN (gN s) a b = r2 at *
      generalize a / b = q at *
      generalize a % b = rr at *
      go_enter Tryz.func93, Tryz.ntmps93
      go_wp2_with fail
      refine HM.out.mono ?_
      rintro e w' ⟨rfl, hw⟩
      have hw := hw.symm
      subst hw
      go_wp2_with fail
      go_ret2
      exact ⟨by rw [HE.out]; rfl, rfl⟩
end Go.Proofs.YtkhokajagglogaaGreat
