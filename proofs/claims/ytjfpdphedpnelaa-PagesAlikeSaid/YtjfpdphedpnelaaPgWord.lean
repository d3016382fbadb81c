/- Pages: the small functions (sums, units, numbers of entries). Own work. -/
import Derived.Test.YtjfpdphedpnelaaTake
import Derived.Test.YtjfpdphedpnelaaWkMake
import Derived.Shelf.Bits.Mul64
import Derived.Lib.Hide
import Derived.BigQuiet
import Derived.Deep.RegionHeld3
namespace Go.Proofs.Ytjfpdphedpnelaa
open Go.RowKit
set_option linter.unusedVariables false
def ren264 : Go.Shelf.Ren := ⟨fun | 264 => 53 | n => n, fun | 53 => 23 | 46 => 103 | n => n, fun | n => n⟩
theorem lays264 : Go.Proofs.Lays.n264 Try.prog ren264 := {
  mixed := by kernel_rfl
  f264 := Try.func53.trans (congrArg some (by kernel_rfl))
  t46 := Try.underlying103
  a46 := Try.isAgg103
  z46 := Try.sizeOf103
  v46 := Try.zeroValue103
  t53 := Try.underlying23
  a53 := Try.isAgg23
  z53 := Try.sizeOf23
  v53 := Try.zeroValue23 }
theorem mul64_any {x y : Nat} (hx : x ≤ 18446744073709551615) (hy : y ≤ 18446744073709551615) (w : World) :
    Calls Try.prog 53 #[.int .u64 (x : Int), .int .u64 (y : Int)] w fun e w' => e = .returned (.tuple #[.int .u64 ((x * y / 18446744073709551616 : Nat) : Int), .int .u64 ((x * y % 18446744073709551616 : Nat) : Int)]) ∧ w' = w :=
  Any.bits_Mul64 lays264 x y (by omega) (by omega) w
set_option maxRecDepth 100000 in
set_option maxHeartbeats 1000000 in
theorem to_any {x : Nat} (hx : x ≤ 18446744073709551615) (w : World) : Calls Try.prog 54 #[.int .u64 (x : Int)] w fun e w' => e = .returned (.tuple #[.int .u64 (x : Int), .bool true]) ∧ w' = w := by
  have HG : Hid (∀ W, Calls Try.prog 55 #[] W fun e w' => e = .returned (.int .u64 18446744073709551615) ∧ w' = W) := fun W => greatest_u64 W
  have j : (x : Int) ≤ 18446744073709551615 := by omega
  go_enter Try.func54, Try.ntmps54
  go_wp2_with (go_at_call 55; refine (HG.out _).mono ?_; rintro e w' ⟨rfl, hw⟩; have hw := hw.symm; subst hw)
  go_ret2
  exact ⟨rfl, rfl⟩
set_option maxRecDepth 100000 in
set_option maxHeartbeats 1000000 in
theorem mul_any {x y : Nat} (hx : x ≤ 18446744073709551615) (hy : y ≤ 18446744073709551615) (w : World) : Calls Try.prog 40 #[.int .u64 (x : Int), .int .u64 (y : Int)] w fun e w' => e = .returned (if x * y ≤ 18446744073709551615 then .tuple #[.int .u64 ((x * y : Nat) : Int), .bool true] else .tuple #[.int .u64 0, .bool false]) ∧ w' = w := by
  have HM := Lib.hid (mul64_any hx hy w)
  by_cases h : x * y ≤ 18446744073709551615
  · rw [if_pos h]
    have e1 : x * y / 18446744073709551616 = 0 := Nat.div_eq_of_lt (by omega)
    have e2 : x * y % 18446744073709551616 = x * y := Nat.mod_eq_of_lt (by omega)
    rw [e1, e2] at HM
    obtain ⟨P, hP⟩ : ∃ P, x * y = P := ⟨_, rfl⟩
    rw [hP] at HM h ⊢
    have HT := Lib.hid (to_any h w)
    clear e1 e2 hP
    go_enter Try.func40, Try.ntmps40
    go_wp2_with fail
    refine HM.out.mono ?_
    rintro e w' ⟨rfl, hw⟩
    subst hw
    go_wp2_with fail
    refine HT.out.mono ?_
    rintro e w2 ⟨rfl, hw⟩
    subst hw
    go_wp2_with fail
    go_ret2
    exact ⟨rfl, rfl⟩
  · rw [if_neg h]
    obtain ⟨D, hD⟩ : ∃ D, x * y / 18446744073709551616 = D := ⟨_, rfl⟩
    have hD0 : 0 < D := by rw [← hD]; exact Nat.div_pos (by omega) (by decide)
    rw [hD] at HM
    generalize x * y % 18446744073709551616 = R at HM
    have jD : (D : Int) ≠ 0 := by omega
    clear hD h
    go_enter Try.func40, Try.ntmps40
    go_wp2_with fail
    refine HM.out.mono ?_
    rintro e w' ⟨rfl, hw⟩
    subst hw
    go_wp2_with fail
    go_ret2
    exact ⟨rfl, rfl⟩
set_option maxRecDepth 100000 in
set_option maxHeartbeats 1000000 in
theorem add_any {x y : Nat} (hx : x ≤ 18446744073709551615) (hy : y ≤ 18446744073709551615) (w : World) : Calls Try.prog 41 #[.int .u64 (x : Int), .int .u64 (y : Int)] w fun e w' => e = .returned (if x + y ≤ 18446744073709551615 then .tuple #[.int .u64 ((x + y : Nat) : Int), .bool true] else .tuple #[.int .u64 0, .bool false]) ∧ w' = w := by
  have HG : Hid (∀ W, Calls Try.prog 55 #[] W fun e w' => e = .returned (.int .u64 18446744073709551615) ∧ w' = W) := fun W => greatest_u64 W
  have hs : IntKind.u64.wrap (18446744073709551615 - (x : Int)) = 18446744073709551615 - (x : Int) := by rw [IntKind.wrap_u64]; omega
  by_cases h : x + y ≤ 18446744073709551615
  · rw [if_pos h]
    have j : ¬ 18446744073709551615 - (x : Int) < (y : Int) := by omega
    have hw2 : IntKind.u64.wrap ((x : Int) + (y : Int)) = ((x + y : Nat) : Int) := by rw [IntKind.wrap_u64]; omega
    go_enter Try.func41, Try.ntmps41
    go_wp2_with (go_at_call 55; refine (HG.out _).mono ?_; rintro e w' ⟨rfl, hw⟩; have hw := hw.symm; subst hw)
    go_ret2
    exact ⟨rfl, rfl⟩
  · rw [if_neg h]
    have j : 18446744073709551615 - (x : Int) < (y : Int) := by omega
    go_enter Try.func41, Try.ntmps41
    go_wp2_with (go_at_call 55; refine (HG.out _).mono ?_; rintro e w' ⟨rfl, hw⟩; have hw := hw.symm; subst hw)
    go_ret2
    exact ⟨rfl, rfl⟩
/-- so many pages from an address on end at a bound, or ahead of it -/
def winB (a p bound : Nat) : Bool := decide (a + p * 4096 ≤ bound)
set_option maxRecDepth 100000 in
set_option maxHeartbeats 2000000 in
theorem within_any {a p bound : Nat} (ha : a ≤ 18446744073709551615) (hp : p ≤ 9223372036854775807) (hb : bound ≤ 18446744073709551615) (w : World) : Calls Try.prog 30 #[.int .u64 (a : Int), .int .i64 (p : Int), .int .u64 (bound : Int)] w fun e w' => e = .returned (.bool (winB a p bound)) ∧ w' = w := by
  have hw : IntKind.u64.wrap (p : Int) = (p : Int) := by rw [IntKind.wrap_u64]; omega
  have HM := Lib.hid (mul_any (x := p) (y := 4096) (by omega) (by omega) w)
  by_cases h1 : p * 4096 ≤ 18446744073709551615
  · rw [if_pos h1] at HM
    have HA := Lib.hid (add_any ha h1 w)
    by_cases h2 : a + p * 4096 ≤ 18446744073709551615
    · rw [if_pos h2] at HA
      by_cases h3 : a + p * 4096 ≤ bound
      · have e : winB a p bound = true := decide_eq_true h3
        rw [e]
        clear e
        generalize p * 4096 = q at *
        have j3 : ((a + q : Nat) : Int) ≤ (bound : Int) := by omega
        go_enter Try.func30, Try.ntmps30
        go_wp2_with fail
        refine HM.out.mono ?_
        rintro e w' ⟨rfl, hw'⟩
        subst hw'
        go_wp2_with fail
        refine HA.out.mono ?_
        rintro e w2 ⟨rfl, hw'⟩
        subst hw'
        generalize a + q = s at *
        go_wp2_with fail
        go_ret
        exact ⟨rfl, rfl⟩
      · have e : winB a p bound = false := decide_eq_false h3
        rw [e]
        clear e
        generalize p * 4096 = q at *
        have j3 : ¬ ((a + q : Nat) : Int) ≤ (bound : Int) := by omega
        go_enter Try.func30, Try.ntmps30
        go_wp2_with fail
        refine HM.out.mono ?_
        rintro e w' ⟨rfl, hw'⟩
        subst hw'
        go_wp2_with fail
        refine HA.out.mono ?_
        rintro e w2 ⟨rfl, hw'⟩
        subst hw'
        generalize a + q = s at *
        go_wp2_with fail
        go_ret
        exact ⟨rfl, rfl⟩
    · rw [if_neg h2] at HA
      have e : winB a p bound = false := decide_eq_false (by omega)
      rw [e]
      clear e
      generalize p * 4096 = q at *
      go_enter Try.func30, Try.ntmps30
      go_wp2_with fail
      refine HM.out.mono ?_
      rintro e w' ⟨rfl, hw'⟩
      subst hw'
      go_wp2_with fail
      refine HA.out.mono ?_
      rintro e w2 ⟨rfl, hw'⟩
      subst hw'
      go_wp2_with fail
      go_ret
      exact ⟨rfl, rfl⟩
  · rw [if_neg h1] at HM
    have e : winB a p bound = false := decide_eq_false (by omega)
    have HA := Lib.hid (add_any ha (show 0 ≤ 18446744073709551615 by omega) w)
    rw [if_pos (by omega)] at HA
    rw [e]
    clear e h1
    go_enter Try.func30, Try.ntmps30
    go_wp2_with fail
    refine HM.out.mono ?_
    rintro e w' ⟨rfl, hw'⟩
    subst hw'
    go_wp2_with fail
    refine HA.out.mono ?_
    rintro e w2 ⟨rfl, hw'⟩
    subst hw'
    go_wp2_with fail
    go_ret
    exact ⟨rfl, rfl⟩
/-- a row -/
structure L6 where
  v : Nat
  p : Nat
  n : Int
  big : Bool
  wr : Bool
  ex : Bool
def V6 (x : L6) : Value := .agg #[.int .u64 (x.v : Int), .int .u64 (x.p : Int), .int .i64 x.n, .bool x.big, .bool x.wr, .bool x.ex]
def unitF (x : L6) : Nat := if x.big = true then 2097152 else 4096
set_option maxRecDepth 100000 in
set_option maxHeartbeats 1000000 in
theorem unit_any (x : L6) (w : World) : Calls Try.prog 45 #[V6 x] w fun e w' => e = .returned (.int .u64 (unitF x : Int)) ∧ Below w.heap.size w w' := by
  obtain ⟨v, p, n, big, wr, ex⟩ := x
  unfold V6 unitF
  cases big with
  | true =>
    go_enter Try.func45, Try.ntmps45
    go_wp2_with fail
    go_ret
    exact ⟨rfl, (Below.refl _ _).alloc (Nat.le_refl _) _⟩
  | false =>
    go_enter Try.func45, Try.ntmps45
    go_wp2_with fail
    go_ret
    exact ⟨rfl, (Below.refl _ _).alloc (Nat.le_refl _) _⟩
set_option maxRecDepth 100000 in
set_option maxHeartbeats 1000000 in
theorem size_any {x : L6} {m : Nat} (hm : x.n = (m : Int)) (hs : m * 4096 ≤ 18446744073709551615) (w : World) : Calls Try.prog 44 #[V6 x] w fun e w' => e = .returned (.int .u64 ((m * 4096 : Nat) : Int)) ∧ Below w.heap.size w w' := by
  obtain ⟨v, p, n, big, wr, ex⟩ := x
  simp only at hm
  subst hm
  unfold V6
  have h1 : IntKind.u64.wrap (m : Int) = (m : Int) := by rw [IntKind.wrap_u64]; omega
  have h2 : IntKind.u64.wrap ((m : Int) * 4096) = ((m * 4096 : Nat) : Int) := by rw [IntKind.wrap_u64]; omega
  go_enter Try.func44, Try.ntmps44
  go_wp2_with fail
  go_ret
  exact ⟨rfl, (Below.refl _ _).alloc (Nat.le_refl _) _⟩
set_option maxRecDepth 100000 in
set_option maxHeartbeats 1000000 in
theorem leafLevel_any (b : Bool) (w : World) : Calls Try.prog 43 #[.bool b] w fun e w' => e = .returned (.int .i64 (if b = true then 1 else 2)) ∧ w' = w := by
  cases b with
  | true =>
    go_enter Try.func43, Try.ntmps43
    go_wp2_with fail
    go_ret
    exact ⟨rfl, rfl⟩
  | false =>
    go_enter Try.func43, Try.ntmps43
    go_wp2_with fail
    go_ret
    exact ⟨rfl, rfl⟩
def thrF (v l : Nat) : Nat := v / 2 ^ (30 - 9 * l)
set_option maxRecDepth 100000 in
set_option maxHeartbeats 1000000 in
theorem through_any (v l : Nat) (hl : l ≤ 2) (w : World) : Calls Try.prog 50 #[.int .u64 (v : Int), .int .i64 (l : Int)] w fun e w' => e = .returned (.int .u64 (thrF v l : Int)) ∧ w' = w := by
  unfold thrF
  rcases (by omega : l = 0 ∨ l = 1 ∨ l = 2) with rfl | rfl | rfl
  all_goals
    go_enter Try.func50, Try.ntmps50
    go_wp2_with fail
    go_ret
    exact ⟨by simp, rfl⟩
set_option maxRecDepth 100000 in
set_option maxHeartbeats 1000000 in
theorem number_any (v l : Nat) (hl : l ≤ 2) (w : World) : Calls Try.prog 56 #[.int .u64 (v : Int), .int .i64 (l : Int)] w fun e w' => e = .returned (.int .u64 ((thrF v l % 512 : Nat) : Int)) ∧ w' = w := by
  have HT := Lib.hid (through_any v l hl w)
  generalize thrF v l = t at *
  have jd : (t : Int).tmod 512 = ((t % 512 : Nat) : Int) := rfl
  go_enter Try.func56, Try.ntmps56
  go_wp2_with fail
  refine HT.out.mono ?_
  rintro e w' ⟨rfl, hw⟩
  subst hw
  go_wp2_with fail
  go_ret
  exact ⟨rfl, rfl⟩
end Go.Proofs.Ytjfpdphedpnelaa
