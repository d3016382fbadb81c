/- Floats of whole numbers: a quotient is told. Own work. -/
import Derived.Test.YtmgekglndjigiaaSWord
import Derived.Laws.FloatArith
namespace Go.Proofs.Ytmgekglndjigiaa
open Go.RowKit Ieee
theorem infR : double.infRung = 9218868437227405312 := by decide
theorem bin2 : double.binade = 4503599627370496 := by decide
theorem sigW : double.signWeight = 9223372036854775808 := by decide
/-- a word that is no NaN -/
theorem read_word (r : Nat) (h : r ≤ 9218868437227405312) : (∃ m e, double.read r = .number false m e ∧ (4503599627370496 ≤ r → m ≠ 0)) ∨ double.read r = .infinity false := by
  unfold Format.read
  rw [sigW, bin2, infR]
  have h1 : r / 9223372036854775808 % 2 = 0 := by omega
  have h2 : r % 9223372036854775808 = r := by omega
  simp only [h1, h2]
  by_cases a : r < 4503599627370496
  · rw [if_pos a]
    exact .inl ⟨_, _, rfl, fun h => by omega⟩
  · rw [if_neg a]
    by_cases b : r < 9218868437227405312
    · rw [if_pos b]
      exact .inl ⟨_, _, rfl, fun _ => by omega⟩
    · rw [if_neg b, if_pos (by omega)]
      exact .inr rfl
theorem cut_le (n d : Nat) (b : Nat) (h : n / (1 <<< min d (n.log2 + 2)) ≤ b) : Toward.even.cut false n d ≤ b + 1 := by
  unfold Toward.cut
  simp only
  have : ∀ x : Bool, x.toNat ≤ 1 := by decide
  have := this (decide (1 <<< min d (n.log2 + 2) < 2 * (n % (1 <<< min d (n.log2 + 2)))) || (1 <<< min d (n.log2 + 2) == 2 * (n % (1 <<< min d (n.log2 + 2))) && n / (1 <<< min d (n.log2 + 2)) % 2 == 1))
  omega
/-- the word of a whole number -/
theorem write_nat (n : Nat) (h0 : n ≠ 0) (h : n < 2 ^ 63) : ∃ r, double.write (.number false n 0) = r ∧ 4503599627370496 ≤ r ∧ r < 9218868437227405312 := by
  refine ⟨_, rfl, ?_⟩
  show 4503599627370496 ≤ double.nearest false n 0 ∧ double.nearest false n 0 < 9218868437227405312
  unfold Format.nearest
  rw [if_neg h0]
  have hl : double.leastPlace = -1074 := by decide
  have hf : double.fractionBits = 52 := rfl
  have hL : n.log2 < 63 := (Nat.log2_lt h0).2 h
  have hlt : n < 2 ^ (n.log2 + 1) := Nat.lt_log2_self
  rw [hl, hf, bin2, infR]
  have hw : ∀ k, double.word false k = k := fun k => rfl
  simp only [hw]
  generalize hLg : n.log2 = L at *
  have e1 : max (0 + (L : Int) - ((52 : Nat) : Int)) (-1074) = (L : Int) - 52 := by omega
  rw [e1]
  have e2 : ((L : Int) - 52 - -1074).toNat = L + 1022 := by omega
  rw [e2]
  have hk : Toward.even.cut false (n <<< (0 - ((L : Int) - 52)).toNat) ((L : Int) - 52 - 0).toNat ≤ 9007199254740993 := by
    refine cut_le _ _ 9007199254740992 ?_
    by_cases hc : L ≤ 52
    · rw [show (0 - ((L : Int) - 52)).toNat = 52 - L by omega, show ((L : Int) - 52 - 0).toNat = 0 by omega, Nat.zero_min, Nat.shiftLeft_zero, Nat.div_one, Nat.shiftLeft_eq]
      have h1 : n * 2 ^ (52 - L) ≤ 2 ^ (L + 1) * 2 ^ (52 - L) := Nat.mul_le_mul_right _ (Nat.le_of_lt hlt)
      rw [← Nat.pow_add, show L + 1 + (52 - L) = 53 by omega] at h1
      exact h1
    · rw [show (0 - ((L : Int) - 52)).toNat = 0 by omega, show ((L : Int) - 52 - 0).toNat = L - 52 by omega, Nat.shiftLeft_zero, hLg, show min (L - 52) (L + 2) = L - 52 by omega, Nat.shiftLeft_eq, Nat.one_mul]
      have h1 : n < 2 ^ (L - 52) * 2 ^ 53 := by
        rw [← Nat.pow_add, show L - 52 + 53 = L + 1 by omega]
        exact hlt
      exact Nat.le_of_lt (Nat.div_lt_of_lt_mul h1)
  omega
/-- a whole number as a float, read -/
theorem read_nat (n : Nat) (h : n < 2 ^ 63) : ∃ m e, double.read (double.write (.number false n 0)) = .number false m e ∧ (n ≠ 0 → m ≠ 0) := by
  by_cases h0 : n = 0
  · subst h0
    exact ⟨_, _, by rfl, fun h => absurd rfl h⟩
  · obtain ⟨r, hr, r1, r2⟩ := write_nat n h0 h
    rw [hr]
    rcases read_word r (by omega) with ⟨m, e, h1, h2⟩ | h1
    · exact ⟨m, e, h1, fun _ => h2 r1⟩
    · exfalso
      unfold Format.read at h1
      rw [sigW, bin2, infR] at h1
      have a1 : r / 9223372036854775808 % 2 = 0 := by omega
      have a2 : r % 9223372036854775808 = r := by omega
      simp only [a1, a2] at h1
      rw [if_neg (by omega), if_pos (by omega)] at h1
      cases h1
/-- the nearest word of a positive number is no NaN -/
theorem near_le (m : Nat) (p : Int) : double.nearest false m p ≤ 9218868437227405312 := by
  unfold Format.nearest
  have hw : ∀ k, double.word false k = k := fun k => rfl
  split
  · rw [hw]; exact Nat.zero_le _
  · simp only [hw, infR]
    exact Nat.min_le_right _ _
/-- a quotient of whole numbers is told, and is the same as itself -/
theorem quo_some {b m : Nat} (hb : b < 2 ^ 63) (hm : m < 2 ^ 63) (h0 : m ≠ 0) : ∃ r, floatBits .quo .f64 (floatOfInt .f64 (b : Int)) (floatOfInt .f64 (m : Int)) = some r ∧ double.order r r = some .eq := by
  obtain ⟨m1, e1, h1, _⟩ := read_nat b hb
  obtain ⟨m2, e2, h2, h3⟩ := read_nat m hm
  have hb' : floatOfInt .f64 (b : Int) = double.write (.number false b 0) := by
    show double.nearest (decide ((b : Int) < 0)) (b : Int).natAbs 0 = _
    rw [show decide ((b : Int) < 0) = false from decide_eq_false (by omega)]
    rfl
  have hm' : floatOfInt .f64 (m : Int) = double.write (.number false m 0) := by
    show double.nearest (decide ((m : Int) < 0)) (m : Int).natAbs 0 = _
    rw [show decide ((m : Int) < 0) = false from decide_eq_false (by omega)]
    rfl
  rw [hb', hm']
  obtain ⟨M, E, hq⟩ : ∃ M E, Datum.quotient (double.fractionBits + 2) (.number false m1 e1) (.number false m2 e2) = some (.number false M E) := by
    unfold Datum.quotient
    simp only
    rw [if_neg (h3 h0)]
    exact ⟨_, _, rfl⟩
  refine ⟨double.nearest false M E, ?_, ?_⟩
  · show double.div (double.write (.number false b 0)) (double.write (.number false m 0)) = some _
    unfold Format.div
    rw [h1, h2, hq]
    rfl
  · unfold Format.order
    rcases read_word _ (near_le M E) with ⟨x, y, e, _⟩ | e
    · rw [e]
      unfold Datum.order
      simp
    · rw [e]
      rfl
end Go.Proofs.Ytmgekglndjigiaa
