/- WordNumbers: numbers as bytes (made by gen_wn.py of word's templates), plain sums. Own work. -/
import Derived.Test.YtceljnkbkpgdjaaDoorSWord
namespace Go.Proofs.YtceljnkbkpgdjaaDoor
open Go.RowKit
def gN : Nat → Nat
  | 0 => 0
  | k + 1 => gN k * 256 + 255
theorem gN_le : ∀ k, k ≤ 8 → gN k ≤ 18446744073709551615 := by decide
theorem gN_pow : ∀ k, k ≤ 8 → gN k + 1 = 256 ^ k := by decide
def addN (M a b : Nat) : Nat × Bool := if a + b ≤ M then (a + b, true) else (0, false)
def subN (a b : Nat) : Nat × Bool := if b ≤ a then (a - b, true) else (0, false)
def mulN (M a b : Nat) : Nat × Bool := if a * b ≤ M then (a * b, true) else (0, false)
def upN (M a b : Nat) : Nat × Bool := if b = 0 then (0, false) else if a % b = 0 then (a, true) else addN M a (b - a % b)
def toN (M a : Nat) : Nat × Bool := if a ≤ M then (a, true) else (0, false)
theorem addN_le (M a b : Nat) : (addN M a b).1 ≤ M := by
  unfold addN; split
  · assumption
  · exact Nat.zero_le _
theorem mulN_le (M a b : Nat) : (mulN M a b).1 ≤ M := by
  unfold mulN; split
  · assumption
  · exact Nat.zero_le _
theorem toN_le (M a : Nat) : (toN M a).1 ≤ M := by
  unfold toN; split
  · assumption
  · exact Nat.zero_le _
theorem subN_le {M a b : Nat} (h : a ≤ M) : (subN a b).1 ≤ M := by
  unfold subN; split
  · show a - b ≤ M; omega
  · exact Nat.zero_le _
theorem upN_le {M a b : Nat} (h : a ≤ M) : (upN M a b).1 ≤ M := by
  unfold upN; split
  · exact Nat.zero_le _
  · split
    · exact h
    · exact addN_le _ _ _
/-- Up, as the document has it -/
theorem upN_mul {M a b : Nat} (ha : a ≤ M) (hb : b ≠ 0) : upN M a b = mulN M (a / b + if a % b = 0 then 0 else 1) b := by
  unfold upN mulN addN
  rw [if_neg hb]
  have e := Nat.div_add_mod a b
  rw [Nat.mul_comm] at e
  have hl : a % b < b := Nat.mod_lt a (by omega)
  by_cases h : a % b = 0
  · rw [if_pos h, if_pos h, Nat.add_zero]
    have e2 : a / b * b = a := by omega
    rw [e2, if_pos ha]
  · rw [if_neg h, if_neg h, Nat.add_mul, Nat.one_mul]
    have e2 : a / b * b + b = a + (b - a % b) := by omega
    rw [e2]
end Go.Proofs.YtceljnkbkpgdjaaDoor
