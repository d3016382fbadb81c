/- WordNumbers: numbers as bytes (made by gen_wn.py of word's templates), plain sums. Own work. -/
import Derived.Test.YtkhokajagglogaaGreatSWord
namespace Go.Proofs.YtkhokajagglogaaGreat
open Go.RowKit
namespace Pl
/-- a number's bytes, the lowest first -/
def le : Nat → Nat → List Nat
  | 0, _ => []
  | k + 1, n => n % 256 :: le k (n / 256)
end Pl
namespace Pl
theorem le_length (k n : Nat) : (le k n).length = k := by
  induction k generalizing n with
  | zero => rfl
  | succ k ih => simp [le, ih]
end Pl
namespace Pl
theorem le_small (k n : Nat) : ∀ z ∈ le k n, z < 256 := by
  induction k generalizing n with
  | zero => intro z hz; cases hz
  | succ k ih =>
    intro z hz
    rcases List.mem_cons.1 hz with rfl | h
    · omega
    · exact ih _ z h
end Pl
namespace Pl
/-- the number without its k lowest bytes -/
def shr : Nat → Nat → Nat
  | 0, n => n
  | k + 1, n => shr k n / 256
end Pl
namespace Pl
theorem le_snoc (k n : Nat) : le (k + 1) n = le k n ++ [shr k n % 256] := by
  induction k generalizing n with
  | zero => rfl
  | succ k ih =>
    have e : ∀ k n, shr k (n / 256) = shr (k + 1) n := by
      intro k n
      induction k with
      | zero => rfl
      | succ k ih2 => show shr k (n / 256) / 256 = _; rw [ih2]; rfl
    rw [show le (k + 1 + 1) n = n % 256 :: le (k + 1) (n / 256) from rfl, ih, e]
    rfl
end Pl
namespace Pl
theorem shr_le (k n : Nat) : shr k n ≤ n := by
  induction k with
  | zero => exact Nat.le_refl _
  | succ k ih => show shr k n / 256 ≤ n; omega
end Pl
namespace Pl
/-- the number that m bytes from the k-th on are -/
def acc (zs : List Nat) : Nat → Nat → Nat
  | _, 0 => 0
  | k, m + 1 => zs.getD k 0 + 256 * acc zs (k + 1) m
end Pl
namespace Pl
def num (m : Nat) (zs : List Nat) : Nat := acc zs 0 m
end Pl
namespace Pl
theorem acc_lt {zs : List Nat} (h : ∀ z ∈ zs, z < 256) (k m : Nat) : acc zs k m < 256 ^ m := by
  induction m generalizing k with
  | zero => simp [acc]
  | succ m ih =>
    have h1 := mem_getD (k := k) h
    have h2 := ih (k + 1)
    show zs.getD k 0 + 256 * acc zs (k + 1) m < 256 ^ (m + 1)
    rw [Nat.pow_succ]
    omega
end Pl
namespace Pl
theorem acc_cons (x : Nat) (zs : List Nat) (k m : Nat) : acc (x :: zs) (k + 1) m = acc zs k m := by
  induction m generalizing k with
  | zero => rfl
  | succ m ih => show (x :: zs).getD (k + 1) 0 + _ = zs.getD k 0 + _; rw [ih]; rfl
end Pl
namespace Pl
/-- what le lays num reads -/
theorem num_le (m n : Nat) (r : List Nat) (h : n < 256 ^ m) : num m (le m n ++ r) = n := by
  induction m generalizing n with
  | zero => simp [num, acc]; simp at h; omega
  | succ m ih =>
    have hd : n / 256 < 256 ^ m := by rw [Nat.pow_succ] at h; exact Nat.div_lt_of_lt_mul (by omega)
    have e := ih (n / 256) hd
    show acc (n % 256 :: (le m (n / 256) ++ r)) 0 (m + 1) = n
    show n % 256 + 256 * acc (n % 256 :: (le m (n / 256) ++ r)) (0 + 1) m = n
    rw [acc_cons]
    rw [show acc (le m (n / 256) ++ r) 0 m = n / 256 from e]
    omega
end Pl
theorem mod256 (r : Nat) : ((r % 256 : Nat) : Int) = (r : Int) % 256 := by omega
theorem div256 (r : Nat) : ((r / 256 : Nat) : Int) = (r : Int) / 256 := by omega
theorem row_one (w : World) (r : Nat) : Row (w.alloc (.cells #[.int .u8 ((r : Int) % 256)] 5)) w.heap.size [r % 256] := by
  rw [Row, show (w.alloc (.cells #[.int .u8 ((r : Int) % 256)] 5)).heap[w.heap.size]? = _ from heap_alloc_new w _]
  rw [← mod256]
  rfl
theorem sl_one (w : World) (r : Nat) : Sl (w.alloc (.cells #[.int .u8 ((r : Int) % 256)] 5)) (.slice (some ⟨w.heap.size, 0, none⟩) 1 1) [r % 256] :=
  (row_one w r).sl (by simp; omega) 0 1 1 (by simp) (by omega) (by simp [maxLen])
theorem or_byte (s z : Nat) (hs : s < 72057594037927936) (hz : z < 256) : bits .or .u64 ((s : Int) * 256) (z : Int) = ((z + 256 * s : Nat) : Int) := by
  have h := u64_or_nat (s * 256) z (by omega) (by omega)
  rw [nat_join 8 (s * 256) z (by simp) hz] at h
  rw [Int.natCast_mul] at h
  rw [show z + 256 * s = s * 256 + z from by omega]
  exact h

/-- the greatest number of so many bytes -/
def gN : Nat → Nat
  | 0 => 0
  | k + 1 => gN k * 256 + 255
theorem gN_le : ∀ k, k ≤ 8 → gN k ≤ 18446744073709551615 := by decide
theorem gN_pow : ∀ k, k ≤ 8 → gN k + 1 = 256 ^ k := by decide
def addN (M a b : Nat) : Nat × Bool := if a + b ≤ M then (a + b, true) else (0, false)
def subN (a b : Nat) : Nat × Bool := if b ≤ a then (a - b, true) else (0, false)
def mulN (M a b : Nat) : Nat × Bool := if a * b ≤ M then (a * b, true) else (0, false)
def upN (M a b : Nat) : Nat × Bool := if b = 0 then (0, false) else if a % b = 0 then (a, true) else addN M a (b - a % b)
def toN (M a : Nat) : Nat × Bool := if a ≤ M then (a, true) else (0, false)
theorem addN_le (M a b : Nat) : (addN M a b).1 ≤ M := by
  unfold addN; split
  · assumption
  · exact Nat.zero_le _
theorem mulN_le (M a b : Nat) : (mulN M a b).1 ≤ M := by
  unfold mulN; split
  · assumption
  · exact Nat.zero_le _
theorem toN_le (M a : Nat) : (toN M a).1 ≤ M := by
  unfold toN; split
  · assumption
  · exact Nat.zero_le _
theorem subN_le {M a b : Nat} (h : a ≤ M) : (subN a b).1 ≤ M := by
  unfold subN; split
  · show a - b ≤ M; omega
  · exact Nat.zero_le _
theorem upN_le {M a b : Nat} (h : a ≤ M) : (upN M a b).1 ≤ M := by
  unfold upN; split
  · exact Nat.zero_le _
  · split
    · exact h
    · exact addN_le _ _ _
/-- Up, as the document has it -/
theorem upN_mul {M a b : Nat} (ha : a ≤ M) (hb : b ≠ 0) : upN M a b = mulN M (a / b + if a % b = 0 then 0 else 1) b := by
  unfold upN mulN addN
  rw [if_neg hb]
  have e := Nat.div_add_mod a b
  rw [Nat.mul_comm] at e
  have hl : a % b < b := Nat.mod_lt a (by omega)
  by_cases h : a % b = 0
  · rw [if_pos h, if_pos h, Nat.add_zero]
    have e2 : a / b * b = a := by omega
    rw [e2, if_pos ha]
  · rw [if_neg h, if_neg h, Nat.add_mul, Nat.one_mul]
    have e2 : a / b * b + b = a + (b - a % b) := by omega
    rw [e2]
end Go.Proofs.YtkhokajagglogaaGreat
