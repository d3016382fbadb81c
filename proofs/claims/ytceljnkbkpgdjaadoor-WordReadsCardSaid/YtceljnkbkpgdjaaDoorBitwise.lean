/- The check sum bit by bit is the check sum by fours: plain mathematics. -/
import Derived.Test.YtceljnkbkpgdjaaDoorPlain
namespace Go.Proofs.YtceljnkbkpgdjaaDoor
namespace Pl
/-- one bit goes out -/
def bst (r : Nat) : Nat := if r % 2 = 1 then (r / 2) ^^^ 2197175160 else r / 2
def bsteps : Nat → Nat → Nat
  | 0, r => r
  | k + 1, r => bst (bsteps k r)
theorem xor_half (a b : Nat) : (a ^^^ b) / 2 = a / 2 ^^^ b / 2 := by
  have h := Nat.shiftRight_xor_distrib (a := a) (b := b) (i := 1)
  simpa [Nat.shiftRight_eq_div_pow] using h
theorem bst_xor (a b : Nat) : bst (a ^^^ b) = bst a ^^^ bst b := by
  have ha := Nat.mod_two_eq_one_iff_testBit_zero (x := a)
  have hb := Nat.mod_two_eq_one_iff_testBit_zero (x := b)
  have hab := Nat.mod_two_eq_one_iff_testBit_zero (x := a ^^^ b)
  rw [Nat.testBit_xor] at hab
  simp only [bst, xor_half, hab, ha, hb]
  cases a.testBit 0 <;> cases b.testBit 0
  · rfl
  · exact Nat.xor_assoc _ _ _
  · exact (Nat.xor_assoc _ _ _).trans ((congrArg _ (Nat.xor_comm _ _)).trans (Nat.xor_assoc _ _ _).symm)
  · show a / 2 ^^^ b / 2 = (a / 2 ^^^ 2197175160) ^^^ (b / 2 ^^^ 2197175160)
    rw [Nat.xor_comm (b / 2), Nat.xor_assoc, ← Nat.xor_assoc 2197175160, Nat.xor_self, Nat.zero_xor]
theorem bst_two (y : Nat) : bst (2 * y) = y := by
  simp [bst]
theorem bsteps_xor (k a b : Nat) : bsteps k (a ^^^ b) = bsteps k a ^^^ bsteps k b := by
  induction k with
  | zero => rfl
  | succ k ih => simp only [bsteps, ih, bst_xor]
theorem bsteps_four (q : Nat) : bsteps 4 (16 * q) = q := by
  simp only [bsteps]
  rw [show 16 * q = 2 * (2 * (2 * (2 * q))) from by omega, bst_two, bst_two, bst_two, bst_two]
theorem split16 (x : Nat) : x = (16 * (x / 16)) ^^^ (x % 16) := by
  have h1 : 16 * (x / 16) ||| x % 16 = 16 * (x / 16) + x % 16 := nat_join 4 _ _ (by simp) (Nat.mod_lt _ (by decide))
  have h2 : 16 * (x / 16) ^^^ x % 16 = 16 * (x / 16) ||| x % 16 := by
    apply Nat.eq_of_testBit_eq
    intro i
    rw [Nat.testBit_xor, Nat.testBit_or]
    have e1 : (x % 16).testBit i = (decide (i < 4) && x.testBit i) := Nat.testBit_mod_two_pow x 4 i
    have e2 : (16 * (x / 16)).testBit i = (decide (4 ≤ i) && (x / 16).testBit (i - 4)) := Nat.testBit_two_pow_mul (i := 4)
    rw [e1, e2]
    by_cases h : i < 4
    · simp [h, Nat.not_le.2 h]
    · simp [h]
  rw [h2, h1]
  omega
theorem nib_small : ∀ t : Fin 16, bsteps 4 t.val = tab.getD t.val 0 := by decide
theorem bsteps_nib (x : Nat) : bsteps 4 x = nib x := by
  conv => lhs; rw [split16 x]
  rw [bsteps_xor, bsteps_four, nib_small ⟨x % 16, Nat.mod_lt _ (by decide)⟩]
  rfl
theorem bsteps_eight (x : Nat) : bsteps 8 x = nib (nib x) := by
  rw [← bsteps_nib x, ← bsteps_nib (bsteps 4 x)]; rfl
theorem step_eight (r z : Nat) : stepB r z = bsteps 8 (r ^^^ z) := by rw [bsteps_eight]; rfl
theorem bst_lt {r : Nat} (h : r < 4294967296) : bst r < 4294967296 := by
  unfold bst
  split
  · exact xor_lt (by omega) (by decide)
  · omega
theorem bsteps_lt (k : Nat) {r : Nat} (h : r < 4294967296) : bsteps k r < 4294967296 := by
  induction k with
  | zero => exact h
  | succ k ih => exact bst_lt ih
end Pl
end Go.Proofs.YtceljnkbkpgdjaaDoor
