import Derived.WalkKit
import Derived.Laws.BitsAllLaws
/- Bits of an entry, as numbers: plain mathematics, no program. Own work. -/
namespace Go.Proofs.Ytgjamnhepbblhaa.Wk
theorem land_mask (e k n : Nat) : e &&& ((2 ^ n - 1) * 2 ^ k) = e / 2 ^ k % 2 ^ n * 2 ^ k := by
  apply Nat.eq_of_testBit_eq
  intro i
  simp only [Nat.testBit_and, Nat.testBit_mul_two_pow, Nat.testBit_two_pow_sub_one, Nat.testBit_mod_two_pow, Nat.testBit_div_two_pow]
  by_cases h : k ≤ i
  · rw [show i - k + k = i by omega]
    simp [h, Bool.and_comm]
  · simp [h]
/-- the address of a page -/
def fr (e : Nat) : Nat := e / 4096 % 1048576 * 4096
theorem and1 (e : Nat) : e &&& 1 = e % 2 := by simp
theorem and2 (e : Nat) : e &&& 2 = e / 2 % 2 * 2 := land_mask e 1 1
theorem and4 (e : Nat) : e &&& 4 = e / 4 % 2 * 4 := land_mask e 2 1
theorem and8 (e : Nat) : e &&& 8 = e / 8 % 2 * 8 := land_mask e 3 1
theorem and14 (e : Nat) : e &&& 14 = e / 2 % 8 * 2 := land_mask e 1 3
theorem and6 (e : Nat) : e &&& 6 = e / 2 % 4 * 2 := land_mask e 1 2
theorem andF (e : Nat) : e &&& 4294963200 = fr e := land_mask e 12 20
theorem andN (e : Nat) (he : e < 18446744073709551616) : e &&& 18446744069414588400 = 0 ↔ e = fr e + e % 16 := by
  have h1 := land_mask e 4 8
  have h2 := land_mask e 32 32
  rw [show (18446744069414588400 : Nat) = (2 ^ 8 - 1) * 2 ^ 4 ||| (2 ^ 32 - 1) * 2 ^ 32 by decide, Nat.and_or_distrib_left, h1, h2, Nat.or_eq_zero_iff]
  unfold fr
  omega
/-- the bits in one -/
def nbit (b : Bool) (n : Nat) : Nat := if b then n else 0
def raw (F : Nat) (t : Bool × Bool × Bool) : Nat := 1 ||| F ||| nbit t.2.1 2 ||| nbit t.2.2 4 ||| nbit t.1 8
theorem or4096 {F : Nat} (k : Nat) (hF : F % 4096 = 0) (hk : k < 4096) : F ||| k = F + k := Go.nat_join 12 F k hF hk
theorem raw_page {F : Nat} (hF : F % 4096 = 0) (b w x : Bool) : raw F (b, w, x) = F + (1 + nbit w 2 + nbit x 4 + nbit b 8) := by
  have : raw F (b, w, x) = F ||| (1 ||| nbit w 2 ||| nbit x 4 ||| nbit b 8) := by
    simp only [raw]
    rw [Nat.or_comm 1 F]
    simp only [Nat.or_assoc]
  rw [this, or4096 _ hF (by cases w <;> cases x <;> cases b <;> decide)]
  cases w <;> cases x <;> cases b <;> rfl
def bit1 (e : Nat) : Bool := e / 2 % 2 == 1
def bit2 (e : Nat) : Bool := e / 4 % 2 == 1
def bit3 (e : Nat) : Bool := e / 8 % 2 == 1
/-- no other bit is set -/
def bare (e : Nat) : Bool := e == fr e + e % 16
theorem raw_back {e : Nat} (h1 : e % 2 = 1) (hb : bare e = true) : raw (fr e) (bit3 e, bit1 e, bit2 e) = e := by
  rw [raw_page (by unfold fr; omega)]
  have hb : e = fr e + e % 16 := by simpa [bare] using hb
  have c1 : nbit (bit1 e) 2 = e / 2 % 2 * 2 := by
    rcases Nat.mod_two_eq_zero_or_one (e / 2) with h | h <;> simp [bit1, nbit, h]
  have c2 : nbit (bit2 e) 4 = e / 4 % 2 * 4 := by
    rcases Nat.mod_two_eq_zero_or_one (e / 4) with h | h <;> simp [bit2, nbit, h]
  have c3 : nbit (bit3 e) 8 = e / 8 % 2 * 8 := by
    rcases Nat.mod_two_eq_zero_or_one (e / 8) with h | h <;> simp [bit3, nbit, h]
  rw [c1, c2, c3]
  omega
def sound (e : Nat) (l : Int) : Bool := bare e && (if l = 0 then e / 2 % 8 == 0 else if l = 2 then !bit3 e else if bit3 e then fr e % 2097152 == 0 else e / 2 % 4 == 0)
abbrev Ent := Nat × Bool × Bool × Bool × Bool
def no : Ent := (0, false, false, false, false)
/-- what an entry says -/
def says (e : Nat) (l : Int) : Ent := (fr e, l == 0 || (l == 1 && !bit3 e), bit3 e, bit1 e, bit2 e)
def entB (e : Nat) (l : Int) : Ent × Int :=
  if l < 0 ∨ 2 < l then (no, 1) else if e % 2 = 0 then (no, 41) else if sound e l then (says e l, 0) else (no, 42)
def rawE (x : Ent) : Nat := raw x.1 (x.2.2.1, x.2.2.2.1, x.2.2.2.2)
def makeB (x : Ent) (l : Int) : Nat × Int :=
  if l < 0 ∨ 2 < l then (0, 1) else if entB (rawE x) l = (x, 0) then (rawE x, 0) else (0, 42)
theorem ent_back {e : Nat} {l : Int} {y : Ent} (h : entB e l = (y, 0)) : makeB y l = (e, 0) := by
  have h0 := h
  unfold entB at h
  split at h
  · cases h
  · rename_i hl
    split at h
    · cases h
    · rename_i ho
      split at h
      · rename_i hs
        have hb : bare e = true := by unfold sound at hs; rw [Bool.and_eq_true] at hs; exact hs.1
        have hr : rawE y = e := by cases h; exact raw_back (by omega) hb
        rw [makeB, if_neg hl, hr, if_pos h0]
      · cases h
theorem make_back {n : Nat} {l : Int} {x : Ent} (h : makeB x l = (n, 0)) : entB n l = (x, 0) := by
  unfold makeB at h
  split at h
  · cases h
  · split at h
    · rename_i h1; cases h; exact h1
    · cases h
theorem fr_lt (e : Nat) : fr e < 4294967296 := by unfold fr; omega
theorem ent_lt {e : Nat} {l : Int} {y : Ent} {k : Int} (h : entB e l = (y, k)) : y.1 < 4294967296 ∧ y.1 % 4096 = 0 := by
  unfold entB at h
  have := fr_lt e
  have h2 : fr e % 4096 = 0 := by unfold fr; omega
  split at h
  · cases h; exact ⟨by decide, rfl⟩
  · split at h
    · cases h; exact ⟨by decide, rfl⟩
    · split at h
      · cases h; exact ⟨this, h2⟩
      · cases h; exact ⟨by decide, rfl⟩
end Go.Proofs.Ytgjamnhepbblhaa.Wk
