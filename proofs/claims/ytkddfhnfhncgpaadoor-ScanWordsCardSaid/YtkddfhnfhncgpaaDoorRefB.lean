/- The document's own answer to chapter 5: End, Blank. -/
import Derived.Test.YtkddfhnfhncgpaaDoorRefA
import Derived.Test.YtkddfhnfhncgpaaDoorScWord
namespace Go.Proofs.YtkddfhnfhncgpaaDoor
open Go.RowKit Sc
theorem sb_cons (s : ByteArray) (k : Nat) (h : k < s.size) : (sb s).drop k = s[k].toNat :: (sb s).drop (k + 1) := by
  rw [Sc.drop_getD (by rw [sb_length]; exact h), sb_get s k h]
theorem sb_over (s : ByteArray) (k : Nat) (h : ¬ k < s.size) : (sb s).drop k = [] := List.drop_eq_nil_of_le (by rw [sb_length]; omega)
/-- how far a run has been gone through -/
def EndAt (s : ByteArray) (k goal : Nat) : Prop := k + Sc.runN ((sb s).drop k) = goal
theorem EndAt.next {s : ByteArray} {k goal : Nat} (h : EndAt s k goal) (hk : k < s.size) (hw : isW s[k].toNat = true) : EndAt s (k + 1) goal := by
  unfold EndAt at h ⊢
  rw [sb_cons s k hk, Sc.runN_cons, if_pos hw] at h
  omega
theorem EndAt.stop {s : ByteArray} {k goal : Nat} (h : EndAt s k goal) (hk : k < s.size) (hw : isW s[k].toNat = false) : goal = k := by
  unfold EndAt at h
  rw [sb_cons s k hk, Sc.runN_cons, if_neg (by rw [hw]; decide)] at h
  omega
theorem EndAt.over {s : ByteArray} {k goal : Nat} (h : EndAt s k goal) (hk : ¬ k < s.size) : goal = k := by
  unfold EndAt at h
  rw [sb_over s k hk] at h
  exact h.symm
/-- how far blanks and comments have been gone through -/
def BlankAt (s : ByteArray) (c : Bool) (k goal : Nat) : Prop := k + skipN c ((sb s).drop k) = goal
theorem BlankAt.over {s : ByteArray} {c : Bool} {k goal : Nat} (h : BlankAt s c k goal) (hk : ¬ k < s.size) : goal = k := by
  unfold BlankAt at h
  rw [sb_over s k hk] at h
  exact h.symm
theorem BlankAt.off {s : ByteArray} {k goal : Nat} (h : BlankAt s true k goal) (hk : ¬ k < s.size) : BlankAt s false k goal := by
  unfold BlankAt at *
  rw [sb_over s k hk] at *
  exact h
theorem BlankAt.next {s : ByteArray} {k goal : Nat} (h : BlankAt s true k goal) (hk : k < s.size) (hz : s[k].toNat ≠ 10) : BlankAt s true (k + 1) goal := by
  unfold BlankAt at *
  rw [sb_cons s k hk, skipN_cons, if_neg hz, if_pos (.inl rfl)] at h
  omega
theorem BlankAt.line {s : ByteArray} {k goal : Nat} (h : BlankAt s true k goal) (hk : k < s.size) (hz : s[k].toNat = 10) : BlankAt s false k goal := by
  unfold BlankAt at *
  rw [sb_cons s k hk, skipN_cons, if_pos hz] at *
  exact h
theorem BlankAt.hash {s : ByteArray} {k goal : Nat} (h : BlankAt s false k goal) (hk : k < s.size) (hz : s[k].toNat = 35) : BlankAt s true k goal := by
  unfold BlankAt at *
  rw [sb_cons s k hk, skipN_cons, hz] at h
  rw [sb_cons s k hk, skipN_cons, hz]
  exact h
theorem blank_cls {b : Nat} (hb : b < 256) : (cls b = 1 ↔ b = 32 ∨ b = 9 ∨ b = 10 ∨ b = 13) ∧ (cls b = 2 ↔ b = 35) := by
  have h : ∀ t : Fin 256, (cls t.val = 1 ↔ t.val = 32 ∨ t.val = 9 ∨ t.val = 10 ∨ t.val = 13) ∧ (cls t.val = 2 ↔ t.val = 35) := by decide +kernel
  exact h ⟨b, hb⟩
theorem BlankAt.gap {s : ByteArray} {k goal : Nat} (h : BlankAt s false k goal) (hk : k < s.size) (hz : s[k].toNat = 32 ∨ s[k].toNat = 9 ∨ s[k].toNat = 10 ∨ s[k].toNat = 13) : BlankAt s false (k + 1) goal := by
  unfold BlankAt at *
  rw [sb_cons s k hk, skipN_cons] at h
  by_cases h10 : s[k].toNat = 10
  · rw [if_pos h10] at h
    omega
  · rw [if_neg h10, if_pos (.inr ((blank_cls s[k].toNat_lt).1.2 hz))] at h
    omega
theorem BlankAt.stop {s : ByteArray} {k goal : Nat} (h : BlankAt s false k goal) (hk : k < s.size) (h1 : s[k].toNat ≠ 35) (hz : ¬ (s[k].toNat = 32 ∨ s[k].toNat = 9 ∨ s[k].toNat = 10 ∨ s[k].toNat = 13)) : goal = k := by
  unfold BlankAt at *
  rw [sb_cons s k hk, skipN_cons, if_neg (by omega), if_neg (by
    rintro (e | e)
    · cases e
    · exact hz ((blank_cls s[k].toNat_lt).1.1 e)), if_neg (fun e => h1 ((blank_cls s[k].toNat_lt).2.1 e))] at h
  exact h.symm
end Go.Proofs.YtkddfhnfhncgpaaDoor
