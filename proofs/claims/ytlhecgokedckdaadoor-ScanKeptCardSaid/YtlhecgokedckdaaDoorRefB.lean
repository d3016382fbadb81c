/- The document's own answer to chapter 5: End, Blank. -/
import Derived.Test.YtlhecgokedckdaaDoorRefA
import Derived.Test.YtlhecgokedckdaaDoorScWord
namespace Go.Proofs.YtlhecgokedckdaaDoor
open Go.RowKit Sc
theorem sb_cons (s : ByteArray) (k : Nat) (h : k < s.size) : (sb s).drop k = s[k].toNat :: (sb s).drop (k + 1) := by
  rw [Sc.drop_getD (by rw [sb_length]; exact h), sb_get s k h]
theorem sb_over (s : ByteArray) (k : Nat) (h : ¬ k < s.size) : (sb s).drop k = [] := List.drop_eq_nil_of_le (by rw [sb_length]; omega)
/-- how far a run has been gone through -/
def EndAt (s : ByteArray) (k goal : Nat) : Prop := k + Sc.runN ((sb s).drop k) = goal
theorem EndAt.next {s : ByteArray} {k goal : Nat} (h : EndAt s k goal) (hk : k < s.size) (hw : isW s[k].toNat = true) : EndAt s (k + 1) goal := by
  unfold EndAt at h ⊢
  rw [sb_cons s k hk, Sc.runN_cons, if_pos hw] at h
  omega
theorem EndAt.stop {s : ByteArray} {k goal : Nat} (h : EndAt s k goal) (hk : k < s.size) (hw : isW s[k].toNat = false) : goal = k := by
  unfold EndAt at h
  rw [sb_cons s k hk, Sc.runN_cons, if_neg (by rw [hw]; decide)] at h
  omega
theorem EndAt.over {s : ByteArray} {k goal : Nat} (h : EndAt s k goal) (hk : ¬ k < s.size) : goal = k := by
  unfold EndAt at h
  rw [sb_over s k hk] at h
  exact h.symm
set_option maxRecDepth 100000 in
set_option maxHeartbeats 1000000 in
theorem rEnd_any (s : ByteArray) {a : Nat} (ha : a ≤ s.size) (hs : s.size ≤ 1048576) (w : World) : Calls Tryd.prog 37 #[.string s, .int .i64 (a : Int)] w fun e w' => e = .returned (.int .i64 ((a + Sc.runN ((sb s).drop a) : Nat) : Int)) ∧ w = w' := by
  obtain ⟨goal, hg⟩ : ∃ g, g = a + Sc.runN ((sb s).drop a) := ⟨_, rfl⟩
  rw [← hg]
  have h0 : EndAt s a goal := hg.symm
  clear hg
  go_enter Tryd.func37, Tryd.ntmps37
  go_wp2_with fail
  go_loopw [1] (fun i wr => ∃ k : Nat, k ≤ s.size ∧ i = .int .i64 (k : Int) ∧ EndAt s k goal ∧ wr = w) (fun i _ => s.size - (intOf i).toNat)
  case atStart => exact ⟨a, ha, rfl, h0, rfl⟩
  case round =>
    obtain ⟨k, hk, rfl, HE, hwr⟩ := hrel
    subst hwr
    clear h0
    by_cases hlt : k < s.size
    · have hzk : s[k].toNat < 256 := s[k].toNat_lt
      have HIs : Hid (Calls Tryd.prog 39 #[.int .u8 (s[k].toNat : Int)] wr fun e w' => e = .returned (.bool (isW s[k].toNat)) ∧ wr = w') := wordByte_any hzk wr
      have i1 : (k : Int) < (s.size : Int) := by omega
      go_wp2_with fail
      refine HIs.out.mono ?_
      rintro e w2 ⟨rfl, rfl⟩
      clear HIs
      cases hw : isW s[k].toNat with
      | true =>
        have HN := HE.next hlt hw
        clear hw HE
        go_wp2_with fail
        exact ⟨⟨k + 1, by omega, by go_num, HN, trivial⟩, by simp [intOf]; omega⟩
      | false =>
        obtain rfl := HE.stop hlt hw
        clear hw HE
        go_wp2_with fail
        go_ret
        exact ⟨rfl, rfl⟩
    · have i1 : ¬ (k : Int) < (s.size : Int) := by omega
      obtain rfl := HE.over hlt
      clear HE
      go_wp2_with fail
      go_ret
      exact ⟨rfl, rfl⟩
/-- how far blanks and comments have been gone through -/
def BlankAt (s : ByteArray) (c : Bool) (k goal : Nat) : Prop := k + skipN c ((sb s).drop k) = goal
theorem BlankAt.over {s : ByteArray} {c : Bool} {k goal : Nat} (h : BlankAt s c k goal) (hk : ¬ k < s.size) : goal = k := by
  unfold BlankAt at h
  rw [sb_over s k hk] at h
  exact h.symm
theorem BlankAt.off {s : ByteArray} {k goal : Nat} (h : BlankAt s true k goal) (hk : ¬ k < s.size) : BlankAt s false k goal := by
  unfold BlankAt at *
  rw [sb_over s k hk] at *
  exact h
theorem BlankAt.next {s : ByteArray} {k goal : Nat} (h : BlankAt s true k goal) (hk : k < s.size) (hz : s[k].toNat ≠ 10) : BlankAt s true (k + 1) goal := by
  unfold BlankAt at *
  rw [sb_cons s k hk, skipN_cons, if_neg hz, if_pos (.inl rfl)] at h
  omega
theorem BlankAt.line {s : ByteArray} {k goal : Nat} (h : BlankAt s true k goal) (hk : k < s.size) (hz : s[k].toNat = 10) : BlankAt s false k goal := by
  unfold BlankAt at *
  rw [sb_cons s k hk, skipN_cons, if_pos hz] at *
  exact h
theorem BlankAt.hash {s : ByteArray} {k goal : Nat} (h : BlankAt s false k goal) (hk : k < s.size) (hz : s[k].toNat = 35) : BlankAt s true k goal := by
  unfold BlankAt at *
  rw [sb_cons s k hk, skipN_cons, hz] at h
  rw [sb_cons s k hk, skipN_cons, hz]
  exact h
theorem blank_cls {b : Nat} (hb : b < 256) : (cls b = 1 ↔ b = 32 ∨ b = 9 ∨ b = 10 ∨ b = 13) ∧ (cls b = 2 ↔ b = 35) := by
  have h : ∀ t : Fin 256, (cls t.val = 1 ↔ t.val = 32 ∨ t.val = 9 ∨ t.val = 10 ∨ t.val = 13) ∧ (cls t.val = 2 ↔ t.val = 35) := by decide +kernel
  exact h ⟨b, hb⟩
theorem BlankAt.gap {s : ByteArray} {k goal : Nat} (h : BlankAt s false k goal) (hk : k < s.size) (hz : s[k].toNat = 32 ∨ s[k].toNat = 9 ∨ s[k].toNat = 10 ∨ s[k].toNat = 13) : BlankAt s false (k + 1) goal := by
  unfold BlankAt at *
  rw [sb_cons s k hk, skipN_cons] at h
  by_cases h10 : s[k].toNat = 10
  · rw [if_pos h10] at h
    omega
  · rw [if_neg h10, if_pos (.inr ((blank_cls s[k].toNat_lt).1.2 hz))] at h
    omega
theorem BlankAt.stop {s : ByteArray} {k goal : Nat} (h : BlankAt s false k goal) (hk : k < s.size) (h1 : s[k].toNat ≠ 35) (hz : ¬ (s[k].toNat = 32 ∨ s[k].toNat = 9 ∨ s[k].toNat = 10 ∨ s[k].toNat = 13)) : goal = k := by
  unfold BlankAt at *
  rw [sb_cons s k hk, skipN_cons, if_neg (by omega), if_neg (by
    rintro (e | e)
    · cases e
    · exact hz ((blank_cls s[k].toNat_lt).1.1 e)), if_neg (fun e => h1 ((blank_cls s[k].toNat_lt).2.1 e))] at h
  exact h.symm
set_option maxRecDepth 100000 in
set_option maxHeartbeats 1000000 in
theorem rBlank_any (s : ByteArray) {a : Nat} (ha : a ≤ s.size) (hs : s.size ≤ 1048576) (w : World) : Calls Tryd.prog 21 #[.string s, .int .i64 (a : Int)] w fun e w' => e = .returned (.int .i64 ((a + skipN false ((sb s).drop a) : Nat) : Int)) ∧ w = w' := by
  obtain ⟨goal, hg⟩ : ∃ g, g = a + skipN false ((sb s).drop a) := ⟨_, rfl⟩
  rw [← hg]
  have h0 : BlankAt s false a goal := hg.symm
  clear hg
  go_enter Tryd.func21, Tryd.ntmps21
  go_wp2_with fail
  go_loopw [1] (fun i wr => ∃ k : Nat, k ≤ s.size ∧ i = .int .i64 (k : Int) ∧ BlankAt s false k goal ∧ wr = w) (fun i _ => s.size - (intOf i).toNat)
  case atStart => exact ⟨a, ha, rfl, h0, rfl⟩
  case round =>
    obtain ⟨k, hk, rfl, HE, hwr⟩ := hrel
    subst hwr
    clear h0
    by_cases hlt : k < s.size
    · have hzk : s[k].toNat < 256 := s[k].toNat_lt
      have i1 : (k : Int) < (s.size : Int) := by omega
      by_cases h35 : s[k].toNat = 35
      · have H0 := HE.hash hlt h35
        have q35 : ((s[k].toNat : Int) == 35) = true := by rw [h35]; rfl
        go_wp2_with fail
        go_loopw [1] (fun i wq => ∃ j : Nat, k ≤ j ∧ j ≤ s.size ∧ i = .int .i64 (j : Int) ∧ BlankAt s true j goal ∧ wq = wr) (fun i _ => s.size - (intOf i).toNat)
        case atStart => exact ⟨k, by omega, by omega, rfl, H0, rfl⟩
        case round =>
          obtain ⟨j, hj0, hj, rfl, HJ, hwq⟩ := hrel
          subst hwq
          clear H0 HE
          by_cases hlt2 : j < s.size
          · have hzj : s[j].toNat < 256 := s[j].toNat_lt
            have i2 : (j : Int) < (s.size : Int) := by omega
            by_cases h10 : s[j].toNat = 10
            · have HN := HJ.line hlt2 h10
              have hjk : k < j := by
                rcases Nat.lt_or_ge k j with h | h
                · exact h
                · obtain rfl : j = k := by omega
                  omega
              clear HJ
              go_wp2_with fail
              exact ⟨⟨j, by omega, rfl, HN, trivial⟩, by simp [intOf]; omega⟩
            · have HN := HJ.next hlt2 h10
              clear HJ
              go_wp2_with fail
              exact ⟨⟨j + 1, by omega, by omega, by go_num, HN, trivial⟩, by simp [intOf]; omega⟩
          · have i2 : ¬ (j : Int) < (s.size : Int) := by omega
            have HN := HJ.off hlt2
            clear HJ
            go_wp2_with fail
            exact ⟨⟨j, by omega, rfl, HN, trivial⟩, by simp [intOf]; omega⟩
      · by_cases hg : s[k].toNat = 32 ∨ s[k].toNat = 9 ∨ s[k].toNat = 10 ∨ s[k].toNat = 13
        · have HN := HE.gap hlt hg
          clear HE
          rcases hg with hv | hv | hv | hv
          · have q35 : ((s[k].toNat : Int) == 35) = false := by exact beq_eq_false_iff_ne.2 (by omega)
            have q32 : ((s[k].toNat : Int) == 32) = true := by rw [hv]; rfl
            have q9 : ((s[k].toNat : Int) == 9) = false := by exact beq_eq_false_iff_ne.2 (by omega)
            have q10 : ((s[k].toNat : Int) == 10) = false := by exact beq_eq_false_iff_ne.2 (by omega)
            have q13 : ((s[k].toNat : Int) == 13) = false := by exact beq_eq_false_iff_ne.2 (by omega)
            clear hv h35
            go_wp2_with fail
            exact ⟨⟨k + 1, by omega, by go_num, HN, trivial⟩, by simp [intOf]; omega⟩
          · have q35 : ((s[k].toNat : Int) == 35) = false := by exact beq_eq_false_iff_ne.2 (by omega)
            have q32 : ((s[k].toNat : Int) == 32) = false := by exact beq_eq_false_iff_ne.2 (by omega)
            have q9 : ((s[k].toNat : Int) == 9) = true := by rw [hv]; rfl
            have q10 : ((s[k].toNat : Int) == 10) = false := by exact beq_eq_false_iff_ne.2 (by omega)
            have q13 : ((s[k].toNat : Int) == 13) = false := by exact beq_eq_false_iff_ne.2 (by omega)
            clear hv h35
            go_wp2_with fail
            exact ⟨⟨k + 1, by omega, by go_num, HN, trivial⟩, by simp [intOf]; omega⟩
          · have q35 : ((s[k].toNat : Int) == 35) = false := by exact beq_eq_false_iff_ne.2 (by omega)
            have q32 : ((s[k].toNat : Int) == 32) = false := by exact beq_eq_false_iff_ne.2 (by omega)
            have q9 : ((s[k].toNat : Int) == 9) = false := by exact beq_eq_false_iff_ne.2 (by omega)
            have q10 : ((s[k].toNat : Int) == 10) = true := by rw [hv]; rfl
            have q13 : ((s[k].toNat : Int) == 13) = false := by exact beq_eq_false_iff_ne.2 (by omega)
            clear hv h35
            go_wp2_with fail
            exact ⟨⟨k + 1, by omega, by go_num, HN, trivial⟩, by simp [intOf]; omega⟩
          · have q35 : ((s[k].toNat : Int) == 35) = false := by exact beq_eq_false_iff_ne.2 (by omega)
            have q32 : ((s[k].toNat : Int) == 32) = false := by exact beq_eq_false_iff_ne.2 (by omega)
            have q9 : ((s[k].toNat : Int) == 9) = false := by exact beq_eq_false_iff_ne.2 (by omega)
            have q10 : ((s[k].toNat : Int) == 10) = false := by exact beq_eq_false_iff_ne.2 (by omega)
            have q13 : ((s[k].toNat : Int) == 13) = true := by rw [hv]; rfl
            clear hv h35
            go_wp2_with fail
            exact ⟨⟨k + 1, by omega, by go_num, HN, trivial⟩, by simp [intOf]; omega⟩
        · have hgk := HE.stop hlt h35 hg
          clear HE
          have q35 : ((s[k].toNat : Int) == 35) = false := by exact beq_eq_false_iff_ne.2 (by omega)
          have q32 : ((s[k].toNat : Int) == 32) = false := by exact beq_eq_false_iff_ne.2 (by omega)
          have q9 : ((s[k].toNat : Int) == 9) = false := by exact beq_eq_false_iff_ne.2 (by omega)
          have q10 : ((s[k].toNat : Int) == 10) = false := by exact beq_eq_false_iff_ne.2 (by omega)
          have q13 : ((s[k].toNat : Int) == 13) = false := by exact beq_eq_false_iff_ne.2 (by omega)
          clear hg h35
          subst hgk
          go_wp2_with fail
          go_ret
          exact ⟨rfl, rfl⟩
    · have i1 : ¬ (k : Int) < (s.size : Int) := by omega
      obtain rfl := HE.over hlt
      clear HE
      go_wp2_with fail
      go_ret
      exact ⟨rfl, rfl⟩
end Go.Proofs.YtlhecgokedckdaaDoor
