/- Lanes: the document's At, walked. Own work. -/
import Derived.Test.YtlbkadclojjnfaaLnAt2
import Derived.Deep.DeepCutAuto
import Derived.Deep.CutBlock
namespace Go.Proofs.Ytlbkadclojjnfaa
open Go.RowKit
set_option maxRecDepth 100000 in
set_option maxHeartbeats 1000000 in
theorem at_out {w : World} {v : Value} {m o : Int} (h : o < 0 ∨ m ≤ o) : Calls Try.prog 22 #[v, .int .i64 m, .int .i64 o] w fun e w' => e = .returned (.tuple #[.int .i64 (-1), .int .i64 0]) ∧ Below w.heap.size w w' := by
  by_cases h0 : o < 0
  · go_enter Try.func22, Try.ntmps22
    go_wp2_with fail
    go_ret2
    exact ⟨rfl, Below.refl _ _⟩
  · have h1 : m ≤ o := by omega
    clear h
    go_enter Try.func22, Try.ntmps22
    go_wp2_with fail
    go_ret2
    exact ⟨rfl, Below.refl _ _⟩
set_option maxRecDepth 100000 in
set_option maxHeartbeats 1000000 in
theorem rat_out {w : World} {v : Value} {m o : Int} (h : o < 0 ∨ m ≤ o) : Calls Try.prog 23 #[v, .int .i64 m, .int .i64 o] w fun e w' => e = .returned (.tuple #[.int .i64 (-1), .int .i64 0]) ∧ Below w.heap.size w w' := by
  by_cases h0 : o < 0
  · go_enter Try.func23, Try.ntmps23
    go_wp2_with fail
    go_ret2
    exact ⟨rfl, Below.refl _ _⟩
  · have h1 : m ≤ o := by omega
    clear h
    go_enter Try.func23, Try.ntmps23
    go_wp2_with fail
    go_ret2
    exact ⟨rfl, Below.refl _ _⟩
theorem atR_end {m o who left at_ : Int} (h : ¬ at_ < m) (l : List (Int × Int)) : atR m o who left at_ l = (who, left) := by
  cases l <;> (unfold atR; rw [if_neg h])
/-- where the document's loop stands -/
def Ra (m o : Int) (xs : List (Int × Int)) (R : Int × Int) (i : Nat) (who left at_ : Int) : Prop :=
  (i ≤ xs.length ∧ atR m o who left at_ (xs.drop i) = R) ∨ (i = xs.length + 1 ∧ (who, left) = R)
set_option maxRecDepth 100000 in
set_option maxHeartbeats 8000000 in
theorem rat_any {w : World} {v : Value} {xs : List (Int × Int)} {m o : Int} (h : Rd2 w v xs) (ho0 : 0 ≤ o) (hom : o < m) (hm1 : m ≤ 9223372036854775807) (hl : xs.length < 9223372036854775806) : Calls Try.prog 23 #[v, .int .i64 m, .int .i64 o] w fun e w' => e = .returned (.tuple #[.int .i64 (atR m o (-1) 0 0 xs).1, .int .i64 (atR m o (-1) 0 0 xs).2]) ∧ Below w.heap.size w w' := by
  have HR := Lib.hid h
  obtain ⟨ao, cap, rfl, h1, h2, h3, _⟩ := h
  unfold maxLen at h2
  obtain ⟨n, hn⟩ : ∃ n, xs.length = n := ⟨_, rfl⟩
  have HN := Lib.hid hn
  have HX : Hid (∀ x ∈ xs, -9223372036854775808 ≤ x.1 ∧ x.1 ≤ 9223372036854775807 ∧ -9223372036854775808 ≤ x.2 ∧ x.2 ≤ 9223372036854775807) := h3
  rw [hn] at h1 hl ⊢
  obtain ⟨R, hR⟩ : ∃ R, atR m o (-1) 0 0 xs = R := ⟨_, rfl⟩
  rw [hR]
  have HR0 : Hid (Ra m o xs R 0 (-1) 0 0) := .inl ⟨Nat.zero_le _, hR⟩
  clear hn h3 hR
  go_enter Try.func23, Try.ntmps23
  go_wp2_with fail
  go_loopw [8, 9, 10, 11] (fun wv lv av iv wr => ∃ (i : Nat) (who left at_ : Int), i ≤ n + 1 ∧ iv = .int .i64 (i : Int) ∧ wv = .int .i64 who ∧ lv = .int .i64 left ∧ av = .int .i64 at_ ∧ 0 ≤ left ∧ left ≤ at_ ∧ at_ ≤ m ∧ Hid (Ra m o xs R i who left at_) ∧ wr = w) (fun _ _ _ iv _ => n + 1 - (intOf iv).toNat)
  case atStart => exact ⟨0, -1, 0, 0, by omega, rfl, rfl, rfl, rfl, by omega, by omega, by omega, HR0, rfl⟩
  case round =>
    clear HR0
    obtain ⟨i, who, left, at_, hi, rfl, rfl, rfl, rfl, hl0, hl1, ha1, HS, hw⟩ := hrel
    subst hw
    by_cases hend : i ≤ n ∧ at_ < m
    · obtain ⟨hin, ham⟩ := hend
      have HA : Hid (atR m o who left at_ (xs.drop i) = R) := by
        rcases HS.out with ⟨_, h⟩ | ⟨h, _⟩
        · exact h
        · have := HN.out; omega
      have d1 : decide ((i : Int) ≤ (n : Int)) = true := decide_eq_true (by omega)
      have j1 : (i : Int) ≤ (n : Int) := by omega
      have hw1 : IntKind.i64.wrap ((i : Int) + 1) = ((i + 1 : Nat) : Int) := by rw [IntKind.wrap_i64]; omega
      by_cases hix0 : i < n
      · have hix : i < xs.length := by rw [HN.out]; exact hix0
        have ji : (i : Int) < (n : Int) := by omega
        obtain ⟨ao', cap', e', _, _, _, hc⟩ := HR.out
        simp only [Value.slice.injEq] at e'
        obtain ⟨rfl, _, rfl⟩ := e'
        obtain ⟨b, of, rfl, c0, c1⟩ := hc i hix
        obtain ⟨x0, x1, x2, x3⟩ := HX.out xs[i] (List.getElem_mem _)
        have HA2 := HA.out
        rw [List.drop_eq_getElem_cons hix] at HA2
        clear hc HA HS
        generalize xs[i] = x at *
        obtain ⟨s, k⟩ := x
        simp only at c0 c1 x0 x1 x2 x3
        unfold atR at HA2
        rw [if_pos ham] at HA2
        simp only at HA2
        have HI : Hid (i + 1 ≤ xs.length) := (by rw [HN.out]; omega : i + 1 ≤ xs.length)
        by_cases hk : k < 1
        · rw [if_pos hk] at HA2
          have HA3 : Hid (Ra m o xs R (i + 1) who left at_) := .inl ⟨HI.out, HA2⟩
          clear HA2
          go_wp2_with fail
          go_roundw
          case rel => exact ⟨i + 1, who, left, at_, by omega, rfl, rfl, rfl, rfl, hl0, hl1, ha1, HA3, by first | rfl | trivial⟩
          case measure => simp [intOf]; try omega
        · rw [if_neg hk] at HA2
          obtain ⟨q, hq⟩ : ∃ q, (if 0 ≤ s then s else -1) = q := ⟨_, rfl⟩
          obtain ⟨t, ht⟩ : ∃ t, (if k < m - at_ then k else m - at_) = t := ⟨_, rfl⟩
          rw [hq, ht] at HA2
          have hq' : (0 ≤ s ∧ q = s) ∨ (s < 0 ∧ q = -1) := by
            by_cases h : 0 ≤ s
            · rw [if_pos h] at hq; exact .inl ⟨h, hq.symm⟩
            · rw [if_neg h] at hq; exact .inr ⟨by omega, hq.symm⟩
          have ht' : (k < m - at_ ∧ t = k) ∨ (m - at_ ≤ k ∧ t = m - at_) := by
            by_cases h : k < m - at_
            · rw [if_pos h] at ht; exact .inl ⟨h, ht.symm⟩
            · rw [if_neg h] at ht; exact .inr ⟨by omega, ht.symm⟩
          have ht0 : 0 ≤ t ∧ at_ + t ≤ m := by omega
          obtain ⟨ht1, ht2⟩ := ht0
          clear hq ht
          by_cases hlf : 0 < left
          · by_cases hww : q = who
            · rw [if_pos ⟨hlf, hww⟩] at HA2
              have HA3 : Hid (Ra m o xs R (i + 1) who (left + t) (at_ + t)) := .inl ⟨HI.out, HA2⟩
              clear HA2
              rcases hq' with ⟨hs1, hq1⟩ | ⟨hs1, hq1⟩ <;> rcases ht' with ⟨hk1, hk2⟩ | ⟨hk1, hk2⟩
              all_goals
                subst hq1
                subst hk2
                subst hww
                go_wp2_with fail
                go_roundw
                case rel => exact ⟨i + 1, _, _, _, by omega, rfl, rfl, rfl, rfl, by omega, by omega, by omega, HA3, by first | rfl | trivial⟩
                case measure => simp [intOf]; try omega
            · rw [if_neg (fun h => hww h.2), if_pos hlf] at HA2
              have HA3 : Hid (R = (who, left)) := HA2.symm
              clear HA2
              rcases hq' with ⟨hs1, hq1⟩ | ⟨hs1, hq1⟩ <;> rcases ht' with ⟨hk1, hk2⟩ | ⟨hk1, hk2⟩
              all_goals
                subst hq1
                subst hk2
                go_wp2_with fail
                go_ret2
                exact ⟨by rw [HA3.out]; rfl, Below.refl _ _⟩
          · obtain rfl : left = 0 := by omega
            rw [if_neg (fun h => hlf h.1), if_neg hlf] at HA2
            by_cases hoa : o < at_ + t
            · rw [if_pos hoa] at HA2
              have HA3 : Hid (Ra m o xs R (i + 1) q (at_ + t - o) (at_ + t)) := .inl ⟨HI.out, HA2⟩
              clear HA2
              rcases ht' with ⟨hk1, hk2⟩ | ⟨hk1, hk2⟩
              · have HO : Hid (o < at_ + t) := hoa
                clear hoa
                rcases hq' with ⟨hs1, hq1⟩ | ⟨hs1, hq1⟩
                all_goals
                  subst hq1
                  subst hk2
                  go_upto_block 2 with fail
                  have hoa := HO.out
                  go_wp2_with fail
                  go_roundw
                  case rel => exact ⟨i + 1, _, _, _, by omega, rfl, rfl, rfl, rfl, by omega, by omega, by omega, HA3, by first | rfl | trivial⟩
                  case measure => simp [intOf]; try omega
              · obtain rfl : t = m - at_ := hk2
                have HA4 : Hid (Ra m o xs R (i + 1) q (m - o) m) := by
                  have h := HA3.out
                  rw [show at_ + (m - at_) = m by omega] at h
                  exact h
                clear hoa HA3 ht2 ht1
                rcases hq' with ⟨hs1, hq1⟩ | ⟨hs1, hq1⟩
                all_goals
                  subst hq1
                  go_wp2_with fail
                  go_roundw
                  case rel => exact ⟨i + 1, _, m - o, m, by omega, rfl, rfl, by rw [show at_ + (m - at_) = m by omega], by rw [show at_ + (m - at_) = m by omega], by omega, by omega, by omega, HA4, by first | rfl | trivial⟩
                  case measure => simp [intOf]; try omega
            · rw [if_neg hoa] at HA2
              have HA3 : Hid (Ra m o xs R (i + 1) who 0 (at_ + t)) := .inl ⟨HI.out, HA2⟩
              clear HA2
              obtain ⟨hk1, hk2⟩ : k < m - at_ ∧ t = k := by omega
              clear ht'
              rcases hq' with ⟨hs1, hq1⟩ | ⟨hs1, hq1⟩
              all_goals
                subst hq1
                subst hk2
                go_wp2_with fail
                go_roundw
                case rel => exact ⟨i + 1, _, _, _, by omega, rfl, rfl, rfl, rfl, by omega, by omega, by omega, HA3, by first | rfl | trivial⟩
                case measure => simp [intOf]; try omega
      · obtain rfl : i = n := by omega
        have HA2 := HA.out
        rw [List.drop_eq_nil_of_le (by rw [HN.out]; exact Nat.le_refl _)] at HA2
        unfold atR at HA2
        rw [if_pos ham] at HA2
        by_cases hlf : 0 < left
        · by_cases hww : who = -1
          · subst hww
            rw [if_pos ⟨hlf, rfl⟩] at HA2
            have HA3 : Hid (Ra m o xs R (i + 1) (-1) (left + (m - at_)) (at_ + (m - at_))) := .inr ⟨by rw [HN.out], HA2⟩
            clear HA2 HA HS
            go_wp2_with fail
            go_roundw
            case rel => exact ⟨i + 1, -1, left + (m - at_), at_ + (m - at_), by omega, rfl, rfl, rfl, rfl, by omega, by omega, by omega, HA3, by first | rfl | trivial⟩
            case measure => simp [intOf]; try omega
          · rw [if_neg (fun h => hww h.2.symm), if_pos hlf] at HA2
            have HA3 : Hid (R = (who, left)) := HA2.symm
            clear HA2 HA HS
            go_wp2_with fail
            go_ret2
            exact ⟨by rw [HA3.out]; rfl, Below.refl _ _⟩
        · obtain rfl : left = 0 := by omega
          rw [if_neg (fun h => hlf h.1), if_neg hlf, if_pos (by omega)] at HA2
          have HA3 : Hid (Ra m o xs R (i + 1) (-1) (at_ + (m - at_) - o) (at_ + (m - at_))) := .inr ⟨by rw [HN.out], HA2⟩
          clear HA2 HA HS
          go_wp2_with fail
          go_roundw
          case rel => exact ⟨i + 1, -1, at_ + (m - at_) - o, at_ + (m - at_), by omega, rfl, rfl, rfl, rfl, by omega, by omega, by omega, HA3, by first | rfl | trivial⟩
          case measure => simp [intOf]; try omega
    · have HA3 : Hid (R = (who, left)) := by
        rcases HS.out with ⟨h1, h⟩ | ⟨_, h⟩
        · rw [atR_end (by have := HN.out; omega)] at h
          exact h.symm
        · exact h.symm
      by_cases hin : i ≤ n
      · have ham : m ≤ at_ := by omega
        have j1 : (i : Int) ≤ (n : Int) := by omega
        clear hend HS
        go_wp2_with fail
        go_ret2
        exact ⟨by rw [HA3.out]; rfl, Below.refl _ _⟩
      · have j1 : (n : Int) < (i : Int) := by omega
        clear hend HS
        go_wp2_with fail
        go_ret2
        exact ⟨by rw [HA3.out]; rfl, Below.refl _ _⟩
end Go.Proofs.Ytlbkadclojjnfaa
