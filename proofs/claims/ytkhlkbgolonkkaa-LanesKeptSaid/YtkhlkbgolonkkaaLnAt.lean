/- Lanes: At, the package's and the document's. Own work. -/
import Derived.Test.YtkhlkbgolonkkaaSWord
import Derived.Lib.Hide
import Derived.Deep.RegionHeld3
namespace Go.Proofs.Ytkhlkbgolonkkaa
open Go.RowKit
/-- At, as the package reckons it: who runs by now, up to where -/
def atL (m o : Int) : Int → Int → List (Int × Int) → Int × Int
  | who, e, [] => if who ≠ -1 ∧ o < e then (who, e - o) else (-1, m - o)
  | who, e, x :: r => if x.2 < 1 then atL m o who e r else if max x.1 (-1) ≠ who ∧ o < e then (who, e - o) else atL m o (max x.1 (-1)) (e + min x.2 (m - e)) r
/-- At, as the document reckons it -/
def atR (m o : Int) : Int → Int → Int → List (Int × Int) → Int × Int
  | who, left, at_, [] => if at_ < m then (if 0 < left ∧ -1 = who then (who, left + (m - at_)) else if 0 < left then (who, left) else if o < at_ + (m - at_) then (-1, at_ + (m - at_) - o) else (who, left)) else (who, left)
  | who, left, at_, x :: r => if at_ < m then (if x.2 < 1 then atR m o who left at_ r else
      if 0 < left ∧ (if 0 ≤ x.1 then x.1 else -1) = who then atR m o who (left + (if x.2 < m - at_ then x.2 else m - at_)) (at_ + (if x.2 < m - at_ then x.2 else m - at_)) r
      else if 0 < left then (who, left)
      else if o < at_ + (if x.2 < m - at_ then x.2 else m - at_) then atR m o (if 0 ≤ x.1 then x.1 else -1) (at_ + (if x.2 < m - at_ then x.2 else m - at_) - o) (at_ + (if x.2 < m - at_ then x.2 else m - at_)) r
      else atR m o who left (at_ + (if x.2 < m - at_ then x.2 else m - at_)) r) else (who, left)
theorem atL_full (m o : Int) (ho : o < m) : ∀ (l : List (Int × Int)) (who : Int), atL m o who m l = (who, m - o)
  | [], who => by
    unfold atL
    by_cases h : who = -1
    · subst h; simp
    · rw [if_pos ⟨h, ho⟩]
  | x :: r, who => by
    unfold atL
    by_cases h1 : x.2 < 1
    · rw [if_pos h1]; exact atL_full m o ho r who
    · rw [if_neg h1]
      by_cases h2 : max x.1 (-1) ≠ who
      · rw [if_pos ⟨h2, ho⟩]
      · rw [if_neg (fun h => h2 h.1), show m + min x.2 (m - m) = m by omega, atL_full m o ho r]
        have : max x.1 (-1) = who := by simpa using h2
        rw [this]
theorem at_late (m o : Int) (ho : o < m) : ∀ (l : List (Int × Int)) (who e : Int), o < e → e ≤ m → atR m o who (e - o) e l = atL m o who e l
  | [], who, e, h1, h2 => by
    unfold atR atL
    by_cases hm : e < m
    · rw [if_pos hm]
      by_cases hw : who = -1
      · subst hw
        rw [if_pos ⟨by omega, rfl⟩, if_neg (by simp)]
        congr 1
        omega
      · rw [if_neg (fun h => hw h.2.symm), if_pos (by omega), if_pos ⟨hw, h1⟩]
    · obtain rfl : e = m := by omega
      rw [if_neg hm]
      by_cases hw : who = -1
      · subst hw; rw [if_neg (by simp)]
      · rw [if_pos ⟨hw, h1⟩]
  | x :: r, who, e, h1, h2 => by
    by_cases hm : e < m
    · unfold atR atL
      rw [if_pos hm]
      by_cases hk : x.2 < 1
      · rw [if_pos hk, if_pos hk]
        exact at_late m o ho r who e h1 h2
      · rw [if_neg hk, if_neg hk]
        have es : (if 0 ≤ x.1 then x.1 else -1) = max x.1 (-1) := by split <;> omega
        have en : (if x.2 < m - e then x.2 else m - e) = min x.2 (m - e) := by split <;> omega
        rw [es, en]
        by_cases hw : max x.1 (-1) = who
        · rw [if_pos ⟨by omega, hw⟩, if_neg (fun h => h.1 hw), hw]
          have := at_late m o ho r who (e + min x.2 (m - e)) (by omega) (by omega)
          rw [show e + min x.2 (m - e) - o = e - o + min x.2 (m - e) by omega] at this
          exact this
        · rw [if_neg (fun h => hw h.2), if_pos (by omega), if_pos ⟨hw, h1⟩]
    · obtain rfl : e = m := by omega
      rw [atL_full e o ho (x :: r) who]
      unfold atR
      rw [if_neg hm]
theorem at_early (m o : Int) (ho : o < m) : ∀ (l : List (Int × Int)) (who e : Int), e ≤ o → atR m o (-1) 0 e l = atL m o who e l
  | [], who, e, h1 => by
    unfold atR atL
    rw [if_pos (by omega), if_neg (by omega), if_neg (by omega), if_pos (by omega), if_neg (by omega)]
    congr 1
    omega
  | x :: r, who, e, h1 => by
    unfold atR atL
    rw [if_pos (by omega)]
    by_cases hk : x.2 < 1
    · rw [if_pos hk, if_pos hk]
      exact at_early m o ho r who e h1
    · rw [if_neg hk, if_neg hk]
      have es : (if 0 ≤ x.1 then x.1 else -1) = max x.1 (-1) := by split <;> omega
      have en : (if x.2 < m - e then x.2 else m - e) = min x.2 (m - e) := by split <;> omega
      rw [es, en, if_neg (show ¬ ((0 : Int) < 0 ∧ max x.1 (-1) = -1) from fun h => by omega), if_neg (show ¬ (0 : Int) < 0 by omega), if_neg (show ¬ (max x.1 (-1) ≠ who ∧ o < e) from fun h => by omega)]
      by_cases hl : o < e + min x.2 (m - e)
      · rw [if_pos hl]
        exact at_late m o ho r _ _ hl (by omega)
      · rw [if_neg hl]
        exact at_early m o ho r _ _ (by omega)
/-- the two are the same -/
theorem at_same {m o : Int} (ho : o < m) (h0 : 0 ≤ o) (l : List (Int × Int)) : atR m o (-1) 0 0 l = atL m o (-1) 0 l := at_early m o ho l (-1) 0 h0
end Go.Proofs.Ytkhlkbgolonkkaa
