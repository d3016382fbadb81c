/- Lanes: who runs at which tick of runs one behind the other (plain mathematics). Own work. -/
import Derived.Test.YtkhlkbgolonkkaaLnFlt
import Derived.Test.YtkhlkbgolonkkaaLnSch
namespace Go.Proofs.Ytkhlkbgolonkkaa
set_option linter.unusedVariables false
/-- a slot row from a tick on -/
def Gd : Int → Option ByteArray → List S3 → Prop
  | _, _, [] => True
  | e, p, x :: r => ¬ badR e p x ∧ Gd x.t (some x.s) r
def endE : Int → List S3 → Int
  | e, [] => e
  | _, x :: r => endE x.t r
def lastS : Option ByteArray → List S3 → Option ByteArray
  | p, [] => p
  | _, x :: r => lastS (some x.s) r
theorem rowF_gd : ∀ (xs : List S3) (e : Int) (p : Option ByteArray), Gd e p xs → rowF e p xs = endE e xs
  | [], _, _, _ => rfl
  | x :: r, e, p, h => by
    unfold rowF
    rw [if_neg h.1]
    exact rowF_gd r _ _ h.2
theorem gd_lt {e : Int} {p : Option ByteArray} {x : S3} (h : ¬ badR e p x) : x.f = e ∧ e < x.t := by
  constructor
  · exact Classical.byContradiction fun hc => h (.inl hc)
  · exact Classical.byContradiction fun hc => h (.inr (.inl (by omega)))
theorem gd_le : ∀ (xs : List S3) (e : Int) (p : Option ByteArray), Gd e p xs → e ≤ endE e xs
  | [], e, _, _ => Int.le_refl e
  | x :: r, e, p, h => by
    have h1 := (gd_lt h.1).2
    have h2 := gd_le r _ _ h.2
    show e ≤ endE x.t r
    omega
theorem gd_snoc (y : S3) : ∀ (xs : List S3) (e : Int) (p : Option ByteArray), Gd e p xs → ¬ badR (endE e xs) (lastS p xs) y → Gd e p (xs ++ [y])
  | [], _, _, _, h => ⟨h, trivial⟩
  | x :: r, e, p, h, hy => ⟨h.1, gd_snoc y r _ _ h.2 hy⟩
theorem gd_grow (l : S3) (n : Int) (hn : 0 < n) : ∀ (ys : List S3) (e : Int) (p : Option ByteArray), Gd e p (ys ++ [l]) → Gd e p (ys ++ [⟨l.s, l.f, l.t + n⟩])
  | [], e, p, h => by
    refine ⟨?_, trivial⟩
    have h1 := gd_lt h.1
    rintro (h2 | h2 | h2)
    · exact h2 h1.1
    · have : l.t + n ≤ e := h2
      omega
    · exact h.1 (.inr (.inr h2))
  | x :: r, e, p, h => ⟨h.1, gd_grow l n hn r _ _ h.2⟩
theorem gd_init (l : S3) : ∀ (ys : List S3) (e : Int) (p : Option ByteArray), Gd e p (ys ++ [l]) → Gd e p ys ∧ endE e ys < l.t
  | [], e, p, h => ⟨trivial, (gd_lt h.1).2⟩
  | x :: r, e, p, h => ⟨⟨h.1, (gd_init l r _ _ h.2).1⟩, (gd_init l r _ _ h.2).2⟩
theorem find_old (y : S3) : ∀ (xs : List S3) (e : Int) (p : Option ByteArray) (t : Int), Gd e p xs → e ≤ t → t < endE e xs → findS t (xs ++ [y]) = findS t xs
  | [], e, _, t, _, h1, h2 => by have : t < e := h2; omega
  | x :: r, e, p, t, h, h1, h2 => by
    simp only [List.cons_append, findS]
    by_cases hx : t < x.t
    · rw [if_pos hx, if_pos hx]
    · rw [if_neg hx, if_neg hx]
      exact find_old y r _ _ t h.2 (by omega) h2
theorem find_new (y : S3) : ∀ (xs : List S3) (e : Int) (p : Option ByteArray) (t : Int), Gd e p xs → endE e xs ≤ t → t < y.t → findS t (xs ++ [y]) = (y.s, y.t - t)
  | [], e, _, t, _, h1, h2 => by
    simp only [List.nil_append, findS]
    rw [if_pos h2]
  | x :: r, e, p, t, h, h1, h2 => by
    simp only [List.cons_append, findS]
    have h3 := gd_le r _ _ h.2
    have h4 : endE x.t r ≤ t := h1
    rw [if_neg (by omega)]
    exact find_new y r _ _ t h.2 h4 h2
theorem find_more : ∀ (xs : List S3) (e : Int) (p : Option ByteArray) (t : Int), Gd e p xs → e ≤ t → t < endE e xs → 1 ≤ (findS t xs).2
  | [], e, _, t, _, h1, h2 => by have : t < e := h2; omega
  | x :: r, e, p, t, h, h1, h2 => by
    unfold findS
    by_cases hx : t < x.t
    · rw [if_pos hx]
      show 1 ≤ x.t - t
      omega
    · rw [if_neg hx]
      exact find_more r _ _ t h.2 (by omega) h2
theorem find_step : ∀ (xs : List S3) (t : Int), 1 < (findS (t - 1) xs).2 → findS t xs = ((findS (t - 1) xs).1, (findS (t - 1) xs).2 - 1)
  | [], t, h => by simp [findS] at h
  | x :: r, t, h => by
    unfold findS at h ⊢
    by_cases hx : t - 1 < x.t
    · rw [if_pos hx] at h ⊢
      have h : 1 < x.t - (t - 1) := h
      rw [if_pos (by omega)]
      simp only [Prod.mk.injEq, true_and]
      omega
    · rw [if_neg hx] at h ⊢
      rw [if_neg (by omega)]
      exact find_step r t h
theorem endE_last (l : S3) : ∀ (ys : List S3) (e : Int), endE e (ys ++ [l]) = l.t
  | [], _ => rfl
  | x :: r, _ => endE_last l r x.t
theorem lastS_last (l : S3) : ∀ (ys : List S3) (p : Option ByteArray), lastS p (ys ++ [l]) = some l.s
  | [], _ => rfl
  | x :: r, _ => lastS_last l r (some x.s)
theorem endF_last (ys : List S3) (l : S3) : endF (ys ++ [l]) = l.t := by simp [endF]
theorem endE_endF (xs : List S3) : endE 0 xs = endF xs := by
  rcases List.eq_nil_or_concat xs with rfl | ⟨ys, l, rfl⟩
  · rfl
  · rw [List.concat_eq_append, endE_last, endF_last]
/-- what add does to a slot row -/
theorem adds_gd {xs : List S3} {s : ByteArray} {n : Int} (h : Gd 0 none xs) (hn : 0 ≤ n) : Gd 0 none (adds xs s n) ∧ (∀ t, 0 ≤ t → t < endF xs → (findS t (adds xs s n)).1 = (findS t xs).1) ∧ ∀ t, endF xs ≤ t → t < endF xs + n → (findS t (adds xs s n)).1 = s := by
  by_cases h0 : n = 0
  · subst h0
    have e : adds xs s 0 = xs := by simp [adds]
    rw [e]
    exact ⟨h, fun _ _ _ => rfl, fun t h1 h2 => by omega⟩
  · rcases List.eq_nil_or_concat xs with rfl | ⟨ys, l, rfl⟩
    · have e : adds [] s n = [⟨s, 0, n⟩] := by simp [adds, h0]
      have e2 : endF [] = 0 := rfl
      rw [e, e2]
      refine ⟨⟨?_, trivial⟩, fun t h1 h2 => by omega, fun t h1 h2 => ?_⟩
      · rintro (h2 | h2 | ⟨q, h2, _⟩)
        · exact h2 rfl
        · have : n ≤ 0 := h2
          omega
        · cases h2
      · simp only [findS]
        rw [if_pos (by omega)]
    · rw [List.concat_eq_append] at *
      rw [endF_last]
      obtain ⟨hi, hl⟩ := gd_init l ys _ _ h
      by_cases hs : (l.s.toList == s.toList) = true
      · have es : l.s = s := toList_inj (eq_of_beq hs)
        subst es
        have ea : adds (ys ++ [l]) l.s n = ys ++ [⟨l.s, l.f, l.t + n⟩] := by simp [adds, h0]
        rw [ea]
        refine ⟨gd_grow l n (by omega) ys _ _ h, fun t h1 h2 => ?_, fun t h1 h2 => ?_⟩
        · by_cases ht : t < endE 0 ys
          · rw [find_old _ ys _ _ t hi h1 ht, find_old _ ys _ _ t hi h1 ht]
          · rw [find_new _ ys _ _ t hi (by omega) (by show t < l.t + n; omega), find_new _ ys _ _ t hi (by omega) h2]
        · rw [find_new _ ys _ _ t hi (by omega) h2]
      · have hs' : (l.s.toList == s.toList) = false := by simpa using hs
        have ea : adds (ys ++ [l]) s n = (ys ++ [l]) ++ [⟨s, l.t, l.t + n⟩] := by simp [adds, h0, hs']
        rw [ea]
        refine ⟨gd_snoc _ _ _ _ h ?_, fun t h1 h2 => ?_, fun t h1 h2 => ?_⟩
        · rw [endE_last, lastS_last]
          rintro (h2 | h2 | ⟨q, h2, h3⟩)
          · exact h2 rfl
          · have : l.t + n ≤ l.t := h2
            omega
          · cases h2
            have h4 : s = l.s := toList_inj (eq_of_beq h3)
            rw [h4] at hs'
            simp at hs'
        · rw [find_old _ (ys ++ [l]) _ _ t h h1 (by rw [endE_last]; exact h2)]
        · rw [find_new _ (ys ++ [l]) _ _ t h (by rw [endE_last]; exact h1) h2]
theorem turn_all : ∀ (xs : List R4) (a : List S3), Gd 0 none a → 0 ≤ endF a → Gd 0 none (turnF a xs) ∧ (∀ t, 0 ≤ t → t < endF a → (findS t (turnF a xs)).1 = (findS t a).1) ∧ ∀ (i : Nat) (h : i < xs.length) t, endF a + (sumN (xs.take i) : Int) ≤ t → t < endF a + (sumN (xs.take (i + 1)) : Int) → (findS t (turnF a xs)).1 = xs[i].s
  | [], a, h, _ => ⟨h, fun _ _ _ => rfl, fun i h => by simp at h⟩
  | x :: r, a, h, h0 => by
    obtain ⟨g1, g2, g3⟩ := adds_gd (s := x.s) (n := (x.b : Int)) h (by omega)
    have ee := adds_end a x.s (x.b : Int)
    obtain ⟨k1, k2, k3⟩ := turn_all r (adds a x.s (x.b : Int)) g1 (by omega)
    refine ⟨k1, fun t h1 h2 => ?_, fun i hi t h1 h2 => ?_⟩
    · exact (k2 t h1 (by omega)).trans (g2 t h1 h2)
    · cases i with
      | zero =>
        simp only [List.take_zero, sumN, List.take_succ_cons] at h1 h2
        exact (k2 t (by omega) (by omega)).trans (g3 t (by omega) (by omega))
      | succ i =>
        simp only [List.take_succ_cons, sumN] at h1 h2
        exact k3 i (by simpa using hi) t (by omega) (by omega)
/-- the tick's subject, where runs and nobody behind them fill the major frame -/
theorem made_all {m : Nat} {xs : List R4} (hs : sumN xs ≤ m) (hm : 0 < m) : rowF 0 none (madeF m xs) = (m : Int) ∧ (∀ (i : Nat) (h : i < xs.length) t, (sumN (xs.take i) : Int) ≤ t → t < (sumN (xs.take (i + 1)) : Int) → (findS t (madeF m xs)).1 = xs[i].s) ∧ (∀ t, (sumN xs : Int) ≤ t → t < (m : Int) → (findS t (madeF m xs)).1 = sN) ∧ ∀ t, 0 ≤ t → t < (m : Int) → 1 ≤ (findS t (madeF m xs)).2 := by
  have e0 : endF [] = 0 := rfl
  obtain ⟨k1, _, k3⟩ := turn_all xs [] trivial (by rw [e0]; omega)
  have ee := turnF_end xs []
  rw [e0] at ee k3
  obtain ⟨g1, g2, g3⟩ := adds_gd (s := sN) (n := (m : Int) - (sumN xs : Int)) k1 (by omega)
  have ef := adds_end (turnF [] xs) sN ((m : Int) - (sumN xs : Int))
  have em : endE 0 (madeF m xs) = (m : Int) := by
    rw [endE_endF]
    show endF (adds (turnF [] xs) sN ((m : Int) - (sumN xs : Int))) = _
    omega
  refine ⟨(rowF_gd _ _ _ g1).trans em, fun i hi t h1 h2 => ?_, fun t h1 h2 => g3 t (by omega) (by omega), fun t h1 h2 => find_more _ _ _ t g1 h1 (by show t < endE 0 (madeF m xs); rw [em]; exact h2)⟩
  have h5 := sumN_take xs (i + 1)
  exact (g2 t (by omega) (by omega)).trans (k3 i hi t (by omega) (by omega))
theorem sched_made {m : Nat} {xs : List R4} (hs : sumN xs ≤ m) (hm : 0 < m) {t : Int} (h0 : 0 ≤ t) (h1 : t < (m : Int)) : schedF t (madeF m xs) = findS t (madeF m xs) := by
  unfold schedF
  rw [(made_all hs hm).1, if_neg (by omega)]
  congr 1
  unfold tickF
  rw [if_neg (by omega)]
  exact Int.emod_eq_of_lt h0 h1
end Go.Proofs.Ytkhlkbgolonkkaa
