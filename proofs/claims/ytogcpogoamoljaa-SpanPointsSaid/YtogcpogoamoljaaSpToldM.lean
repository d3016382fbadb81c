/- Points counted, and the next one: plain mathematics. Own work. -/
import Derived.Test.YtogcpogoamoljaaSpFew
namespace Go.Proofs.Ytogcpogoamoljaa
open Go.RowKit Go.Shelf Go.Proofs.Ytogcpogoamoljaa.Sp Go.Proofs.Ytogcpogoamoljaa.U8
/-- how many points lie below m -/
def cN (f : Nat → Bool) : Nat → Nat
  | 0 => 0
  | m + 1 => cN f m + if f m = true then 1 else 0
theorem cN_succ (f : Nat → Bool) (m : Nat) : cN f (m + 1) = cN f m + if f m = true then 1 else 0 := rfl
/-- how many of the last k -/
def cnD (f : Nat → Bool) : Nat → Nat
  | 0 => 0
  | k + 1 => cnD f k + if f (255 - k) = true then 1 else 0
/-- the least of the last k -/
def nxD (f : Nat → Bool) : Nat → Int
  | 0 => -1
  | k + 1 => if f (255 - k) = true then ((255 - k : Nat) : Int) else nxD f k
theorem cnD_cN (f : Nat → Bool) : ∀ k, k ≤ 256 → cnD f k + cN f (256 - k) = cN f 256
  | 0, _ => by simp [cnD]
  | k + 1, h => by
    have ih := cnD_cN f k (by omega)
    generalize cN f 256 = T at ih ⊢
    have e : 256 - k = (255 - k) + 1 := by omega
    have e2 : 256 - (k + 1) = 255 - k := by omega
    rw [e, cN_succ] at ih
    rw [e2]
    simp only [cnD]
    omega
theorem cnD_le (f : Nat → Bool) : ∀ k, cnD f k ≤ k
  | 0 => Nat.le_refl _
  | k + 1 => by have := cnD_le f k; simp only [cnD]; split <;> omega
theorem cN_ext {f g : Nat → Bool} : ∀ m, (∀ q, q < m → f q = g q) → cN f m = cN g m
  | 0, _ => rfl
  | m + 1, h => by simp only [cN]; rw [cN_ext m (fun q hq => h q (by omega)), h m (by omega)]
theorem cN_or {f g : Nat → Bool} : ∀ m, (∀ q, q < m → ¬ (f q = true ∧ g q = true)) → cN (fun q => f q || g q) m = cN f m + cN g m
  | 0, _ => rfl
  | m + 1, h => by
    simp only [cN]
    rw [cN_or m (fun q hq => h q (by omega))]
    have := h m (by omega)
    by_cases h1 : f m = true <;> by_cases h2 : g m = true
    · exact absurd ⟨h1, h2⟩ this
    · simp [h1, h2]; omega
    · simp [h1, h2]; omega
    · simp [h1, h2]
theorem inF_nat (a b q : Nat) : inF [((a : Int), (b : Int))] q = true ↔ a ≤ q ∧ q ≤ b := by
  rw [inF_iff, in_one]
  simp only
  omega
theorem cN_one {a b : Nat} (hab : a ≤ b) : ∀ m, cN (inF [((a : Int), (b : Int))]) m = if m ≤ a then 0 else min m (b + 1) - a
  | 0 => by simp [cN]
  | m + 1 => by
    rw [cN_succ, cN_one hab m]
    by_cases h : a ≤ m ∧ m ≤ b
    · rw [if_pos ((inF_nat a b m).2 h), if_neg (show ¬ m + 1 ≤ a by omega), Nat.min_eq_left (by omega)]
      split
      · omega
      · rw [Nat.min_eq_left (by omega)]
        omega
    · rw [if_neg (fun k => h ((inF_nat a b m).1 k)), Nat.add_zero]
      by_cases h1 : m + 1 ≤ a
      · rw [if_pos h1, if_pos (by omega)]
      · rw [if_neg h1]
        by_cases h2 : m ≤ a
        · omega
        · rw [if_neg h2, Nat.min_eq_right (by omega), Nat.min_eq_right (by omega)]
theorem cN_tot : ∀ {xs : List Sp}, Canon 255 xs → (cN (inF xs) 256 : Int) = tot xs
  | [], _ => by
    have : ∀ m, cN (inF []) m = 0 := fun m => by
      induction m with
      | zero => rfl
      | succ m ih => simp [cN, ih, inF]
    simp [this, tot]
  | x :: r, h => by
    have hb := (canon_cons.1 h).1
    have ih := cN_tot h.tail
    obtain ⟨x1, x2⟩ := x
    simp only at hb
    obtain ⟨a, rfl⟩ : ∃ a : Nat, x1 = (a : Int) := ⟨x1.toNat, by omega⟩
    obtain ⟨b, rfl⟩ : ∃ b : Nat, x2 = (b : Int) := ⟨x2.toNat, by omega⟩
    have e : cN (inF (((a : Int), (b : Int)) :: r)) 256 = cN (fun q => inF [((a : Int), (b : Int))] q || inF r q) 256 := cN_ext 256 (fun q _ => by
      rw [← inF_append]; rfl)
    rw [e, cN_or 256 (fun q _ => by
      rintro ⟨h1, h2⟩
      rw [inF_iff] at h1 h2
      have := h.tail_above h2
      rw [in_one] at h1
      simp only at h1 this
      omega), cN_one (by omega), if_neg (by omega)]
    simp only [tot]
    push_cast
    omega
theorem nxD_spec (f : Nat → Bool) : ∀ k, k ≤ 256 → (nxD f k = -1 ∧ ∀ q, 256 - k ≤ q → q < 256 → f q = false) ∨ ∃ q : Nat, nxD f k = (q : Int) ∧ 256 - k ≤ q ∧ q < 256 ∧ f q = true ∧ ∀ q', 256 - k ≤ q' → q' < q → f q' = false
  | 0, _ => .inl ⟨rfl, fun q a b => by omega⟩
  | k + 1, h => by
    have ih := nxD_spec f k (by omega)
    simp only [nxD]
    by_cases hf : f (255 - k) = true
    · rw [if_pos hf]
      exact .inr ⟨255 - k, rfl, by omega, by omega, hf, fun q' a b => by omega⟩
    · rw [if_neg hf]
      have hf' : f (255 - k) = false := by simpa using hf
      rcases ih with ⟨i1, i2⟩ | ⟨q, i1, i2, i3, i4, i5⟩
      · refine .inl ⟨i1, fun q a b => ?_⟩
        by_cases e : q = 255 - k
        · rw [e]; exact hf'
        · exact i2 q (by omega) b
      · refine .inr ⟨q, i1, by omega, i3, i4, fun q' a b => ?_⟩
        by_cases e : q' = 255 - k
        · rw [e]; exact hf'
        · exact i5 q' (by omega) b
/-- Next's answer is the one that was counted. -/
theorem nextB_nx {xs : List Sp} {f : Nat → Bool} (hc : Canon 255 xs) (hx : ∀ q : Nat, q < 256 → (f q = true ↔ In q xs)) {k : Nat} (hk : k < 256) : nextB ((255 - k : Nat) : Int) xs = if 0 ≤ nxD f (k + 1) then (nxD f (k + 1), true) else (0, false) := by
  obtain ⟨q, b, e⟩ : ∃ q b, nextB ((255 - k : Nat) : Int) xs = (q, b) := ⟨_, _, rfl⟩
  rw [e]
  have hs := nxD_spec f (k + 1) (by omega)
  cases b with
  | true =>
    obtain ⟨n1, n2, n3⟩ := nextB_some hc e
    have hb := hc.bounds n2
    obtain ⟨qn, rfl⟩ : ∃ qn : Nat, q = (qn : Int) := ⟨q.toNat, by omega⟩
    have hfq := (hx qn (by omega)).2 n2
    rcases hs with ⟨i1, i2⟩ | ⟨q', i1, i2, i3, i4, i5⟩
    · rw [i2 qn (by omega) (by omega)] at hfq; cases hfq
    · rw [i1, if_pos (by omega)]
      have : q' = qn := by
        by_cases a : q' < qn
        · exact absurd ((hx q' i3).1 i4) (n3 q' (by omega) (by omega))
        · by_cases b : qn < q'
          · rw [i5 qn (by omega) b] at hfq; cases hfq
          · omega
      rw [this]
  | false =>
    obtain ⟨rfl, n2⟩ := nextB_none hc e
    rcases hs with ⟨i1, i2⟩ | ⟨q', i1, i2, i3, i4, i5⟩
    · rw [i1, if_neg (by omega)]
    · exact absurd ((hx q' i3).1 i4) (n2 q' (by omega))
theorem has_f {xs : List Sp} {f : Nat → Bool} (hc : Canon 255 xs) (hx : ∀ q : Nat, q < 256 → (f q = true ↔ In q xs)) {q : Nat} (hq : q < 256) : coversB xs ((q : Int), (q : Int)) = f q := by
  have h1 := hasB_iff hc (q : Int)
  have h2 := hx q hq
  cases h3 : coversB xs ((q : Int), (q : Int)) <;> cases h4 : f q <;> simp_all
theorem size_f {xs : List Sp} {f : Nat → Bool} (hc : Canon 255 xs) (hx : ∀ q : Nat, q < 256 → (f q = true ↔ In q xs)) : sizeB xs = ((cnD f 256 : Int), true) := by
  have e : cN f 256 = cN (inF xs) 256 := cN_ext 256 (fun q hq => by
    have h1 := inF_iff xs q
    have h2 := hx q hq
    cases h3 : inF xs q <;> cases h4 : f q <;> simp_all)
  have h1 := cnD_cN f 256 (Nat.le_refl _)
  have h2 := cN_tot hc
  have h3 := cnD_le f 256
  rw [show cN f (256 - 256) = 0 from rfl, Nat.add_zero] at h1
  have ht : tot xs = (cnD f 256 : Int) := by rw [← h2, ← e, ← h1]
  unfold sizeB
  rw [ht, if_pos (by omega)]
end Go.Proofs.Ytogcpogoamoljaa
