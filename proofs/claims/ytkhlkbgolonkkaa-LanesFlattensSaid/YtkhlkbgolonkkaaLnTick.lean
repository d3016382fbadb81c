/- Lanes: earliest deadline first, tick by tick (plain mathematics). Own work. -/
import Derived.Test.YtkhlkbgolonkkaaLnSum
import Derived.Test.YtkhlkbgolonkkaaLnHpO
import Derived.Test.YtkhlkbgolonkkaaLnRuM
namespace Go.Proofs.Ytkhlkbgolonkkaa
set_option linter.unusedVariables false
def bN (xs : List R4) (i : Nat) : Nat := match xs[i]? with | some r => r.b | none => 0
def pN (xs : List R4) (i : Nat) : Nat := match xs[i]? with | some r => r.p | none => 1
theorem bN_eq (xs : List R4) (i : Nat) (h : i < xs.length) : bN xs i = xs[i].b := by unfold bN; rw [List.getElem?_eq_getElem h]
theorem pN_eq (xs : List R4) (i : Nat) (h : i < xs.length) : pN xs i = xs[i].p := by unfold pN; rw [List.getElem?_eq_getElem h]
/-- the name of who runs -/
noncomputable def subj (xs : List R4) : Option Nat → ByteArray
  | none => sN
  | some i => match xs[i]? with | some r => r.s | none => sN
/-- when a need's period ends -/
def dueT (xs : List R4) (t i : Nat) : Nat := (t / pN xs i + 1) * pN xs i
/-- of the first k the one with something left that is due first -/
def bestI (L D : Nat → Nat) : Nat → Option Nat
  | 0 => none
  | k + 1 => match bestI L D k with
    | none => if 0 < L k then some k else none
    | some j => if 0 < L k ∧ D k < D j then some k else some j
theorem bestI_spec (L D : Nat → Nat) : ∀ k, (bestI L D k = none → ∀ i, i < k → L i = 0) ∧ ∀ j, bestI L D k = some j → j < k ∧ 0 < L j ∧ ∀ i, i < k → 0 < L i → D j < D i ∨ (D j = D i ∧ j ≤ i)
  | 0 => ⟨fun _ i h => by omega, fun j h => by cases h⟩
  | k + 1 => by
    obtain ⟨h1, h2⟩ := bestI_spec L D k
    unfold bestI
    cases hb : bestI L D k with
    | none =>
      have h3 := h1 hb
      simp only
      by_cases hl : 0 < L k
      · rw [if_pos hl]
        refine ⟨(fun e => by cases e), fun j e => ?_⟩
        cases e
        refine ⟨by omega, hl, fun i hi h0 => ?_⟩
        by_cases hik : i = k
        · subst hik; exact .inr ⟨rfl, Nat.le_refl _⟩
        · have := h3 i (by omega); omega
      · rw [if_neg hl]
        refine ⟨fun _ i hi => ?_, fun j e => by cases e⟩
        by_cases hik : i = k
        · subst hik; omega
        · exact h3 i (by omega)
    | some j0 =>
      obtain ⟨a1, a2, a3⟩ := h2 j0 hb
      simp only
      by_cases hl : 0 < L k ∧ D k < D j0
      · rw [if_pos hl]
        refine ⟨(fun e => by cases e), fun j e => ?_⟩
        cases e
        refine ⟨by omega, hl.1, fun i hi h0 => ?_⟩
        by_cases hik : i = k
        · subst hik; exact .inr ⟨rfl, Nat.le_refl _⟩
        · have := a3 i (by omega) h0; omega
      · rw [if_neg hl]
        refine ⟨(fun e => by cases e), fun j e => ?_⟩
        cases e
        refine ⟨by omega, a2, fun i hi h0 => ?_⟩
        by_cases hik : i = k
        · subst hik; omega
        · exact a3 i (by omega) h0
theorem best_is {L D : Nat → Nat} {k j : Nat} (hj : j < k) (hl : 0 < L j) (h : ∀ i, i < k → 0 < L i → D j < D i ∨ (D j = D i ∧ j ≤ i)) : bestI L D k = some j := by
  obtain ⟨h1, h2⟩ := bestI_spec L D k
  cases hb : bestI L D k with
  | none => have := h1 hb j hj; omega
  | some i =>
    obtain ⟨a1, a2, a3⟩ := h2 i hb
    have b1 := a3 j hj hl
    have b2 := h i a1 a2
    congr 1
    omega
theorem best_none {L D : Nat → Nat} {k : Nat} (h : ∀ i, i < k → L i = 0) : bestI L D k = none := by
  obtain ⟨h1, h2⟩ := bestI_spec L D k
  cases hb : bestI L D k with
  | none => rfl
  | some i =>
    obtain ⟨a1, a2, a3⟩ := h2 i hb
    have := h i a1
    omega
theorem bestI_congr {L D L' D' : Nat → Nat} : ∀ k, (∀ i, i < k → L i = L' i ∧ D i = D' i) → bestI L D k = bestI L' D' k
  | 0, _ => rfl
  | k + 1, h => by
    have h1 := bestI_congr k fun i hi => h i (by omega)
    have h2 := h k (by omega)
    unfold bestI
    rw [h1, h2.1, h2.2]
    cases hb : bestI L' D' k with
    | none => rfl
    | some j =>
      have h3 := ((bestI_spec L' D' k).2 j hb).1
      simp only
      rw [(h j (by omega)).2]
/-- what is left of each need at a tick -/
def Lr (xs : List R4) : Nat → (Nat → Nat)
  | 0 => fun i => bN xs i
  | t + 1 => fun i => if (t + 1) % pN xs i = 0 then bN xs i else Lr xs t i - (if bestI (Lr xs t) (dueT xs t) xs.length = some i then 1 else 0)
/-- who runs at a tick -/
def bestT (xs : List R4) (t : Nat) : Option Nat := bestI (Lr xs t) (dueT xs t) xs.length
/-- a stretch of ticks in which no job is released or done -/
theorem lr_stretch {xs : List R4} {e nx : Nat} {o : Option Nat} {t : Nat} (hp : ∀ i, i < xs.length → 1 ≤ pN xs i) (hd : ∀ i, i < xs.length → ∀ z, z % pN xs i = 0 → e < z → nx ≤ z) (hnx : e + t ≤ nx)
    (hb : ∀ s, s < t → bestI (fun i => Lr xs e i - (if o = some i then s else 0)) (dueT xs e) xs.length = o) : ∀ s, s < t → (∀ i, i < xs.length → Lr xs (e + s) i = Lr xs e i - (if o = some i then s else 0)) ∧ bestT xs (e + s) = o := by
  have hdue : ∀ s, s < t → ∀ i, i < xs.length → dueT xs (e + s) i = dueT xs e i := by
    intro s hs i hi
    have hp1 := hp i hi
    have h1 := hd i hi ((e / pN xs i + 1) * pN xs i) (by simp) (by
      have := Nat.div_add_mod e (pN xs i)
      have h2 := Nat.mod_lt e (show 0 < pN xs i by omega)
      rw [Nat.add_mul, Nat.one_mul, Nat.mul_comm (e / pN xs i)]
      omega)
    unfold dueT
    congr 2
    refine Nat.le_antisymm ?_ (Nat.div_le_div_right (by omega))
    refine Nat.le_of_lt_succ ?_
    rw [Nat.div_lt_iff_lt_mul (by omega)]
    show e + s < (e / pN xs i + 1) * pN xs i
    omega
  intro s
  induction s with
  | zero =>
    intro h0
    refine ⟨fun i hi => by rw [Nat.add_zero]; split <;> omega, ?_⟩
    have h1 := hb 0 h0
    rw [Nat.add_zero, bestT, ← h1]
    exact bestI_congr _ fun i hi => ⟨by split <;> omega, rfl⟩
  | succ s ih =>
    intro hs
    obtain ⟨i1, i2⟩ := ih (by omega)
    have h3 : ∀ i, i < xs.length → Lr xs (e + (s + 1)) i = Lr xs e i - (if o = some i then s + 1 else 0) := by
      intro i hi
      have hr : ¬ (e + s + 1) % pN xs i = 0 := fun h => by
        have := hd i hi _ h (by omega)
        omega
      show (if (e + s + 1) % pN xs i = 0 then bN xs i else Lr xs (e + s) i - (if bestT xs (e + s) = some i then 1 else 0)) = _
      rw [if_neg hr, i2, i1 i hi]
      split <;> omega
    refine ⟨h3, ?_⟩
    rw [bestT, ← hb (s + 1) hs]
    exact bestI_congr _ fun i hi => ⟨h3 i hi, hdue (s + 1) hs i hi⟩
theorem lr_after {xs : List R4} {e nx : Nat} {o : Option Nat} {t : Nat} (hp : ∀ i, i < xs.length → 1 ≤ pN xs i) (hd : ∀ i, i < xs.length → ∀ z, z % pN xs i = 0 → e < z → nx ≤ z) (hnx : e + t ≤ nx) (ht : 1 ≤ t)
    (hb : ∀ s, s < t → bestI (fun i => Lr xs e i - (if o = some i then s else 0)) (dueT xs e) xs.length = o) : ∀ i, i < xs.length → Lr xs (e + t) i = if (e + t) % pN xs i = 0 then bN xs i else Lr xs e i - (if o = some i then t else 0) := by
  intro i hi
  obtain ⟨s, rfl⟩ : ∃ s, t = s + 1 := ⟨t - 1, by omega⟩
  obtain ⟨i1, i2⟩ := lr_stretch hp hd hnx hb s (by omega)
  show (if (e + s + 1) % pN xs i = 0 then bN xs i else Lr xs (e + s) i - (if bestT xs (e + s) = some i then 1 else 0)) = _
  rw [i2, i1 i hi, Nat.add_assoc]
  split
  · rfl
  · split <;> omega
end Go.Proofs.Ytkhlkbgolonkkaa
