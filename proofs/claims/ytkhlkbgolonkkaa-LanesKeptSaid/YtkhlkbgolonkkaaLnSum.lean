/- Lanes: sums over jobs; what all needs want between two ticks (plain mathematics). Own work. -/
import Derived.Test.YtkhlkbgolonkkaaLnFltN
namespace Go.Proofs.Ytkhlkbgolonkkaa
set_option linter.unusedVariables false
/-- what is left of some jobs -/
def sm (f : J4 → Bool) : List J4 → Int
  | [] => 0
  | x :: r => (if f x = true then x.l else 0) + sm f r
theorem sm_append (f : J4 → Bool) : ∀ (xs ys : List J4), sm f (xs ++ ys) = sm f xs + sm f ys
  | [], ys => by simp [sm]
  | x :: r, ys => by simp only [List.cons_append, sm, sm_append f r ys]; omega
theorem sm_perm (f : J4 → Bool) {xs ys : List J4} (h : xs.Perm ys) : sm f xs = sm f ys := by
  induction h with
  | nil => rfl
  | cons x _ ih => simp only [sm, ih]
  | swap x y l => simp only [sm]; omega
  | trans _ _ h1 h2 => exact h1.trans h2
theorem sm_nonneg (f : J4 → Bool) : ∀ (xs : List J4), (∀ x ∈ xs, 0 ≤ x.l) → 0 ≤ sm f xs
  | [], _ => Int.le_refl _
  | x :: r, h => by
    have h1 := sm_nonneg f r fun y hy => h y (List.mem_cons_of_mem _ hy)
    have h2 := h x List.mem_cons_self
    simp only [sm]
    split <;> omega
theorem sm_congr (f g : J4 → Bool) : ∀ (xs : List J4), (∀ x ∈ xs, f x = g x) → sm f xs = sm g xs
  | [], _ => rfl
  | x :: r, h => by
    simp only [sm, sm_congr f g r fun y hy => h y (List.mem_cons_of_mem _ hy), h x List.mem_cons_self]
theorem sm_zero (f : J4 → Bool) : ∀ (xs : List J4), (∀ x ∈ xs, f x = false) → sm f xs = 0
  | [], _ => rfl
  | x :: r, h => by
    simp only [sm, sm_zero f r fun y hy => h y (List.mem_cons_of_mem _ hy), h x List.mem_cons_self]
    rfl
theorem sm_mono (f g : J4 → Bool) : ∀ (xs : List J4), (∀ x ∈ xs, 0 ≤ x.l) → (∀ x ∈ xs, f x = true → g x = true) → sm f xs ≤ sm g xs
  | [], _, _ => Int.le_refl _
  | x :: r, h, hg => by
    have h1 := sm_mono f g r (fun y hy => h y (List.mem_cons_of_mem _ hy)) fun y hy => hg y (List.mem_cons_of_mem _ hy)
    have h2 := h x List.mem_cons_self
    have h3 := hg x List.mem_cons_self
    simp only [sm]
    by_cases hf : f x = true
    · rw [if_pos hf, if_pos (h3 hf)]; omega
    · rw [if_neg hf]
      split <;> omega
theorem sm_mem (f : J4 → Bool) : ∀ (xs : List J4), (∀ x ∈ xs, 0 ≤ x.l) → ∀ x ∈ xs, f x = true → x.l ≤ sm f xs
  | y :: r, h, x, hx, hf => by
    have h1 := sm_nonneg f r fun z hz => h z (List.mem_cons_of_mem _ hz)
    have h2 := h y List.mem_cons_self
    simp only [sm]
    rcases List.mem_cons.1 hx with rfl | hx
    · rw [if_pos hf]; omega
    · have h3 := sm_mem f r (fun z hz => h z (List.mem_cons_of_mem _ hz)) x hx hf
      split <;> omega
theorem sm_some (f : J4 → Bool) (xs : List J4) (h : sm f xs ≠ 0) : ∃ x ∈ xs, f x = true :=
  Classical.byContradiction fun hc => h (sm_zero f xs fun x hx => by
    cases hf : f x with
    | false => rfl
    | true => exact absurd ⟨x, hx, hf⟩ hc)
/-- how many of a need's jobs are between s and D -/
def cntI (p : Nat) (s D : Int) : Nat → Nat
  | 0 => 0
  | q + 1 => cntI p s D q + if s ≤ ((q * p : Nat) : Int) ∧ ((q * p + p : Nat) : Int) ≤ D then 1 else 0
def inW (s D : Int) (x : J4) : Bool := decide (s ≤ x.r ∧ x.d ≤ D)
theorem sm_jobsI (m i : Nat) (r : R4) (s D : Int) : ∀ q, sm (inW s D) (jobsI m i r q) = (r.b : Int) * (cntI r.p s D q : Int)
  | 0 => by simp [jobsI, sm, cntI]
  | q + 1 => by
    rw [jobsI_next, sm_append, sm_jobsI m i r s D q]
    by_cases h : s ≤ ((q * r.p : Nat) : Int) ∧ ((q * r.p + r.p : Nat) : Int) ≤ D
    · have hf : inW s D ⟨(i : Int), ((q * r.p : Nat) : Int), ((q * r.p + r.p : Nat) : Int), (r.b : Int)⟩ = true := decide_eq_true h
      simp only [sm, cntI]
      rw [if_pos hf, if_pos h, Int.natCast_add, Int.mul_add]
      simp
    · have hf : ¬ inW s D ⟨(i : Int), ((q * r.p : Nat) : Int), ((q * r.p + r.p : Nat) : Int), (r.b : Int)⟩ = true := by
        rw [inW, decide_eq_true_eq]
        exact h
      simp only [sm, cntI]
      rw [if_neg hf, if_neg h]
      simp
theorem cntI_le (p : Nat) (hp : 1 ≤ p) (s D : Int) (hs : 0 ≤ s) (hD : s ≤ D) : ∀ q, ((cntI p s D q * p : Nat) : Int) ≤ D - s ∧ (s ≤ ((q * p : Nat) : Int) → ((cntI p s D q * p : Nat) : Int) ≤ ((q * p : Nat) : Int) - s) ∧ (((q * p : Nat) : Int) ≤ s → cntI p s D q = 0)
  | 0 => by simp [cntI]; omega
  | q + 1 => by
    obtain ⟨h1, h2, h3⟩ := cntI_le p hp s D hs hD q
    simp only [cntI]
    by_cases h : s ≤ ((q * p : Nat) : Int) ∧ ((q * p + p : Nat) : Int) ≤ D
    · rw [if_pos h, Nat.add_mul, Nat.one_mul, Nat.succ_mul]
      have h4 := h2 h.1
      generalize cntI p s D q * p = C at *
      exact ⟨by omega, fun _ => by omega, fun h5 => by omega⟩
    · rw [if_neg h, Nat.add_zero, Nat.succ_mul]
      generalize hC : cntI p s D q * p = C at *
      refine ⟨h1, fun h5 => ?_, fun h5 => h3 (by omega)⟩
      by_cases h6 : s ≤ ((q * p : Nat) : Int)
      · have := h2 h6; omega
      · have := h3 (by omega)
        rw [this] at hC
        omega
theorem want_one {m i : Nat} {r : R4} (hp : 1 ≤ r.p) (hd : m % r.p = 0) {s D : Int} (hs : 0 ≤ s) (hD : s ≤ D) : (m : Int) * sm (inW s D) (jobsI m i r (m / r.p)) ≤ ((r.b * (m / r.p) : Nat) : Int) * (D - s) := by
  have hm : (m : Int) = ((m / r.p : Nat) : Int) * (r.p : Int) := by
    have := Nat.div_add_mod m r.p
    rw [hd, Nat.add_zero, Nat.mul_comm] at this
    rw [← Int.natCast_mul, this]
  rw [sm_jobsI]
  have h1 := (cntI_le r.p hp s D hs hD (m / r.p)).1
  generalize m / r.p = q at *
  generalize cntI r.p s D q = c at *
  have e : (m : Int) * ((r.b : Int) * (c : Int)) = ((r.b * q : Nat) : Int) * ((c * r.p : Nat) : Int) := by
    rw [hm, Int.natCast_mul, Int.natCast_mul]
    ac_rfl
  rw [e]
  exact Int.mul_le_mul_of_nonneg_left h1 (Int.natCast_nonneg _)
theorem want_all {m : Nat} {s D : Int} (hs : 0 ≤ s) (hD : s ≤ D) : ∀ (xs : List R4) (k : Nat), NeedOk m xs → (m : Int) * sm (inW s D) (allJ m k xs) ≤ (wantN m xs : Int) * (D - s)
  | [], k, _ => by simp [allJ, sm, wantN]
  | r :: rs, k, h => by
    have h1 := h r List.mem_cons_self
    have h2 := want_one (i := k) (r := r) (by omega) h1.2.2.2.2 hs hD
    have h3 := want_all hs hD rs (k + 1) fun x hx => h x (List.mem_cons_of_mem _ hx)
    simp only [allJ, sm_append, wantN]
    rw [Int.mul_add, Int.natCast_add, Int.add_mul]
    omega
/-- between two ticks no more is wanted than there is -/
theorem want_le {m : Nat} {xs : List R4} (h : NeedOk m xs) (hw : wantN m xs ≤ m) (hm : 1 ≤ m) {s D : Int} (hs : 0 ≤ s) (hD : s ≤ D) : sm (inW s D) (allJ m 0 xs) ≤ D - s := by
  have h1 := want_all hs hD xs 0 h
  have h2 : (wantN m xs : Int) * (D - s) ≤ (m : Int) * (D - s) := Int.mul_le_mul_of_nonneg_right (by omega) (by omega)
  exact Int.le_of_mul_le_mul_left (Int.le_trans h1 h2) (by omega)
/-- the job of a need at a tick -/
def isAt (i : Int) (s : Int) (x : J4) : Bool := decide (x.n = i ∧ x.r = s)
theorem sm_jobsI_at (m i : Nat) (r : R4) (hp : 1 ≤ r.p) (s : Nat) : ∀ q, sm (isAt (i : Int) (s : Int)) (jobsI m i r q) = if s % r.p = 0 ∧ s < q * r.p then (r.b : Int) else 0
  | 0 => by simp [jobsI, sm]
  | q + 1 => by
    rw [jobsI_next, sm_append, sm_jobsI_at m i r hp s q]
    by_cases h : s = q * r.p
    · have hf : isAt (i : Int) (s : Int) ⟨(i : Int), ((q * r.p : Nat) : Int), ((q * r.p + r.p : Nat) : Int), (r.b : Int)⟩ = true := decide_eq_true ⟨rfl, by rw [h]⟩
      simp only [sm]
      rw [if_pos hf, if_neg (by omega), if_pos ⟨by rw [h]; simp, by rw [Nat.succ_mul]; omega⟩]
      omega
    · have hf : ¬ isAt (i : Int) (s : Int) ⟨(i : Int), ((q * r.p : Nat) : Int), ((q * r.p + r.p : Nat) : Int), (r.b : Int)⟩ = true := by
        rw [isAt, decide_eq_true_eq]
        rintro ⟨_, e⟩
        exact h (Int.natCast_inj.1 e).symm
      simp only [sm]
      rw [if_neg hf]
      have : (s % r.p = 0 ∧ s < q * r.p) ↔ (s % r.p = 0 ∧ s < (q + 1) * r.p) := by
        constructor
        · rintro ⟨a, b⟩; exact ⟨a, by rw [Nat.succ_mul]; omega⟩
        · rintro ⟨a, b⟩
          refine ⟨a, ?_⟩
          obtain ⟨c, hc⟩ := Nat.dvd_of_mod_eq_zero a
          have h5 : c < q + 1 := by
            refine Nat.lt_of_mul_lt_mul_right (a := r.p) ?_
            rw [Nat.mul_comm c, ← hc]
            exact b
          have h6 : c ≠ q := fun e => h (by rw [hc, e, Nat.mul_comm])
          have h7 : c * r.p < q * r.p := Nat.mul_lt_mul_of_pos_right (by omega) (by omega)
          rw [hc, Nat.mul_comm]
          exact h7
      simp only [this]
      omega
theorem sm_allJ_at {m : Nat} (s : Nat) : ∀ (xs : List R4) (k i : Nat) (hi : i < xs.length), NeedOk m xs → sm (isAt ((k + i : Nat) : Int) (s : Int)) (allJ m k xs) = if s % xs[i].p = 0 ∧ s < m then (xs[i].b : Int) else 0
  | r :: rs, k, i, hi, h => by
    have h1 := h r List.mem_cons_self
    simp only [allJ, sm_append]
    cases i with
    | zero =>
      have h2 := sm_jobsI_at m k r (by omega) s (m / r.p)
      have h3 : m / r.p * r.p = m := Nat.div_mul_cancel (Nat.dvd_of_mod_eq_zero h1.2.2.2.2)
      rw [h3] at h2
      rw [Nat.add_zero, h2, sm_zero _ (allJ m (k + 1) rs) fun x hx => ?_]
      · simp
      · obtain ⟨j, q, hj, _, e⟩ := allJ_mem m rs (k + 1) x hx
        rw [isAt, decide_eq_false_iff_not, e]
        rintro ⟨e2, _⟩
        simp only at e2
        omega
    | succ i =>
      have h2 := sm_allJ_at s rs (k + 1) i (by simpa using hi) fun x hx => h x (List.mem_cons_of_mem _ hx)
      rw [show k + (i + 1) = k + 1 + i by omega, h2, sm_zero _ (jobsI m k r _) fun x hx => ?_]
      · simp
      · obtain ⟨q, _, e⟩ := jobsI_mem hx
        rw [isAt, decide_eq_false_iff_not, e]
        rintro ⟨e2, _⟩
        simp only at e2
        omega
end Go.Proofs.Ytkhlkbgolonkkaa
