/- Fit, tried one by one, and the longest span: plain mathematics. Own work. -/
import Derived.Test.YtogcpogoamoljaaSpMath2
namespace Go.Proofs.Ytogcpogoamoljaa.Sp

/-- No more spans than points. -/
theorem canon_length {m : Int} {xs : List Sp} (h : Canon m xs) (hm : 0 ≤ m) : (xs.length : Int) ≤ m + 1 := by
  have h1 : ∀ ys : List Sp, Canon m ys → (ys.length : Int) ≤ tot ys := by
    intro ys
    induction ys with
    | nil => intro _; simp [tot]
    | cons y ys ih =>
      intro hy
      have b := (canon_cons.1 hy).1
      have := ih hy.tail
      simp only [tot, List.length_cons]
      omega
  have h2 := h1 xs h
  have h3 := tot_le (lo := 0) (hi := m + 1) h (fun x hx => by have := h.1 x hx; omega) (by omega)
  omega

/-- So many points lie at p and behind it. -/
def Runs (xs : List Sp) (size p : Int) : Prop := ∀ q, p ≤ q → q < p + size → In q xs

/-- The answer of one by one: the least multiple. -/
def Least (xs : List Sp) (size al : Int) (r : Int × Bool) : Prop :=
  (r.2 = true → 0 ≤ r.1 ∧ al ∣ r.1 ∧ Runs xs size r.1 ∧ ∀ p, 0 ≤ p → p < r.1 → al ∣ p → ¬ Runs xs size p) ∧
  (r.2 = false → r.1 = 0 ∧ ∀ p, 0 ≤ p → al ∣ p → ¬ Runs xs size p)

theorem Least.one {xs : List Sp} {size al : Int} {r s : Int × Bool} (h : Least xs size al r) (k : Least xs size al s) : r = s := by
  obtain ⟨n, b⟩ := r
  obtain ⟨m, c⟩ := s
  cases b <;> cases c
  · have := (h.2 rfl).1; have := (k.2 rfl).1; simp_all
  · exact absurd (k.1 rfl).2.2.1 ((h.2 rfl).2 _ (k.1 rfl).1 (k.1 rfl).2.1)
  · exact absurd (h.1 rfl).2.2.1 ((k.2 rfl).2 _ (h.1 rfl).1 (h.1 rfl).2.1)
  · have h1 := h.1 rfl
    have k1 := k.1 rfl
    simp only at h1 k1
    have : n = m := by
      by_cases e : n < m
      · exact absurd h1.2.2.1 (k1.2.2.2 n h1.1 e h1.2.1)
      · by_cases e' : m < n
        · exact absurd k1.2.2.1 (h1.2.2.2 m k1.1 e' k1.2.1)
        · omega
    rw [this]

theorem runs_tail {x : Sp} {r : List Sp} {size p : Int} : Runs r size p → Runs (x :: r) size p :=
  fun k q a b => (in_cons _ _ _).2 (.inr (k q a b))
theorem runs_cons {m : Int} {x : Sp} {r : List Sp} (h : Canon m (x :: r)) {size p : Int} (hs : 0 < size) (k : Runs (x :: r) size p) : (x.1 ≤ p ∧ p + size - 1 ≤ x.2) ∨ (x.2 < p ∧ Runs r size p) := by
  have hb := (canon_cons.1 h).1
  rcases (in_cons _ _ _).1 (k p (by omega) (by omega)) with hp | hp
  · refine .inl ⟨hp.1, ?_⟩
    by_cases e : p + size - 1 ≤ x.2
    · exact e
    · rcases (in_cons _ _ _).1 (k (x.2 + 1) (by omega) (by omega)) with hq | hq
      · omega
      · have := h.tail_above hq
        omega
  · have ha := h.tail_above hp
    refine .inr ⟨by omega, fun q a b => ?_⟩
    rcases (in_cons _ _ _).1 (k q a b) with hq | hq
    · omega
    · exact hq

/-- The least multiple at or above a. -/
theorem up_least {a al p : Int} (hal : 0 < al) (hp : al ∣ p) (ha : a ≤ p) : (if a % al = 0 then a else a + (al - a % al)) ≤ p := by
  split
  · exact ha
  · rename_i h
    obtain ⟨c, rfl⟩ := hp
    have e := Int.mul_ediv_add_emod a al
    have h0 := Int.emod_nonneg a (by omega : al ≠ 0)
    have h1 := Int.emod_lt_of_pos a hal
    have hlt : a / al < c := by
      by_cases k : a / al < c
      · exact k
      · exfalso
        have : al * c ≤ al * (a / al) := Int.mul_le_mul_of_nonneg_left (by omega) (by omega)
        omega
    have : al * (a / al + 1) ≤ al * c := Int.mul_le_mul_of_nonneg_left (by omega) (by omega)
    rw [Int.mul_add] at this
    omega
theorem up_multiple {a al : Int} : al ∣ (if a % al = 0 then a else a + (al - a % al)) := by
  split
  · rename_i h; exact Int.dvd_of_emod_eq_zero h
  · have e := Int.mul_ediv_add_emod a al
    refine ⟨a / al + 1, ?_⟩
    rw [Int.mul_add]
    omega

theorem bigger_first (m : Sp) : ∀ r : List Sp, ∃ l1 l2, m :: r = l1 ++ biggest m r :: l2 ∧ (∀ y ∈ l1, y.2 - y.1 < (biggest m r).2 - (biggest m r).1) ∧ ∀ y ∈ l2, y.2 - y.1 ≤ (biggest m r).2 - (biggest m r).1 := by
  intro r
  induction r generalizing m with
  | nil => exact ⟨[], [], rfl, by simp, by simp⟩
  | cons y r ih =>
    by_cases h : m.2 - m.1 < y.2 - y.1
    · have e : biggest m (y :: r) = biggest y r := by simp [biggest, bigger, h]
      obtain ⟨l1, l2, h1, h2, h3⟩ := ih y
      rw [e]
      refine ⟨m :: l1, l2, by rw [h1]; rfl, ?_, h3⟩
      intro z hz
      rcases List.mem_cons.1 hz with rfl | hz
      · have hy : y ∈ l1 ++ biggest y r :: l2 := h1 ▸ List.mem_cons_self
        rcases List.mem_append.1 hy with k | k
        · have := h2 _ k; omega
        · rcases List.mem_cons.1 k with k | k
          · rw [← k]; exact h
          · have := h3 _ k; omega
      · exact h2 z hz
    · have e : biggest m (y :: r) = biggest m r := by simp [biggest, bigger, h]
      obtain ⟨l1, l2, h1, h2, h3⟩ := ih m
      rw [e]
      cases l1 with
      | nil =>
        simp only [List.nil_append, List.cons.injEq] at h1
        refine ⟨[], y :: l2, by rw [← h1.1, h1.2]; rfl, by simp, ?_⟩
        intro z hz
        rcases List.mem_cons.1 hz with rfl | hz
        · rw [← h1.1]; omega
        · exact h3 z hz
      | cons z l1 =>
        simp only [List.cons_append, List.cons.injEq] at h1
        refine ⟨m :: y :: l1, l2, by show m :: y :: r = m :: y :: (l1 ++ biggest m r :: l2); rw [← h1.2], ?_, h3⟩
        have hm := h2 z List.mem_cons_self
        rw [← h1.1] at hm
        intro t ht
        rcases List.mem_cons.1 ht with rfl | ht
        · exact hm
        · rcases List.mem_cons.1 ht with rfl | ht
          · omega
          · exact h2 t (List.mem_cons_of_mem _ ht)
/-- What the last loop asks: none is longer; ahead of the one that was told all are shorter. -/
theorem biggest_all {m : Sp} {r : List Sp} {i : Nat} (hi : i < (m :: r).length) : ((m :: r)[i]).2 - ((m :: r)[i]).1 ≤ (biggest m r).2 - (biggest m r).1 ∧ (biggest m r ∉ (m :: r).take (i + 1) → ((m :: r)[i]).2 - ((m :: r)[i]).1 < (biggest m r).2 - (biggest m r).1) := by
  obtain ⟨l1, l2, h1, h2, h3⟩ := bigger_first m r
  generalize hb : biggest m r = b at *
  have hm : (m :: r)[i] ∈ l1 ++ b :: l2 := by rw [← h1]; exact List.getElem_mem hi
  constructor
  · rcases List.mem_append.1 hm with k | k
    · have := h2 _ k; omega
    · rcases List.mem_cons.1 k with k | k
      · rw [k]; exact Int.le_refl _
      · exact h3 _ k
  · intro hn
    by_cases hl : i < l1.length
    · have e : (m :: r)[i] = l1[i] := by simp [h1, List.getElem_append_left hl]
      rw [e]
      exact h2 _ (List.getElem_mem hl)
    · exfalso
      apply hn
      rw [h1, List.take_append]
      refine List.mem_append.2 (.inr ?_)
      obtain ⟨d, hd⟩ : ∃ d, i + 1 - l1.length = d + 1 := ⟨i - l1.length, by omega⟩
      rw [hd]
      simp
end Go.Proofs.Ytogcpogoamoljaa.Sp
