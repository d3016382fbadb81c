/- How many points there are; the longest span. Plain mathematics. Own work. -/
import Derived.Test.YtehedllcdpjebaaSpMath
namespace Go.Proofs.Ytehedllcdpjebaa.Sp

/-- How many points. -/
def tot : List Sp → Int
  | [] => 0
  | x :: r => (x.2 - x.1 + 1) + tot r
theorem tot_append (xs ys : List Sp) : tot (xs ++ ys) = tot xs + tot ys := by
  induction xs with
  | nil => simp [tot]
  | cons x r ih => simp only [List.cons_append, tot, ih]; omega
theorem tot_le {m lo hi : Int} : ∀ {xs : List Sp}, Canon m xs → (∀ x ∈ xs, lo ≤ x.1 ∧ x.2 < hi) → lo ≤ hi → tot xs ≤ hi - lo
  | [], _, _, h => by simp only [tot]; omega
  | x :: r, hc, hb, h => by
    have hx := hb x (by simp)
    have cx := (canon_cons.1 hc)
    have ih := tot_le (lo := x.2 + 1) (hi := hi) hc.tail (fun y hy => ⟨by have := cx.2.1 y hy; omega, (hb y (by simp [hy])).2⟩) (by omega)
    simp only [tot]
    omega
theorem tot_nonneg {m : Int} {xs : List Sp} (h : Canon m xs) : 0 ≤ tot xs := by
  induction xs with
  | nil => exact Int.le_refl _
  | cons x r ih =>
    have := (canon_cons.1 h).1
    have := ih h.tail
    simp only [tot]; omega
theorem tot_take {xs : List Sp} {k : Nat} (h : k < xs.length) : tot (xs.take (k + 1)) = tot (xs.take k) + (xs[k].2 - xs[k].1 + 1) := by
  rw [List.take_succ_eq_append_getElem h, tot_append]
  simp only [tot]; omega
theorem canon_take {m : Int} {xs : List Sp} (h : Canon m xs) (k : Nat) : Canon m (xs.take k) := by
  have e : xs.take k ++ xs.drop k = xs := List.take_append_drop _ _
  rw [← e] at h
  exact (canon_append.1 h).1
/-- What lies ahead of a span is no more than its First. -/
theorem tot_ahead {m : Int} {xs : List Sp} (h : Canon m xs) {k : Nat} (hk : k < xs.length) : tot (xs.take k) ≤ xs[k].1 := by
  have e : xs.take k ++ xs.drop k = xs := List.take_append_drop _ _
  have h' := h
  rw [← e] at h'
  have hd := (canon_append.1 h').2.2
  have hb := h.1 xs[k] (List.getElem_mem _)
  have := tot_le (lo := 0) (hi := xs[k].1) (canon_take h k) (fun x hx => ⟨(h.1 x (List.mem_of_mem_take hx)).1, by
    have := hd x hx xs[k] (List.mem_drop_iff_getElem.2 ⟨0, by simpa using hk, by simp⟩)
    omega⟩) hb.1
  omega
/-- Size's answer. -/
def sizeB (xs : List Sp) : Int × Bool := if tot xs ≤ 18446744073709551615 then (tot xs, true) else (0, false)
/-- The longest. -/
def bigger (m x : Sp) : Sp := if m.2 - m.1 < x.2 - x.1 then x else m
def biggest (x : Sp) (r : List Sp) : Sp := r.foldl bigger x
theorem biggest_take {x : Sp} {r : List Sp} {k : Nat} (h : k < r.length) : biggest x (r.take (k + 1)) = bigger (biggest x (r.take k)) r[k] := by
  unfold biggest
  rw [List.take_succ_eq_append_getElem h, List.foldl_append]
  rfl

theorem biggest_mem (x : Sp) (r : List Sp) : biggest x r ∈ x :: r := by
  induction r generalizing x with
  | nil => simp [biggest]
  | cons y r ih =>
    have := ih (bigger x y)
    show biggest (bigger x y) r ∈ _
    rcases List.mem_cons.1 this with h | h
    · rw [h]
      unfold bigger
      split <;> simp
    · simp [h]
theorem biggest_in {m : Int} {x : Sp} {r : List Sp} (h : Canon m (x :: r)) (k : Nat) : 0 ≤ (biggest x (r.take k)).1 ∧ (biggest x (r.take k)).1 ≤ (biggest x (r.take k)).2 ∧ (biggest x (r.take k)).2 ≤ m := by
  refine h.1 _ ?_
  rcases List.mem_cons.1 (biggest_mem x (r.take k)) with e | e
  · rw [e]; simp
  · exact List.mem_cons_of_mem _ (List.mem_of_mem_take e)

/-- Touches' answer. -/
def touchesB (xs : List Sp) (x : Sp) : Bool := (nextB x.1 xs).2 && decide ((nextB x.1 xs).1 ≤ x.2)
theorem touchesB_iff {m : Int} {xs : List Sp} (h : Canon m xs) (x : Sp) : touchesB xs x = true ↔ ∃ p, x.1 ≤ p ∧ p ≤ x.2 ∧ In p xs := by
  unfold touchesB
  obtain ⟨n, b, hn⟩ : ∃ n b, nextB x.1 xs = (n, b) := ⟨_, _, rfl⟩
  rw [hn]
  cases b with
  | true =>
    obtain ⟨h1, h2, h3⟩ := nextB_some h hn
    simp only [Bool.true_and, decide_eq_true_eq]
    constructor
    · exact fun q => ⟨n, h1, q, h2⟩
    · rintro ⟨p, a, b, c⟩
      by_cases g : p < n
      · exact absurd c (h3 p a g)
      · omega
  | false =>
    obtain ⟨_, h2⟩ := nextB_none h hn
    simp only [Bool.false_and, Bool.false_eq_true, false_iff]
    rintro ⟨p, a, b, c⟩
    exact h2 p a c

theorem sure {P : Int → Prop} (h : ∀ q, P q) : true = true ↔ ∀ q, P q := ⟨fun _ => h, fun _ => rfl⟩
theorem prop2 {A B : Prop} : (A ∧ B) ↔ (A ∧ ¬ (A ∧ ¬ B)) := by by_cases a : A <;> by_cases b : B <;> simp [a, b]
theorem prop3 {A B C : Prop} : (A ∧ ¬ (B ∨ C)) ↔ ((A ∧ ¬ B) ∧ ¬ C) := by by_cases a : A <;> by_cases b : B <;> simp [a, b]
theorem prop4 {A B C : Prop} : (A ∧ (B ∨ C)) ↔ ((A ∧ B) ∨ (A ∧ C)) := by by_cases a : A <;> simp [a]
theorem prop5 {A B : Prop} : ((A ∧ ¬ B) ∨ (A ∧ B)) ↔ A := by by_cases a : A <;> by_cases b : B <;> simp [a, b]
theorem prop7 {A B : Prop} (h : A → B) : (B ∧ ¬ (B ∧ ¬ A)) ↔ A := by by_cases a : A <;> by_cases b : B <;> simp_all
theorem prop8 {A B : Prop} : ((B ∧ ¬ A) ∧ A) ↔ False := by by_cases a : A <;> simp [a]

end Go.Proofs.Ytehedllcdpjebaa.Sp
