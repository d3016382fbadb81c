/- LanesRuns: the walk. Own work. -/
import Derived.Test.YtkhlkbgolonkkaaLnRuM
import Derived.Test.YtkhlkbgolonkkaaLnKnown
namespace Go.Proofs.Ytkhlkbgolonkkaa
open Go.RowKit
theorem ref_bad {m : Nat} : ∀ (xs : List R4) (l i : Nat), (∀ r ∈ xs, 1 ≤ r.b ∧ r.b ≤ m) → (sumN xs ≤ l → (refF m false l i xs).2 = 0) ∧ (l < sumN xs → (refF m false l i xs).2 = 93)
  | [], l, i, _ => ⟨fun _ => rfl, fun h => absurd h (by simp [sumN])⟩
  | x :: r, l, i, h => by
    have hx := h x (by simp)
    have e : wantsF m false x = (x.b, 0) := by unfold wantsF; rw [if_neg (by omega), if_pos rfl]
    unfold refF
    rw [e]
    simp only [ne_eq, not_true_eq_false, if_false, sumN]
    by_cases h2 : l < x.b
    · rw [if_pos h2]
      exact ⟨fun h3 => by omega, fun _ => rfl⟩
    · rw [if_neg h2]
      obtain ⟨a1, a2⟩ := ref_bad r (l - x.b) (i + 1) (fun y hy => h y (by simp [hy]))
      exact ⟨fun h3 => a1 (by omega), fun h3 => a2 (by omega)⟩
theorem gd_bounds : ∀ (xs : List S3) (e : Int) (p : Option ByteArray), Gd e p xs → ∀ x ∈ xs, e ≤ x.f ∧ x.f < x.t ∧ x.t ≤ endE e xs
  | [], _, _, _, x, h => by cases h
  | y :: r, e, p, h, x, hx => by
    have h1 := gd_lt h.1
    have h2 := gd_le r _ _ h.2
    show e ≤ x.f ∧ x.f < x.t ∧ x.t ≤ endE y.t r
    rcases List.mem_cons.1 hx with rfl | hx
    · omega
    · have := gd_bounds r _ _ h.2 x hx
      omega
theorem made_ok2 {m : Nat} {xs : List R4} (hs : sumN xs ≤ m) (hm : m ≤ 65536) : ∀ x ∈ madeF m xs, I64 x ∧ x.t ≤ (m : Int) := by
  have e0 : endF [] = 0 := rfl
  obtain ⟨k1, _, _⟩ := turn_all xs [] trivial (by rw [e0]; omega)
  have ee := turnF_end xs []
  rw [e0] at ee
  obtain ⟨g1, _, _⟩ := adds_gd (s := sN) (n := (m : Int) - (sumN xs : Int)) k1 (by omega)
  have ef := adds_end (turnF [] xs) sN ((m : Int) - (sumN xs : Int))
  intro x hx
  have h1 := gd_bounds _ _ _ g1 x hx
  have h2 := endE_endF (adds (turnF [] xs) sN ((m : Int) - (sumN xs : Int)))
  unfold I64
  omega
theorem made_ok {m : Nat} {xs : List R4} (hs : sumN xs ≤ m) (hm : m ≤ 65536) : ∀ x ∈ madeF m xs, I64 x := fun x hx => (made_ok2 hs hm x hx).1
theorem find_bd {M : Int} (hM : 0 ≤ M) {t : Int} (ht : 0 ≤ t) : ∀ (xs : List S3), (∀ x ∈ xs, x.t ≤ M) → (findS t xs).2 ≤ M
  | [], _ => hM
  | x :: r, h => by
    unfold findS
    have := h x (by simp)
    split
    · show x.t - t ≤ M
      omega
    · exact find_bd hM ht r (fun y hy => h y (by simp [hy]))
/-- Sched, as the law asks it -/
theorem sched_law {m : Nat} {xs : List R4} (hs : sumN xs ≤ m) (hm0 : 0 < m) (hm : m ≤ 65536) (hl : (madeF m xs).length ≤ 4096) {t : Nat} (ht : t < m) {S : ByteArray} (hS : (findS (t : Int) (madeF m xs)).1 = S) : ∃ mr : Nat, (findS (t : Int) (madeF m xs)) = (S, (mr : Int)) ∧ 1 ≤ mr ∧ mr ≤ 65536 ∧ ∀ W u, Rs W u (madeF m xs) → Calls Try.prog 16 #[u, .int .i64 (t : Int)] W fun e w' => e = .returned (.tuple #[.string S, .int .i64 (mr : Int)]) ∧ Below W.heap.size W w' := by
  obtain ⟨_, _, _, h4⟩ := made_all hs hm0
  have h5 := h4 (t : Int) (by omega) (by omega)
  have h6 := find_bd (M := (m : Int)) (by omega) (t := (t : Int)) (by omega) _ (fun x hx => (made_ok2 hs hm x hx).2)
  refine ⟨(findS (t : Int) (madeF m xs)).2.toNat, ?_, by omega, by omega, fun W u hu => ?_⟩
  · rw [Int.toNat_of_nonneg (by omega), ← hS]
  · have h7 := sched_any (o := (t : Int)) hu (by omega)
    rw [sched_made hs hm0 (by omega) (by omega), hS] at h7
    rw [Int.toNat_of_nonneg (by omega)]
    exact h7
theorem OwnS.rs {w : World} {base : Nat} {v : Value} {xs : List S3} (h : OwnS w base v xs) (hx : ∀ x ∈ xs, I64 x) : Rs w v xs := by
  by_cases hp : 0 < xs.length
  · obtain ⟨g, cap, rfl, _, _, hc, hm⟩ := h.pos hp
    refine ⟨some ⟨g, 0, none⟩, cap, rfl, hc, hm, hx, fun i hi => ⟨g, 0, rfl, ?_, ?_, ?_⟩⟩
    · have := h.cell i 0 hi (by omega)
      rw [Nat.zero_add]
      exact this
    · have := h.cell i 1 hi (by omega)
      rw [Nat.zero_add]
      exact this
    · have := h.cell i 2 hi (by omega)
      rw [Nat.zero_add]
      exact this
  · have h0 : xs = [] := List.eq_nil_of_length_eq_zero (by omega)
    subst h0
    rcases h.2 with ⟨rfl, _⟩ | ⟨g, cap, cur, rfl, _, _, h1, h2, _⟩
    · exact ⟨none, 0, rfl, Nat.le_refl _, Nat.zero_le _, hx, fun i hi => by simp at hi⟩
    · exact ⟨_, cap, rfl, h1, h2, hx, fun i hi => by simp at hi⟩

theorem flat_law {w : World} {v : Value} {xs : List R4} {m : Nat} {q cp : Int} (h : Rn w v xs) (hm : m ≤ 65536) (hb : ∀ r ∈ xs, 1 ≤ r.b ∧ r.b ≤ m) : Calls Try.prog 10 #[.int .u64 (m : Int), .agg #[.int .i64 q, .int .u64 cp, .bool false, v]] w fun e w' => Below w.heap.size w w' ∧
    ((m < sumN xs ∧ ∃ at' : Int, e = .returned (.tuple #[.slice none 0 0, .int .i64 at', .int .i64 93])) ∨
     (sumN xs ≤ m ∧ ∃ at' er : Int, (er = 4 ∨ er = 92) ∧ e = .returned (.tuple #[.slice none 0 0, .int .i64 at', .int .i64 er])) ∨
     (sumN xs ≤ m ∧ 0 < m ∧ (madeF m xs).length ≤ 4096 ∧ ∃ u, e = .returned (.tuple #[u, .int .i64 0, .int .i64 0]) ∧ Rs w' u (madeF m xs))) := by
  obtain ⟨a1, a2⟩ := ref_bad xs m 0 hb
  by_cases h0 : m = 0
  · refine (flatten_unframed (.inl h0)).mono ?_
    rintro e w' ⟨rfl, hbl⟩
    have hx : xs = [] := by
      cases xs with
      | nil => rfl
      | cons x r => have := hb x (by simp); omega
    exact ⟨hbl, .inr (.inl ⟨by rw [hx]; exact Nat.zero_le _, _, _, .inr rfl, rfl⟩)⟩
  · refine (flatten_runs h (by omega) hm).mono ?_
    rintro e w' ⟨hbl, ⟨hr, rfl⟩ | ⟨hr, hl, rfl⟩ | ⟨hr, hl, u, rfl, ho⟩⟩
    · refine ⟨hbl, .inl ?_⟩
      by_cases hs : sumN xs ≤ m
      · exact absurd (a1 hs) hr
      · exact ⟨by omega, _, by rw [a2 (by omega)]⟩
    · have hs : sumN xs ≤ m := Classical.byContradiction fun hc => by have := a2 (by omega); omega
      exact ⟨hbl, .inr (.inl ⟨hs, _, _, .inl rfl, rfl⟩)⟩
    · have hs : sumN xs ≤ m := Classical.byContradiction fun hc => by have := a2 (by omega); omega
      exact ⟨hbl, .inr (.inr ⟨hs, by omega, hl, u, rfl, ho.rs (made_ok hs hm)⟩)⟩
end Go.Proofs.Ytkhlkbgolonkkaa
