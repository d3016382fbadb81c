/- ScanTokens: Roomy, Within, told, the walk. -/
import Derived.Test.YtlhecgokedckdaaDoorRefH
namespace Go.Proofs.YtlhecgokedckdaaDoor
open Go.RowKit Sc
theorem toksF_count : ∀ (f a : Nat) (l : List Nat) (ts : List Tok), toksF f a l = .ok ts → ts.length ≤ l.length
  | 0, a, l, ts, h => by cases h
  | f + 1, a, l, ts, h => by
    rw [toksF_tail] at h
    have hle := Sc.skipN_le false l
    have hdl : (l.drop (skipN false l)).length ≤ l.length := by rw [List.length_drop]; omega
    generalize l.drop (skipN false l) = m at *
    by_cases hm : m = []
    · rw [tail_end hm] at h
      cases h
      exact Nat.zero_le _
    · unfold tailT at h
      rw [if_neg (by simpa using hm)] at h
      cases hx : lexF m with
      | bad k => rw [hx] at h; cases h
      | ok x k =>
        rw [hx] at h
        simp only at h
        cases ht : toksF f (a + skipN false l + k) (m.drop k) with
        | error p => rw [ht] at h; cases h
        | ok us =>
          rw [ht] at h
          cases h
          have := toksF_count f _ _ _ ht
          obtain ⟨h1, h2⟩ := Sc.lex_len hx
          rw [List.length_drop] at this
          simp only [List.length_append, List.length_cons, List.length_nil]
          omega
theorem tokens_count (l : List Nat) : (tokens l).1.length ≤ 1048576 := by
  by_cases h : 1048576 < l.length
  · unfold tokens
    rw [if_pos h]
    exact Nat.zero_le _
  · rw [tokens_eq h]
    cases ht : toksF (l.length + 1) 0 l with
    | error p => exact Nat.zero_le _
    | ok us => have := toksF_count _ _ _ _ ht; show us.length ≤ _; omega
end Go.Proofs.YtlhecgokedckdaaDoor
