/- Plain: an integer ends where its run ends. -/
import Derived.Test.YtlhecgokedckdaaDoorRefE0
namespace Go.Proofs.YtlhecgokedckdaaDoor
namespace Sc
theorem rsuf_full {n m k : Nat} {l : List Nat} (h : rsufF n l = .ok m k) : k = l.length := by
  cases l with
  | nil => cases h; rfl
  | cons b t =>
    rw [rsufF] at h
    by_cases h1 : unit b = 1
    · rw [if_pos h1] at h; cases h
    · rw [if_neg h1] at h
      cases h2 : over n (unit b) 0 with
      | true => rw [h2] at h; cases h
      | false =>
        rw [h2] at h
        cases t with
        | nil => cases h; rfl
        | cons c t => cases h
theorem rtail_full {base m k : Nat} {l : List Nat} (h : rtailF base l = .ok m k) : k = l.length := by
  unfold rtailF at h
  cases hd : digitsF base 0 l with
  | bad j => rw [hd] at h; cases h
  | ok n j =>
    rw [hd] at h
    simp only at h
    split at h
    · cases h
    · cases hs : rsufF n (l.drop j) with
      | bad i => rw [hs] at h; cases h
      | ok m' i =>
        rw [hs] at h
        have h1 := rsuf_full hs
        have h2 := digits_le hd
        cases h
        rw [List.length_drop] at h1
        omega
theorem rint_full {m k : Nat} {l : List Nat} (h : rintF l = .ok m k) : k = l.length := by
  unfold rintF at h
  split at h
  · rename_i hx
    cases hs : rtailF 16 (l.drop 2) with
    | bad i => rw [hs] at h; cases h
    | ok m' i =>
      rw [hs] at h
      have h1 := rtail_full hs
      cases h
      rw [List.length_drop] at h1
      have : 2 ≤ l.length := by
        unfold isHex at hx
        rw [decide_eq_true_iff] at hx
        have := congrArg List.length hx
        rw [List.length_take] at this
        simp at this
        omega
      omega
  · exact rtail_full h
theorem run_len : ∀ (l : List Nat), (l.take (runN l)).length = runN l
  | [] => rfl
  | b :: l => by
    rw [take_run_cons, runN_cons]
    split
    · rw [List.length_cons, run_len l]
    · rfl
theorem integer_end {m k : Nat} {l : List Nat} (hd : value (l.headD 0) < 10) (h : integerF l = .ok m k) : k = runN l := by
  rw [← rint_run hd] at h
  rw [rint_full h, run_len]
theorem digits_bad {base : Nat} : ∀ (l : List Nat) (n k : Nat), digitsF base n l = .bad k → k < l.length
  | [], n, k, h => by cases h
  | b :: l, n, k, h => by
    unfold digitsF at h
    split at h
    · cases h
    · split at h
      · cases h; simp
      · cases hd : digitsF base (n * base + value b) l with
        | ok m' j => rw [hd] at h; cases h
        | bad j =>
          rw [hd] at h
          have := digits_bad l _ _ hd
          cases h
          simp only [List.length_cons]
          omega
theorem rsuf_bad {n k : Nat} {l : List Nat} (h : rsufF n l = .bad k) : k < l.length := by
  cases l with
  | nil => cases h
  | cons b t =>
    rw [rsufF] at h
    by_cases h1 : unit b = 1
    · rw [if_pos h1] at h; cases h; simp
    · rw [if_neg h1] at h
      cases h2 : over n (unit b) 0 with
      | true => rw [h2] at h; cases h; simp
      | false =>
        rw [h2] at h
        cases t with
        | nil => cases h
        | cons c t => cases h; simp
theorem rtail_bad {base k : Nat} {l : List Nat} (h : rtailF base l = .bad k) : k ≤ l.length := by
  unfold rtailF at h
  cases hd : digitsF base 0 l with
  | bad j =>
    rw [hd] at h
    have := digits_bad l _ _ hd
    cases h
    omega
  | ok n j =>
    rw [hd] at h
    simp only at h
    split at h
    · cases h; omega
    · cases hs : rsufF n (l.drop j) with
      | ok m' i => rw [hs] at h; cases h
      | bad i =>
        rw [hs] at h
        have h1 := rsuf_bad hs
        have h2 := digits_le hd
        cases h
        rw [List.length_drop] at h1
        omega
theorem rint_bad {k : Nat} {l : List Nat} (h : rintF l = .bad k) : k ≤ l.length := by
  unfold rintF at h
  split at h
  · rename_i hx
    cases hs : rtailF 16 (l.drop 2) with
    | ok m' i => rw [hs] at h; cases h
    | bad i =>
      rw [hs] at h
      have h1 := rtail_bad hs
      cases h
      rw [List.length_drop] at h1
      have : 2 ≤ l.length := by
        unfold isHex at hx
        rw [decide_eq_true_iff] at hx
        have := congrArg List.length hx
        rw [List.length_take] at this
        simp at this
        omega
      omega
  · exact rtail_bad h
theorem integer_off {k : Nat} {l : List Nat} (hd : value (l.headD 0) < 10) (h : integerF l = .bad k) : k ≤ runN l := by
  rw [← rint_run hd] at h
  rw [← run_len]
  exact rint_bad h
theorem sign_bad {l : List Nat} {j : Nat} (h : signF l = .bad j) : j = 1 := by
  unfold signF at h
  split at h
  · cases h; rfl
  · cases h
end Sc
end Go.Proofs.YtlhecgokedckdaaDoor
