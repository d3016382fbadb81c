/- Plain: how long a lexeme is; the lexemes step by step. -/
import Derived.Test.YtlhecgokedckdaaDoorScText
namespace Go.Proofs.YtlhecgokedckdaaDoor
namespace Sc
theorem skipN_le (c : Bool) (l : List Nat) : skipN c l ≤ l.length := by
  induction l generalizing c with
  | nil => simp [skipN]
  | cons b l ih =>
    rw [skipN_cons]
    have h1 := ih false
    have h2 := ih c
    have h3 := ih true
    simp only [List.length_cons]
    split
    · omega
    · split
      · omega
      · split <;> omega
theorem runN_le (l : List Nat) : runN l ≤ l.length := by
  induction l with
  | nil => simp [runN]
  | cons b l ih =>
    rw [runN_cons]
    simp only [List.length_cons]
    split <;> omega
theorem digits_le {base n m k : Nat} {l : List Nat} (h : digitsF base n l = .ok m k) : k ≤ l.length := by
  induction l generalizing n m k with
  | nil => simp [digitsF] at h; omega
  | cons b l ih =>
    simp only [digitsF] at h
    split at h
    · cases h; omega
    · split at h
      · cases h
      · cases hd : digitsF base (n * base + value b) l with
        | ok m' k' =>
          rw [hd] at h
          simp only [Res.shift] at h
          cases h
          have := ih hd
          simp only [List.length_cons]
          omega
        | bad k' => rw [hd] at h; simp only [Res.shift] at h; cases h
theorem suffix_le {n m k : Nat} {l : List Nat} (h : suffixF n l = .ok m k) : k ≤ l.length := by
  unfold suffixF at h
  split at h
  · split at h
    · cases h
    · cases h; omega
  · rename_i hu
    split at h
    · cases h
    · split at h
      · cases h
      · cases h
        cases l with
        | nil => exact absurd rfl hu
        | cons b l => simp
theorem tail_le {base m k : Nat} {l : List Nat} (h : tailF base l = .ok m k) : k ≤ l.length := by
  unfold tailF at h
  cases hd : digitsF base 0 l with
  | bad j => rw [hd] at h; cases h
  | ok n j =>
    rw [hd] at h
    have h1 := digits_le hd
    cases hs : suffixF n (l.drop j) with
    | bad i => simp only [hs, Res.shift] at h; cases h
    | ok x i =>
      simp only [hs, Res.shift] at h
      cases h
      have := suffix_le hs
      simp at this
      omega
theorem tail_pos {base m k : Nat} {l : List Nat} (hb : ¬ base ≤ value (l.headD 0)) (h16 : base ≤ 16) (h : tailF base l = .ok m k) : 1 ≤ k := by
  unfold tailF at h
  cases l with
  | nil => exact absurd (show base ≤ value 0 from h16) hb
  | cons b t =>
    have hb' : ¬ base ≤ value b := hb
    cases hd : digitsF base 0 (b :: t) with
    | bad j => rw [hd] at h; cases h
    | ok n j =>
      rw [hd] at h
      have hj : 1 ≤ j := by
        simp only [digitsF, if_neg hb'] at hd
        split at hd
        · cases hd
        · cases hd2 : digitsF base (0 * base + value b) t with
          | ok m' k' => rw [hd2] at hd; simp only [Res.shift] at hd; cases hd; omega
          | bad k' => rw [hd2] at hd; simp only [Res.shift] at hd; cases hd
      cases hs : suffixF n ((b :: t).drop j) with
      | bad i => simp only [hs, Res.shift] at h; cases h
      | ok x i => simp only [hs, Res.shift] at h; cases h; omega
theorem digit_value {b : Nat} (h : cls b = 6) : value b < 10 := by
  have hb : b < 128 := by
    unfold cls at h
    split at h
    · assumption
    · omega
  have key : ∀ t : Fin 128, cls t.val = 6 → value t.val < 10 := by decide
  exact key ⟨b, hb⟩ h
theorem integer_len {m k : Nat} {l : List Nat} (hc : cls (l.headD 0) = 6) (h : integerF l = .ok m k) : 1 ≤ k ∧ k ≤ l.length := by
  unfold integerF at h
  split at h
  · rename_i hx
    split at h
    · cases h
    · cases ht : tailF 16 (l.drop 2) with
      | bad j => simp only [ht, Res.shift] at h; cases h
      | ok x j =>
        simp only [ht, Res.shift] at h
        cases h
        have h1 := tail_le ht
        have h2 := congrArg List.length (of_decide_eq_true hx)
        simp at h1 h2
        omega
  · have := digit_value hc
    exact ⟨tail_pos (by omega) (by omega) h, tail_le h⟩
theorem text_len : ∀ (n : Nat) (l : List Nat), l.length ≤ n → ∀ xs k, textF l = .ok xs k → 1 ≤ k ∧ k ≤ l.length
  | 0, l, hn, xs, k, h => by
    have : l = [] := List.eq_nil_of_length_eq_zero (by omega)
    subst this
    rw [textF.eq_def] at h
    cases h
  | n + 1, l, hn, xs, k, h => by
    cases l with
    | nil => rw [textF.eq_def] at h; cases h
    | cons b t =>
      have ih := text_len n
      rw [textF_cons] at h
      simp only [List.length_cons] at hn ⊢
      have step : ∀ (t' : List Nat) (f : List Nat → List Nat) (d : Nat), t'.length ≤ n → ((textF t').map f).shift d = .ok xs k → d + 1 ≤ k ∧ k ≤ d + t'.length := by
        intro t' f d ht' he
        cases hx : textF t' with
        | bad j => rw [hx] at he; simp only [Res.map, Res.shift] at he; cases he
        | ok ys j =>
          rw [hx] at he
          simp only [Res.map, Res.shift] at he
          cases he
          have := ih t' ht' ys j hx
          omega
      split at h
      · cases h; omega
      · split at h
        · cases t with
          | nil => cases h
          | cons e t2 =>
            simp only [List.length_cons] at hn ⊢
            rw [escF] at h
            split at h
            · cases t2 with
              | nil => cases h
              | cons hh t3 =>
                simp only [List.length_cons] at hn ⊢
                by_cases hv : 15 < value hh
                · rw [hexF_big t3 hv] at h; cases h
                · cases t3 with
                  | nil => rw [hexF, if_neg hv] at h; cases h
                  | cons g t4 =>
                    simp only [List.length_cons] at hn ⊢
                    rw [hexF, if_neg hv] at h
                    split at h
                    · cases h
                    · have := step t4 _ 4 (by omega) h
                      omega
            · split at h
              · have := step t2 _ 2 (by omega) h; omega
              · split at h
                · have := step t2 _ 2 (by omega) h; omega
                · split at h
                  · have := step t2 _ 2 (by omega) h; omega
                  · cases h
        · split at h
          · cases h
          · have := step t _ 1 (by omega) h; omega
theorem sign_le (l : List Nat) : ∀ (ss : List (List Nat)) (i : Nat) (r : Nat × Nat), r.2 ≤ l.length → (signFrom l ss i r).2 ≤ l.length
  | [], _, r, h => h
  | s :: ss, i, r, h => by
    rw [signFrom]
    refine sign_le l ss (i + 1) _ ?_
    split
    · rename_i hs
      have := congrArg List.length hs.2
      simp at this
      show s.length ≤ l.length
      omega
    · exact h
theorem sign_len {l : List Nat} {y j : Nat} (hw : signF l = .ok y j) : 1 ≤ j ∧ j ≤ l.length := by
  have h1 := sign_le l signs 0 (0, 0) (Nat.zero_le _)
  unfold signF at hw
  generalize signFrom l signs 0 (0, 0) = r at *
  split at hw
  · cases hw
  · cases hw
    omega
theorem lex_len {l : List Nat} {x : Nat × Nat × List Nat} {k : Nat} (h : lexF l = .ok x k) : 1 ≤ k ∧ k ≤ l.length := by
  unfold lexF at h
  split at h
  · rename_i hc
    cases hw : wordF l with
    | bad j => rw [hw] at h; cases h
    | ok y j =>
      rw [hw] at h
      simp only [Res.map] at h
      cases h
      unfold wordF at hw
      split at hw
      · cases hw
      · cases hw
        refine ⟨?_, runN_le l⟩
        cases l with
        | nil => exact absurd hc (by decide)
        | cons b t =>
          have hc' : cls b = 5 := hc
          rw [runN_cons, if_pos (by simp [isW, hc'])]
          omega
  · split at h
    · rename_i hc
      cases hw : integerF l with
      | bad j => rw [hw] at h; cases h
      | ok y j =>
        rw [hw] at h
        simp only [Res.map] at h
        cases h
        exact integer_len hc hw
    · split at h
      · cases hw : textF (l.drop 1) with
        | bad j => rw [hw] at h; cases h
        | ok y j =>
          rw [hw] at h
          simp only [Res.map, Res.shift] at h
          cases h
          have := text_len _ _ (Nat.le_refl _) _ _ hw
          simp at this
          omega
      · split at h
        · cases hw : signF l with
          | bad j => rw [hw] at h; cases h
          | ok y j =>
            rw [hw] at h
            simp only [Res.map] at h
            cases h
            exact sign_len hw
        · cases h
/-- what stands ahead is laid ahead -/
def pre (ts : List Tok) : Except Nat (List Tok) → Except Nat (List Tok)
  | .ok us => .ok (ts ++ us)
  | .error p => .error p
/-- the lexemes of l, which stands at a, without blanks ahead -/
def tailT (f a : Nat) (l : List Nat) : Except Nat (List Tok) :=
  if l.isEmpty then .ok []
  else match lexF l with
    | .bad k => .error (a + k)
    | .ok x k => pre [⟨x.1, x.2.1, x.2.2, a, a + k⟩] (toksF f (a + k) (l.drop k))
theorem toksF_tail (f a : Nat) (l : List Nat) : toksF (f + 1) a l = tailT f (a + skipN false l) (l.drop (skipN false l)) := by
  rw [toksF, tailT]
  split
  · rfl
  · cases hl : lexF (l.drop (skipN false l)) with
    | bad k => rfl
    | ok x k =>
      simp only [List.drop_drop]
      cases toksF f (a + skipN false l + k) (l.drop (skipN false l + k)) <;> rfl
/-- what Tokens makes of it -/
def tokRes : Except Nat (List Tok) → List Tok × Nat × Nat
  | .ok ts => (ts, 0, 0)
  | .error p => ([], p, 60)
theorem tokens_eq {l : List Nat} (h : ¬ 1048576 < l.length) : tokens l = tokRes (toksF (l.length + 1) 0 l) := by
  unfold tokens
  rw [if_neg h]
  cases toksF (l.length + 1) 0 l <;> rfl
theorem tail_end {f a : Nat} {l : List Nat} (h : l = []) : tailT f a l = .ok [] := by rw [h]; rfl
theorem tail_bad {f a k : Nat} {l : List Nat} (h0 : l ≠ []) (h : lexF l = .bad k) : tailT f a l = .error (a + k) := by
  unfold tailT
  rw [if_neg (by simpa using h0), h]
theorem tail_ok {f a k : Nat} {l : List Nat} {x : Nat × Nat × List Nat} (h0 : l ≠ []) (h : lexF l = .ok x k) : tailT (f + 1) a l = pre [⟨x.1, x.2.1, x.2.2, a, a + k⟩] (tailT f (a + k + skipN false (l.drop k)) (l.drop (k + skipN false (l.drop k)))) := by
  unfold tailT
  rw [if_neg (by simpa using h0), h]
  simp only
  rw [toksF_tail, List.drop_drop]
  rfl
theorem pre_pre (ts us : List Tok) (r : Except Nat (List Tok)) : pre ts (pre us r) = pre (ts ++ us) r := by
  cases r with
  | error p => rfl
  | ok vs => simp [pre, List.append_assoc]
end Sc
end Go.Proofs.YtlhecgokedckdaaDoor
