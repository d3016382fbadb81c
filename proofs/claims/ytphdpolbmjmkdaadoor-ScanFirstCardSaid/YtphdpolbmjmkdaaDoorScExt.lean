/- Plain: a lexeme is told by its own bytes and the one behind them. -/
import Derived.Test.YtphdpolbmjmkdaaDoorRefF0
import Derived.Test.YtphdpolbmjmkdaaDoorScOne
namespace Go.Proofs.YtphdpolbmjmkdaaDoor
namespace Sc
theorem run_stop : ∀ (l : List Nat), isW ((l.drop (runN l)).headD 0) = false
  | [] => by decide
  | b :: l => by
    rw [runN_cons]
    cases h : isW b with
    | true => rw [if_pos rfl, List.drop_succ_cons]; exact run_stop l
    | false => rw [if_neg (by decide), List.drop_zero]; exact h
theorem run_of : ∀ (k : Nat) (l : List Nat), (l.take k).all isW = true → k ≤ l.length → isW ((l.drop k).headD 0) = false → runN l = k
  | 0, [], _, _, _ => rfl
  | 0, b :: l, _, _, h => by
    have h' : isW b = false := h
    rw [runN_cons, h', if_neg (by decide)]
  | k + 1, [], _, h, _ => by simp at h
  | k + 1, b :: l, h1, h2, h3 => by
    rw [List.take_succ_cons, List.all_cons, Bool.and_eq_true] at h1
    rw [runN_cons, h1.1, if_pos rfl, run_of k l h1.2 (by simpa using h2) h3]
theorem run_take (l : List Nat) : (l.take (runN l)).all isW = true := List.all_eq_true.2 (run_words l)
/-- what stands behind a lexeme in another text: the same byte, nothing, or a blank -/
def Behind (k : Nat) (l l' : List Nat) : Prop := (l'.drop k).headD 0 = (l.drop k).headD 0 ∨ (l'.drop k).headD 0 = 0 ∨ (l'.drop k).headD 0 = 32
theorem run_ext {l l' : List Nat} (ht : l'.take (runN l) = l.take (runN l)) (hk : runN l ≤ l'.length) (hb : Behind (runN l) l l') : runN l' = runN l := by
  refine run_of _ _ (by rw [ht]; exact run_take l) hk ?_
  rcases hb with h | h | h
  · rw [h]; exact run_stop l
  · rw [h]; decide
  · rw [h]; decide
theorem head_ext {l l' : List Nat} {k : Nat} (hk : 1 ≤ k) (ht : l'.take k = l.take k) : l'.headD 0 = l.headD 0 := by
  cases k with
  | zero => omega
  | succ k =>
    cases l with
    | nil => cases l' with
      | nil => rfl
      | cons b t => simp at ht
    | cons a t => cases l' with
      | nil => simp at ht
      | cons b t' => simp at ht; simp [ht.1]
theorem text_app : ∀ (n : Nat) (l : List Nat), l.length ≤ n → ∀ xs k, textF l = .ok xs k → ∀ r, textF (l.take k ++ r) = .ok xs k
  | 0, l, hn, xs, k, h => by
    have : l = [] := List.eq_nil_of_length_eq_zero (by omega)
    subst this
    rw [textF.eq_def] at h
    cases h
  | n + 1, l, hn, xs, k, h => by
    intro r
    cases l with
    | nil => rw [textF.eq_def] at h; cases h
    | cons b t =>
      have ih := text_app n
      simp only [List.length_cons] at hn
      have step : ∀ (t' : List Nat) (f : List Nat → List Nat) (d : Nat), t'.length ≤ n → ((textF t').map f).shift d = .ok xs k → ∃ j, k = d + j ∧ ((textF (t'.take j ++ r)).map f).shift d = .ok xs k := by
        intro t' f d ht' he
        cases hx : textF t' with
        | bad j => rw [hx] at he; simp only [Res.map, Res.shift] at he; cases he
        | ok ys j =>
          rw [hx] at he
          have := ih t' ht' ys j hx r
          refine ⟨j, ?_, by rw [this]; exact he⟩
          simp only [Res.map, Res.shift, Res.ok.injEq] at he
          omega
      rw [textF_cons] at h
      split at h
      · rename_i hb
        cases h
        rw [List.take_succ_cons, List.take_zero, List.cons_append, textF_cons, if_pos hb]
      · rename_i hb
        split at h
        · rename_i hb2
          cases t with
          | nil => cases h
          | cons e t2 =>
            simp only [List.length_cons] at hn
            rw [escF] at h
            split at h
            · rename_i he
              cases t2 with
              | nil => cases h
              | cons hh t3 =>
                simp only [List.length_cons] at hn
                by_cases hv : 15 < value hh
                · rw [hexF_big t3 hv] at h; cases h
                · cases t3 with
                  | nil => rw [hexF, if_neg hv] at h; cases h
                  | cons g t4 =>
                    simp only [List.length_cons] at hn
                    rw [hexF, if_neg hv] at h
                    split at h
                    · cases h
                    · rename_i hv2
                      obtain ⟨j, hj, h2⟩ := step t4 _ 4 (by omega) h
                      rw [show k = j + 4 from by omega] at h2 ⊢
                      simp only [List.take_succ_cons, List.cons_append]
                      rw [textF_cons, if_neg hb, if_pos hb2, escF, if_pos he, hexF, if_neg hv, if_neg hv2]
                      exact h2
            · rename_i he
              split at h
              · rename_i he2
                obtain ⟨j, hj, h2⟩ := step t2 _ 2 (by omega) h
                rw [show k = j + 2 from by omega] at h2 ⊢
                simp only [List.take_succ_cons, List.cons_append]
                rw [textF_cons, if_neg hb, if_pos hb2, escF, if_neg he, if_pos he2]
                exact h2
              · rename_i he2
                split at h
                · rename_i he3
                  obtain ⟨j, hj, h2⟩ := step t2 _ 2 (by omega) h
                  rw [show k = j + 2 from by omega] at h2 ⊢
                  simp only [List.take_succ_cons, List.cons_append]
                  rw [textF_cons, if_neg hb, if_pos hb2, escF, if_neg he, if_neg he2, if_pos he3]
                  exact h2
                · rename_i he3
                  split at h
                  · rename_i he4
                    obtain ⟨j, hj, h2⟩ := step t2 _ 2 (by omega) h
                    rw [show k = j + 2 from by omega] at h2 ⊢
                    simp only [List.take_succ_cons, List.cons_append]
                    rw [textF_cons, if_neg hb, if_pos hb2, escF, if_neg he, if_neg he2, if_neg he3, if_pos he4]
                    exact h2
                  · cases h
        · rename_i hb2
          split at h
          · cases h
          · rename_i hb3
            obtain ⟨j, hj, h2⟩ := step t _ 1 (by omega) h
            rw [show k = j + 1 from by omega] at h2 ⊢
            simp only [List.take_succ_cons, List.cons_append]
            rw [textF_cons, if_neg hb, if_neg hb2, if_neg hb3]
            exact h2
theorem text_ext {l l' : List Nat} {xs : List Nat} {k : Nat} (h : textF l = .ok xs k) (ht : l'.take k = l.take k) : textF l' = .ok xs k := by
  have := text_app _ l (Nat.le_refl _) xs k h (l'.drop k)
  rwa [← ht, List.take_append_drop] at this
theorem sign_max (l : List Nat) : ∀ (ss : List (List Nat)) (i : Nat) (r : Nat × Nat), r.2 ≤ (signFrom l ss i r).2 ∧ ∀ s ∈ ss, l.take s.length = s → s.length ≤ (signFrom l ss i r).2
  | [], _, _ => ⟨Nat.le_refl _, fun s h => by cases h⟩
  | s :: ss, i, r => by
    rw [signFrom]
    by_cases hc : r.2 < s.length ∧ l.take s.length = s
    · rw [if_pos hc]
      have ih := sign_max l ss (i + 1) (4 + i, s.length)
      refine ⟨by have := ih.1; simp at this; omega, fun u hu hm => ?_⟩
      rcases List.mem_cons.1 hu with rfl | hu
      · exact ih.1
      · exact ih.2 u hu hm
    · rw [if_neg hc]
      have ih := sign_max l ss (i + 1) r
      refine ⟨ih.1, fun u hu hm => ?_⟩
      rcases List.mem_cons.1 hu with rfl | hu
      · have : ¬ r.2 < u.length := fun h => hc ⟨h, hm⟩
        have := ih.1
        omega
      · exact ih.2 u hu hm
theorem sign_cong (l l' : List Nat) : ∀ (ss : List (List Nat)) (i : Nat) (r : Nat × Nat), (∀ s ∈ ss, (l.take s.length = s) = (l'.take s.length = s)) → signFrom l ss i r = signFrom l' ss i r
  | [], _, _, _ => rfl
  | s :: ss, i, r, h => by
    rw [signFrom, signFrom]
    simp only [h s (by simp)]
    exact sign_cong l l' ss (i + 1) _ (fun u hu => h u (by simp [hu]))
theorem signs_short : ∀ s ∈ signs, 1 ≤ s.length ∧ s.length ≤ 2 ∧ (s.drop 1).headD 1 ≠ 0 ∧ (s.drop 1).headD 1 ≠ 32 := by decide
theorem sign_two {l l' s : List Nat} (l2 : s.length = 2) (e : l'.take 2 = s) (s3 : (s.drop 1).headD 1 ≠ 0) (s4 : (s.drop 1).headD 1 ≠ 32) (ht : l'.take 1 = l.take 1) (hb : Behind 1 l l') : l.take 2 = s := by
  cases l' with
  | nil => subst e; simp at l2
  | cons a' t1 =>
    cases t1 with
    | nil => subst e; simp at l2
    | cons b' t' =>
      subst e
      have s3' : b' ≠ 0 := by simpa using s3
      have s4' : b' ≠ 32 := by simpa using s4
      have hb' : b' = (l.drop 1).headD 0 := by
        rcases hb with h | h | h
        · exact h
        · exact absurd h s3'
        · exact absurd h s4'
      cases l with
      | nil => simp at ht
      | cons c t =>
        cases t with
        | nil => exact absurd hb' s3'
        | cons d t =>
          have h1 : a' = c := by simpa using ht
          have h2 : b' = d := hb'
          rw [h1, h2]
          rfl
theorem sign_ext {l l' : List Nat} {y k : Nat} (h : signF l = .ok y k) (ht : l'.take k = l.take k) (hb : Behind k l l') : signF l' = .ok y k := by
  have hk := sign_len h
  have hkk : (signFrom l signs 0 (0, 0)).2 = k := by
    unfold signF at h
    generalize signFrom l signs 0 (0, 0) = r at *
    split at h
    · cases h
    · simp only [Res.ok.injEq] at h; exact h.2
  have hm := (sign_max l signs 0 (0, 0)).2
  rw [hkk] at hm
  have hcong : signFrom l signs 0 (0, 0) = signFrom l' signs 0 (0, 0) := by
    refine sign_cong l l' signs 0 (0, 0) fun s hs => ?_
    obtain ⟨s1, s2, s3, s4⟩ := signs_short s hs
    by_cases hle : s.length ≤ k
    · have e1 : l.take s.length = (l.take k).take s.length := by rw [List.take_take, Nat.min_eq_left hle]
      have e2 : l'.take s.length = (l'.take k).take s.length := by rw [List.take_take, Nat.min_eq_left hle]
      rw [e1, e2, ht]
    · have k1 : k = 1 := by omega
      have l2 : s.length = 2 := by omega
      subst k1
      rw [l2]
      refine propext ⟨fun e => ?_, fun e => ?_⟩
      · exact absurd (hm s hs (by rw [l2]; exact e)) hle
      · exact sign_two l2 e s3 s4 ht hb
  unfold signF at h ⊢
  rw [← hcong]
  exact h
theorem lex_ext {l l' : List Nat} {x : Nat × Nat × List Nat} {k : Nat} (h : lexF l = .ok x k) (ht : l'.take k = l.take k) (hkl : k ≤ l'.length) (hb : Behind k l l') : lexF l' = .ok x k := by
  have hk := lex_len h
  have hh := head_ext hk.1 ht
  unfold lexF at h ⊢
  rw [hh]
  split at h
  · rename_i hc
    rw [if_pos hc]
    unfold wordF at h ⊢
    split at h
    · cases h
    · rename_i h32
      have hk' : runN l = k := by simp only [Res.map, Res.ok.injEq] at h; exact h.2
      subst hk'
      rw [run_ext ht hkl hb, if_neg h32, ht]
      exact h
  · rename_i hc
    rw [if_neg hc]
    split at h
    · rename_i hc6
      rw [if_pos hc6]
      cases e : integerF l with
      | bad j => rw [e] at h; cases h
      | ok n j =>
        have hv : value (l.headD 0) < 10 := by
          have : ∀ t : Fin 128, cls t.val = 6 → value t.val < 10 := by decide +kernel
          by_cases h128 : l.headD 0 < 128
          · exact this ⟨l.headD 0, h128⟩ hc6
          · unfold cls at hc6; rw [if_neg h128] at hc6; omega
        have hj := integer_end hv e
        have hk' : j = k := by rw [e] at h; simp only [Res.map, Res.ok.injEq] at h; exact h.2
        subst hk'
        have e' : integerF l' = .ok n j := by
          rw [← integer_run l', run_ext (hj ▸ ht) (hj ▸ hkl) (hj ▸ hb), show l'.take (runN l) = l.take (runN l) from hj ▸ ht, integer_run l, e]
        rw [e']
        rw [e] at h
        exact h
    · rename_i hc6
      rw [if_neg hc6]
      split at h
      · rename_i hc3
        rw [if_pos hc3]
        cases e : textF (l.drop 1) with
        | bad j => rw [e] at h; cases h
        | ok n j =>
          have hk' : 1 + j = k := by rw [e] at h; simp only [Res.shift, Res.map, Res.ok.injEq] at h; exact h.2
          have : (l'.drop 1).take j = (l.drop 1).take j := by
            have := congrArg (List.drop 1) ht
            rw [List.drop_take, List.drop_take] at this
            rwa [show k - 1 = j from by omega] at this
          rw [text_ext e this]
          rw [e] at h
          exact h
      · rename_i hc3
        rw [if_neg hc3]
        split at h
        · rename_i hc4
          rw [if_pos hc4]
          cases e : signF l with
          | bad j => rw [e] at h; cases h
          | ok n j =>
            have hk' : j = k := by rw [e] at h; simp only [Res.map, Res.ok.injEq] at h; exact h.2
            subst hk'
            rw [sign_ext e ht hb]
            rw [e] at h
            exact h
        · cases h
end Sc
end Go.Proofs.YtphdpolbmjmkdaaDoor
