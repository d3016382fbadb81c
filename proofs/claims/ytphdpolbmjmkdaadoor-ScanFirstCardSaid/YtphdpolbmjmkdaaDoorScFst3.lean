/- Plain: where Tokens refuses a text. -/
import Derived.Test.YtphdpolbmjmkdaaDoorScFst2
namespace Go.Proofs.YtphdpolbmjmkdaaDoor
namespace Sc
theorem skip_ext : ∀ (l l' : List Nat) (c : Bool), skipN c l < l.length → l'.take (skipN c l + 1) = l.take (skipN c l + 1) → skipN c l' = skipN c l
  | [], _, _, h, _ => by simp at h
  | b :: l, [], _, _, h => by simp at h
  | b :: l, b' :: l', c, h, ht => by
    simp only [List.take_succ_cons, List.cons.injEq] at ht
    obtain ⟨rfl, ht⟩ := ht
    rw [skipN] at h ht ⊢
    rw [skipN]
    split
    · rename_i h1
      rw [if_pos h1] at h ht
      rw [skip_ext l l' false (by simpa using h) ht]
    · rename_i h1
      rw [if_neg h1] at h ht
      split
      · rename_i h2
        rw [if_pos h2] at h ht
        rw [skip_ext l l' c (by simpa using h) ht]
      · rename_i h2
        rw [if_neg h2] at h ht
        split
        · rename_i h3
          rw [if_pos h3] at h ht
          rw [skip_ext l l' true (by simpa using h) ht]
        · rfl
theorem skip_take : ∀ (l : List Nat) (c : Bool), skipN c (l.take (skipN c l)) = skipN c l
  | [], _ => rfl
  | b :: l, c => by
    rw [skipN]
    split
    · rename_i h1
      rw [List.take_succ_cons, skipN, if_pos h1, skip_take l false]
    · rename_i h1
      split
      · rename_i h2
        rw [List.take_succ_cons, skipN, if_neg h1, if_pos h2, skip_take l c]
      · rename_i h2
        split
        · rename_i h3
          rw [List.take_succ_cons, skipN, if_neg h1, if_neg h2, if_pos h3, skip_take l true]
        · rfl
theorem ends_len : ∀ e ∈ endsL, e.length ≤ 3 := by decide
theorem toks_bad : ∀ (f : Nat) (l : List Nat) (a p : Nat), toksF f a l = .error p → l.length < f →
    ∃ r, p = a + r ∧ r ≤ l.length ∧ (r < l.length → ∀ l' f', l'.length < f' → l'.take (r + 1) = l.take (r + 1) → toksF f' a l' = .error p) ∧
      ∃ e ∈ endsL, (r = 0 → e = []) ∧ ∀ f', (l.take r ++ e).length < f' → ∃ ts, toksF f' a (l.take r ++ e) = .ok ts
  | 0, l, _, _, _, hf => by omega
  | f + 1, l, a, p, h, hf => by
    rw [toksF_tail, tailT] at h
    have hsk := skipN_le false l
    cases he : (l.drop (skipN false l)).isEmpty with
    | true => rw [he, if_pos rfl] at h; cases h
    | false =>
      rw [he, if_neg (by decide)] at h
      have hlt : skipN false l < l.length := by
        refine Classical.byContradiction fun hc => ?_
        rw [List.drop_of_length_le (by omega)] at he
        cases he
      have hne : l.drop (skipN false l) ≠ [] := by intro e; rw [e] at he; cases he
      cases hl : lexF (l.drop (skipN false l)) with
      | bad k =>
        rw [hl] at h
        simp only [Except.error.injEq] at h
        obtain ⟨hk, hg⟩ := lex_goes hl hne
        rw [List.length_drop] at hk
        refine ⟨skipN false l + k, by omega, by omega, fun hr l' f' hf' ht => ?_, ?_⟩
        · obtain ⟨f', rfl⟩ : ∃ g, f' = g + 1 := ⟨f' - 1, by omega⟩
          have hs := skip_ext l l' false hlt (take_le ht (by omega))
          have hl' : lexF (l'.drop (skipN false l)) = .bad k := lex_bad_ext hl (by rw [List.length_drop]; omega) (take_drop_eq (by rwa [Nat.add_assoc] at ht))
          have hlen := take_len ht (by omega)
          have hne' : (l'.drop (skipN false l)).isEmpty = false := by
            rw [List.isEmpty_eq_false_iff]
            intro e
            have := congrArg List.length e
            rw [List.length_drop] at this
            simp at this
            omega
          rw [toksF_tail, tailT, hs, hne', if_neg (by decide), hl']
          simp only
          rw [← h]
        · rcases hg with rfl | ⟨k1, e, he', x, hx⟩
          · refine ⟨[], by decide, fun _ => rfl, fun f' hf' => ⟨[], ?_⟩⟩
            obtain ⟨f', rfl⟩ : ∃ g, f' = g + 1 := ⟨f' - 1, by omega⟩
            simp only [List.append_nil, Nat.add_zero]
            rw [toksF_tail, skip_take, tailT, List.drop_of_length_le (by rw [List.length_take]; omega)]
            rfl
          · refine ⟨e, he', fun h0 => by omega, fun f' hf' => ?_⟩
            obtain ⟨f', rfl⟩ : ∃ g, f' = g + 1 := ⟨f' - 1, by omega⟩
            have htk : (l.take (skipN false l + k) ++ e).take (skipN false l + 1) = l.take (skipN false l + 1) := by
              rw [List.take_append_of_le_length (by rw [List.length_take]; omega), List.take_take, Nat.min_eq_left (by omega)]
            have hs := skip_ext l (l.take (skipN false l + k) ++ e) false hlt htk
            have hdr : (l.take (skipN false l + k) ++ e).drop (skipN false l) = (l.drop (skipN false l)).take k ++ e := by
              rw [List.drop_append_of_le_length (by rw [List.length_take]; omega), List.drop_take, Nat.add_sub_cancel_left]
            have hlen : ((l.drop (skipN false l)).take k ++ e).length = k + e.length := by
              rw [List.length_append, List.length_take, List.length_drop]; omega
            have hne' : ((l.drop (skipN false l)).take k ++ e).isEmpty = false := by
              rw [List.isEmpty_eq_false_iff]
              intro e0
              rw [e0] at hlen
              simp at hlen
              omega
            have hf2 : 1 ≤ f' := by
              rw [List.length_append, List.length_take] at hf'
              omega
            obtain ⟨f2, rfl⟩ : ∃ g, f' = g + 1 := ⟨f' - 1, by omega⟩
            rw [toksF_tail, hs, hdr, tailT, hne', if_neg (by decide), hx]
            simp only
            rw [List.drop_of_length_le (by omega), toks_nil]
            exact ⟨_, rfl⟩
      | ok x k =>
        rw [hl] at h
        simp only at h
        have hk := lex_len hl
        rw [List.length_drop] at hk
        rw [List.drop_drop] at h
        cases hr : toksF f (a + skipN false l + k) (l.drop (skipN false l + k)) with
        | ok us => rw [hr] at h; cases h
        | error q =>
          rw [hr] at h
          simp only [pre, Except.error.injEq] at h
          subst h
          obtain ⟨r, hp, hrl, hbad, e, he', h0, hgo⟩ := toks_bad f (l.drop (skipN false l + k)) (a + skipN false l + k) q hr (by rw [List.length_drop]; omega)
          rw [List.length_drop] at hrl hbad
          refine ⟨skipN false l + k + r, by omega, by omega, fun hlt2 l' f' hf' ht => ?_, e, he', fun hz => by omega, fun f' hf' => ?_⟩
          · obtain ⟨f', rfl⟩ : ∃ g, f' = g + 1 := ⟨f' - 1, by omega⟩
            have hs := skip_ext l l' false hlt (take_le ht (by omega))
            have hlen := take_len ht (by omega)
            have htd : (l'.drop (skipN false l + k)).take (r + 1) = (l.drop (skipN false l + k)).take (r + 1) := take_drop_eq (by rwa [Nat.add_assoc] at ht)
            have hl' : lexF (l'.drop (skipN false l)) = .ok x k := by
              refine lex_ext hl (take_drop_eq (take_le ht (by omega))) (by rw [List.length_drop]; omega) (.inl ?_)
              rw [List.drop_drop, List.drop_drop]
              exact head_ext (k := r + 1) (by omega) htd
            have hne' : (l'.drop (skipN false l)).isEmpty = false := by
              rw [List.isEmpty_eq_false_iff]
              intro e
              have := congrArg List.length e
              rw [List.length_drop] at this
              simp at this
              omega
            rw [toksF_tail, tailT, hs, hne', if_neg (by decide), hl']
            simp only
            rw [List.drop_drop, hbad (by omega) (l'.drop (skipN false l + k)) f' (by rw [List.length_drop]; omega) htd]
            rfl
          · obtain ⟨f', rfl⟩ : ∃ g, f' = g + 1 := ⟨f' - 1, by omega⟩
            have hcut : l.take (skipN false l + k + r) ++ e = l.take (skipN false l + k) ++ ((l.drop (skipN false l + k)).take r ++ e) := by
              rw [List.take_add, List.append_assoc]
            rw [hcut] at hf' ⊢
            generalize hE : (l.drop (skipN false l + k)).take r ++ e = E at *
            have hlk : (l.take (skipN false l + k)).length = skipN false l + k := by rw [List.length_take]; omega
            have htk : (l.take (skipN false l + k) ++ E).take (skipN false l + 1) = l.take (skipN false l + 1) := by
              rw [List.take_append_of_le_length (by omega), List.take_take, Nat.min_eq_left (by omega)]
            have hs := skip_ext l (l.take (skipN false l + k) ++ E) false hlt htk
            have hdr : (l.take (skipN false l + k) ++ E).drop (skipN false l) = (l.drop (skipN false l)).take k ++ E := by
              rw [List.drop_append_of_le_length (by omega), List.drop_take, Nat.add_sub_cancel_left]
            have hlk2 : ((l.drop (skipN false l)).take k).length = k := by rw [List.length_take, List.length_drop]; omega
            have hl' : lexF ((l.drop (skipN false l)).take k ++ E) = .ok x k := by
              refine lex_ext hl (by rw [List.take_append_of_le_length (by omega), List.take_take, Nat.min_self]) (by rw [List.length_append]; omega) ?_
              rw [Behind, List.drop_append_of_le_length (by omega), List.drop_of_length_le (by omega), List.nil_append, List.drop_drop, ← hE]
              by_cases hr0 : r = 0
              · right; left
                rw [hr0, h0 hr0]
                rfl
              · left
                rw [show ((l.drop (skipN false l + k)).take r ++ e).headD 0 = (l.drop (skipN false l + k)).headD 0 from head_ext (k := r) (by omega) (by rw [List.take_append_of_le_length (by rw [List.length_take, List.length_drop]; omega), List.take_take, Nat.min_self])]
            have hne' : ((l.drop (skipN false l)).take k ++ E).isEmpty = false := by
              rw [List.isEmpty_eq_false_iff]
              intro e0
              have := congrArg List.length e0
              rw [List.length_append] at this
              simp at this
              omega
            obtain ⟨ts, hts⟩ := hgo f' (by rw [List.length_append] at hf'; omega)
            rw [toksF_tail, hs, hdr, tailT, hne', if_neg (by decide), hl']
            simp only
            rw [List.drop_append_of_le_length (by omega), List.drop_of_length_le (by omega), List.nil_append, hts]
            exact ⟨_, rfl⟩
/-- where Tokens refuses a text: with the byte no tail helps, ahead of it one of the ends does -/
theorem tokens_first {src : List Nat} {ts : List Tok} {p er : Nat} (h : tokens src = (ts, p, er)) (hl : src.length ≤ 100000) (he : er ≠ 0) :
    er = 60 ∧ p ≤ src.length ∧ (p < src.length → ∀ tail : List Nat, tail.length ≤ 100000 → tokens (src.take (p + 1) ++ tail) = ([], p, 60)) ∧
      ∃ e ∈ endsL, ∃ us, tokens (src.take p ++ e) = (us, 0, 0) := by
  unfold tokens at h
  rw [if_neg (by omega)] at h
  cases e : toksF (src.length + 1) 0 src with
  | ok us => rw [e] at h; cases h; exact absurd rfl he
  | error q =>
    rw [e] at h
    simp only [Prod.mk.injEq] at h
    obtain ⟨_, rfl, rfl⟩ := h
    obtain ⟨r, hp, hr, hbad, e', he', _, hgo⟩ := toks_bad _ src 0 q e (by omega)
    rw [Nat.zero_add] at hp
    subst hp
    refine ⟨rfl, hr, fun hlt tail ht => ?_, e', he', ?_⟩
    · unfold tokens
      have hlen : (src.take (q + 1) ++ tail).length ≤ 200000 := by rw [List.length_append, List.length_take]; omega
      rw [if_neg (by omega), hbad hlt _ _ (by omega) (by rw [List.take_append_of_le_length (by rw [List.length_take]; omega), List.take_take, Nat.min_self])]
    · have := ends_len e' he'
      have hlen : (src.take q ++ e').length ≤ 100003 := by rw [List.length_append, List.length_take]; omega
      obtain ⟨us, hus⟩ := hgo ((src.take q ++ e').length + 1) (by omega)
      refine ⟨us, ?_⟩
      unfold tokens
      rw [if_neg (by omega), hus]
end Sc
end Go.Proofs.YtphdpolbmjmkdaaDoor
