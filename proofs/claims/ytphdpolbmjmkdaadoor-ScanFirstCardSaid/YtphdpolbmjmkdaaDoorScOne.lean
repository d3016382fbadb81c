/- Plain: a text that is one lexeme. -/
import Derived.Test.YtphdpolbmjmkdaaDoorScDec
import Derived.Test.YtphdpolbmjmkdaaDoorScQuote
namespace Go.Proofs.YtphdpolbmjmkdaaDoor
namespace Sc
theorem toks_nil (f a : Nat) : toksF (f + 1) a [] = .ok [] := by
  rw [toksF]
  simp
theorem tokens_one {l : List Nat} {x : Nat × Nat × List Nat} (h1 : l ≠ []) (h2 : l.length ≤ 1048576) (h3 : skipN false l = 0) (h4 : lexF l = .ok x l.length) :
    tokens l = ([⟨x.1, x.2.1, x.2.2, 0, l.length⟩], 0, 0) := by
  have hl : 0 < l.length := List.length_pos_iff.2 h1
  have he : l.isEmpty = false := by simpa using h1
  unfold tokens
  rw [if_neg (by omega), toksF_tail, h3, List.drop_zero, tailT, he, h4]
  simp only [Bool.false_eq_true, if_false, List.drop_length, Nat.zero_add]
  obtain ⟨f, hf⟩ : ∃ f, l.length = f + 1 := ⟨l.length - 1, by omega⟩
  rw [show toksF l.length l.length ([] : List Nat) = .ok [] from by rw [hf]; exact toks_nil f _]
  rfl
theorem skip_zero {b : Nat} {l : List Nat} (h1 : cls b ≠ 1) (h2 : cls b ≠ 2) : skipN false (b :: l) = 0 := by
  have h3 : b ≠ 10 := fun e => h1 (by rw [e]; decide)
  rw [skipN, if_neg h3, if_neg (by simp [h1]), if_neg h2]
theorem cls_dig {b : Nat} (h : 48 ≤ b ∧ b ≤ 57) : cls b = 6 ∧ isW b = true ∧ value b < 10 := by
  have : ∀ t : Fin 128, 48 ≤ t.val ∧ t.val ≤ 57 → cls t.val = 6 ∧ isW t.val = true ∧ value t.val < 10 := by decide +kernel
  exact this ⟨b, by omega⟩ h
/-- a number's digits are one integer -/
theorem tokens_dec {u : Nat} (h : u ≤ top) : tokens (decN u) = ([⟨2, u, [], 0, (decN u).length⟩], 0, 0) := by
  have hp := decN_pos u
  have hs := decN_small u
  have hlen := decN_top h
  have hI : integerF (decN u) = .ok u (decN u).length := by
    rw [← rint_eq (fun b hb => (cls_dig (hs b hb)).2.1), rint_dec h]
    cases e : decN u with
    | nil => rw [e] at hp; simp at hp
    | cons a t => rw [e] at hs; exact (cls_dig (hs a (by simp))).2.2
  have hc : cls ((decN u).headD 0) = 6 ∧ skipN false (decN u) = 0 := by
    cases e : decN u with
    | nil => rw [e] at hp; simp at hp
    | cons a t =>
      rw [e] at hs
      have := (cls_dig (hs a (by simp))).1
      exact ⟨this, skip_zero (by omega) (by omega)⟩
  have hx : lexF (decN u) = .ok (2, u, []) (decN u).length := by
    unfold lexF
    rw [hc.1, if_neg (by decide), if_pos rfl, hI]
    rfl
  exact tokens_one (fun e => by rw [e] at hp; simp at hp) (by omega) hc.2 hx
theorem hexd_value {i : Nat} (h : i < 16) : value (hexd i) = i := by
  have : ∀ t : Fin 16, value (hexd t.val) = t.val := by decide +kernel
  exact this ⟨i, h⟩
/-- a byte as it is spelt is read back -/
theorem text_spell {b : Nat} (hb : b < 256) (rest : List Nat) : textF (spellF b ++ rest) = ((textF rest).map (b :: ·)).shift (spellF b).length := by
  unfold spellF
  by_cases h1 : b = 10
  · rw [if_pos h1, h1]
    show textF (92 :: 110 :: rest) = _
    rw [textF.eq_def]
    simp
  · rw [if_neg h1]
    by_cases h2 : b = 9
    · rw [if_pos h2, h2]
      show textF (92 :: 116 :: rest) = _
      rw [textF.eq_def]
      simp
    · rw [if_neg h2]
      by_cases h3 : b = 92 ∨ b = 34
      · rw [if_pos h3]
        rcases h3 with rfl | rfl
        · show textF (92 :: 92 :: rest) = _
          rw [textF.eq_def]
          simp
        · show textF (92 :: 34 :: rest) = _
          rw [textF.eq_def]
          simp
      · rw [if_neg h3]
        by_cases h4 : b < 32 ∨ 126 < b
        · rw [if_pos h4]
          have v1 := hexd_value (i := b / 16) (by omega)
          have v2 := hexd_value (i := b % 16) (by omega)
          show textF (92 :: 120 :: hexd (b / 16) :: hexd (b % 16) :: rest) = _
          rw [textF]
          simp only [v1, v2, show ¬ (92 : Nat) = 34 from by decide, if_true, if_false, show ¬ 15 < b / 16 from by omega, show ¬ 15 < b % 16 from by omega, show 16 * (b / 16) + b % 16 = b from by omega]
          rfl
        · rw [if_neg h4]
          show textF (b :: rest) = _
          rw [textF.eq_def]
          simp only [show ¬ b = 34 from fun e => h3 (.inr e), show ¬ b = 92 from fun e => h3 (.inl e), h4, if_false]
          rfl
theorem text_all : ∀ (s : List Nat), (∀ z ∈ s, z < 256) → textF (s.flatMap spellF ++ [34]) = .ok s ((s.flatMap spellF).length + 1)
  | [], _ => rfl
  | b :: s, h => by
    rw [List.flatMap_cons, List.append_assoc, text_spell (h b (by simp)), text_all s (fun z hz => h z (by simp [hz]))]
    simp [Res.map, Res.shift]
    omega
/-- a text as it is quoted is one text that stands for it -/
theorem tokens_quote {s : List Nat} (h : ∀ z ∈ s, z < 256) (hl : s.length ≤ 200000) : tokens (quoteF s) = ([⟨3, 0, s, 0, (quoteF s).length⟩], 0, 0) := by
  have hlen := spells_len s
  have hq : (quoteF s).length = (s.flatMap spellF).length + 2 := by unfold quoteF; simp
  have hx : lexF (quoteF s) = .ok (3, 0, s) (quoteF s).length := by
    have h2 : quoteF s = 34 :: (s.flatMap spellF ++ [34]) := by unfold quoteF; simp
    rw [hq, h2]
    unfold lexF
    rw [List.headD_cons, show cls 34 = 3 from by decide, if_neg (by decide), if_neg (by decide), if_pos rfl, List.drop_succ_cons, List.drop_zero, text_all s h]
    simp [Res.map, Res.shift]
    omega
  refine tokens_one (by unfold quoteF; simp) (by omega) ?_ hx
  unfold quoteF
  rw [List.append_assoc]
  exact skip_zero (by decide) (by decide)
/-- a word: letters and digits, no digit first, no more than 32 -/
def wordB (l : List Nat) : Bool := !l.isEmpty && decide (l.length ≤ 32) && decide (cls (l.headD 0) = 5) && l.all isW
theorem legal_word (l : List Nat) : legalF l = (wordB l && decide (reservedF l = 0)) := rfl
theorem run_all : ∀ (l : List Nat), l.all isW = true → runN l = l.length
  | [], _ => rfl
  | b :: l, h => by
    rw [List.all_cons, Bool.and_eq_true] at h
    rw [runN, if_pos h.1, run_all l h.2]
    rfl
theorem all_run : ∀ (l : List Nat), runN l = l.length → l.all isW = true
  | [], _ => rfl
  | b :: l, h => by
    rw [runN] at h
    cases hw : isW b with
    | true =>
      rw [hw, if_pos rfl] at h
      rw [List.all_cons, hw, all_run l (by simpa using h)]
      rfl
    | false =>
      rw [hw, if_neg (by decide)] at h
      simp at h
theorem tokens_word {l : List Nat} (h : wordB l = true) : tokens l = ([⟨if reservedF l = 0 then 1 else reservedF l, 0, if reservedF l = 0 then l else [], 0, l.length⟩], 0, 0) := by
  unfold wordB at h
  simp only [Bool.and_eq_true, decide_eq_true_eq] at h
  obtain ⟨⟨⟨h1, h2⟩, h3⟩, h4⟩ := h
  have hne : l ≠ [] := by intro e; rw [e] at h1; simp at h1
  have hr := run_all l h4
  have hx : lexF l = .ok (if reservedF l = 0 then 1 else reservedF l, 0, if reservedF l = 0 then l else []) l.length := by
    unfold lexF
    rw [if_pos h3]
    unfold wordF
    rw [hr, if_neg (by omega), List.take_length]
    by_cases e : reservedF l = 0
    · simp [e, Res.map]
    · simp [e, Res.map]
  refine tokens_one hne (by omega) ?_ hx
  cases l with
  | nil => exact absurd rfl hne
  | cons b t =>
    have h3' : cls b = 5 := h3
    exact skip_zero (by omega) (by omega)
theorem sign_kind (l : List Nat) : ∀ (ss : List (List Nat)) (i : Nat) (r : Nat × Nat), i + ss.length ≤ 26 → (r.2 = 0 ∨ 4 ≤ r.1 ∧ r.1 < 30) → ((signFrom l ss i r).2 = 0 ∨ 4 ≤ (signFrom l ss i r).1 ∧ (signFrom l ss i r).1 < 30)
  | [], _, _, _, h => h
  | s :: ss, i, r, hi, h => by
    rw [signFrom]
    refine sign_kind l ss (i + 1) _ (by simp at hi; omega) ?_
    split
    · right; simp at hi ⊢; omega
    · exact h
theorem signF_kind {l : List Nat} {y j : Nat} (h : signF l = .ok y j) : 4 ≤ y ∧ y < 30 := by
  unfold signF at h
  have := sign_kind l signs 0 (0, 0) (by decide) (.inl rfl)
  generalize signFrom l signs 0 (0, 0) = r at *
  split at h
  · cases h
  · rename_i hn
    simp only [Res.ok.injEq] at h
    omega
theorem tokens_single {l : List Nat} {t : Tok} (h : tokens l = ([t], 0, 0)) (h0 : t.at_ = 0) (h1 : t.end_ = l.length) : ∃ x, lexF l = .ok x l.length ∧ x.1 = t.kind ∧ l ≠ [] := by
  unfold tokens at h
  split at h
  · cases h
  · rw [toksF_tail] at h
    rw [tailT] at h
    cases he : (l.drop (skipN false l)).isEmpty with
    | true => rw [he] at h; simp at h
    | false =>
      rw [he] at h
      simp only [Bool.false_eq_true, if_false] at h
      cases hl : lexF (l.drop (skipN false l)) with
      | bad k => rw [hl] at h; simp at h
      | ok x k =>
        rw [hl] at h
        simp only at h
        cases hr : toksF l.length (0 + skipN false l + k) ((l.drop (skipN false l)).drop k) with
        | error p => rw [hr] at h; simp [pre] at h
        | ok ts =>
          rw [hr] at h
          simp only [pre, Prod.mk.injEq, List.cons_append, List.nil_append, List.cons.injEq] at h
          obtain ⟨⟨ht, _⟩, _⟩ := h
          rw [← ht] at h0 h1
          simp only [Nat.zero_add] at h0 h1
          rw [h0, List.drop_zero] at hl he
          refine ⟨x, by rw [hl]; congr 1; omega, by rw [← ht], ?_⟩
          intro e
          rw [e] at he
          simp at he
theorem word_back {l : List Nat} {t : Tok} (h : tokens l = ([t], 0, 0)) (h0 : t.at_ = 0) (h1 : t.end_ = l.length) (hk : t.kind = 1 ∨ 30 ≤ t.kind) : wordB l = true := by
  obtain ⟨x, hl, hx, hne⟩ := tokens_single h h0 h1
  rw [← hx] at hk
  unfold lexF at hl
  split at hl
  · rename_i hc
    unfold wordF at hl
    split at hl
    · cases hl
    · rename_i h32
      simp only [Res.map, Res.ok.injEq] at hl
      have hall := all_run l hl.2
      unfold wordB
      rw [hall, decide_eq_true hc, decide_eq_true (show l.length ≤ 32 from by omega), show l.isEmpty = false from by simpa using hne]
      rfl
  · split at hl
    · cases e : integerF l with
      | bad k => rw [e] at hl; cases hl
      | ok n k => rw [e] at hl; simp only [Res.map, Res.ok.injEq] at hl; rw [← hl.1] at hk; simp at hk
    · split at hl
      · cases e : textF (l.drop 1) with
        | bad k => rw [e] at hl; cases hl
        | ok n k => rw [e] at hl; simp only [Res.shift, Res.map, Res.ok.injEq] at hl; rw [← hl.1] at hk; simp at hk
      · split at hl
        · cases e : signF l with
          | bad k => rw [e] at hl; cases hl
          | ok n k =>
            rw [e] at hl
            have := signF_kind e
            simp only [Res.map, Res.ok.injEq] at hl
            rw [← hl.1] at hk
            simp at hk
            omega
        · cases hl
theorem find_bound : ∀ (w : List Nat) (rs : List (List Nat)) (i : Nat), findFrom w rs i = 0 ∨ (30 + i ≤ findFrom w rs i ∧ findFrom w rs i < 30 + i + rs.length ∧ w ∈ rs)
  | w, [], i => .inl rfl
  | w, r :: rs, i => by
    rw [findFrom]
    split
    · rename_i h; right; simp [h]
    · rcases find_bound w rs (i + 1) with h | ⟨h1, h2, h3⟩
      · exact .inl h
      · exact .inr ⟨by omega, by simp; omega, by simp [h3]⟩
/-- a reserved word is a word, and its kind is 30 to 73 -/
theorem reserved_word {l : List Nat} (h : reservedF l ≠ 0) : wordB l = true ∧ 30 ≤ reservedF l ∧ reservedF l ≤ 73 := by
  rcases find_bound l reserved 0 with e | ⟨h1, h2, h3⟩
  · exact absurd e h
  · have hall : ∀ r ∈ reserved, wordB r = true := by decide +kernel
    have hlen : reserved.length = 44 := by decide
    unfold reservedF
    exact ⟨hall l h3, by omega, by omega⟩
end Sc
end Go.Proofs.YtphdpolbmjmkdaaDoor
