/- Plain: the lexemes of a text, one by one, and with a space behind each. -/
import Derived.Test.YtkddfhnfhncgpaaDoorScExt
namespace Go.Proofs.YtkddfhnfhncgpaaDoor
namespace Sc
/-- blanks and comments alone? -/
def blankF : Bool → List Nat → Bool
  | _, [] => true
  | c, b :: l =>
    if (if b = 10 then false else if b = 35 then true else c) = false ∧ ¬ (b = 32 ∨ b = 9 ∨ b = 10 ∨ b = 13) then false
    else blankF (if b = 10 then false else if b = 35 then true else c) l
theorem cls_blank {b : Nat} : (cls b = 1 → b = 32 ∨ b = 9 ∨ b = 10 ∨ b = 13) ∧ (cls b = 2 → b = 35) := by
  by_cases h : b < 128
  · have : ∀ t : Fin 128, (cls t.val = 1 → t.val = 32 ∨ t.val = 9 ∨ t.val = 10 ∨ t.val = 13) ∧ (cls t.val = 2 → t.val = 35) := by decide +kernel
    exact this ⟨b, h⟩
  · unfold cls
    rw [if_neg h]
    exact ⟨fun e => absurd e (by decide), fun e => absurd e (by decide)⟩
theorem blank_skip : ∀ (l : List Nat) (c : Bool), blankF c (l.take (skipN c l)) = true
  | [], _ => rfl
  | b :: l, c => by
    rw [skipN]
    by_cases h10 : b = 10
    · rw [if_pos h10, List.take_succ_cons, blankF]
      subst h10
      simp
      exact blank_skip l false
    · rw [if_neg h10]
      by_cases hc : c = true ∨ cls b = 1
      · rw [if_pos hc, List.take_succ_cons, blankF, if_neg h10]
        by_cases h35 : b = 35
        · subst h35
          have hc' : c = true := by
            rcases hc with hc | hc
            · exact hc
            · exact absurd hc (by decide)
          subst hc'
          simp
          exact blank_skip l true
        · rw [if_neg h35, if_neg ?_]
          · exact blank_skip l c
          · rintro ⟨h1, h2⟩
            rcases hc with hc | hc
            · rw [hc] at h1; cases h1
            · exact h2 (cls_blank.1 hc)
      · rw [if_neg hc]
        by_cases h2 : cls b = 2
        · rw [if_pos h2, List.take_succ_cons, blankF, if_neg h10]
          have h35 := cls_blank.2 h2
          subst h35
          simp
          exact blank_skip l true
        · rw [if_neg h2]; rfl
/-- the lexemes of src from a on -/
def Chain (src : List Nat) : Nat → List Tok → Prop
  | a, [] => a ≤ src.length ∧ blankF false (src.drop a) = true
  | a, t :: ts => a ≤ t.at_ ∧ t.at_ < t.end_ ∧ t.end_ ≤ src.length ∧ blankF false ((src.drop a).take (t.at_ - a)) = true ∧ lexF (src.drop t.at_) = .ok (t.kind, t.n, t.s) (t.end_ - t.at_) ∧ Chain src t.end_ ts
theorem chain_of {src : List Nat} : ∀ (f a : Nat) (ts : List Tok), a ≤ src.length → toksF f a (src.drop a) = .ok ts → Chain src a ts
  | 0, a, ts, _, h => by rw [toksF] at h; cases h
  | f + 1, a, ts, ha, h => by
    rw [toksF_tail, tailT, List.drop_drop] at h
    have hs := blank_skip (src.drop a) false
    have hle := skipN_le false (src.drop a)
    rw [List.length_drop] at hle
    generalize skipN false (src.drop a) = z at *
    cases he : (src.drop (a + z)).isEmpty with
    | true =>
      rw [he, if_pos rfl] at h
      cases h
      refine ⟨ha, ?_⟩
      have : (src.drop a).length ≤ z := by
        have := List.isEmpty_iff.1 he
        have := congrArg List.length this
        simp at this ⊢
        omega
      rwa [List.take_of_length_le this] at hs
    | false =>
      rw [he, if_neg (by decide)] at h
      cases hl : lexF (src.drop (a + z)) with
      | bad k => rw [hl] at h; cases h
      | ok x k =>
        rw [hl] at h
        have hk := lex_len hl
        rw [List.length_drop] at hk
        simp only [List.drop_drop] at h
        cases hr : toksF f (a + z + k) (src.drop (a + z + k)) with
        | error p => rw [hr] at h; cases h
        | ok us =>
          rw [hr] at h
          simp only [pre] at h
          cases h
          have hend : a + z + k ≤ src.length := by omega
          refine ⟨Nat.le_add_right _ _, show a + z < a + z + k by omega, hend, ?_, ?_, chain_of f _ us hend hr⟩
          · show blankF false ((src.drop a).take (a + z - a)) = true
            rw [Nat.add_sub_cancel_left]; exact hs
          · show lexF (src.drop (a + z)) = .ok x (a + z + k - (a + z))
            rw [Nat.add_sub_cancel_left]; exact hl
/-- the lexemes' own bytes, with a space behind each -/
def joinF (src : List Nat) : List Tok → List Nat
  | [] => []
  | t :: ts => (src.drop t.at_).take (t.end_ - t.at_) ++ 32 :: joinF src ts
theorem join_snoc (src : List Nat) (ts : List Tok) (t : Tok) : joinF src (ts ++ [t]) = joinF src ts ++ ((src.drop t.at_).take (t.end_ - t.at_) ++ [32]) := by
  induction ts with
  | nil => simp [joinF]
  | cons u ts ih => simp [joinF, ih]
def keyT (t : Tok) : Nat × Nat × List Nat := (t.kind, t.n, t.s)
theorem lex_head {l : List Nat} {x : Nat × Nat × List Nat} {k : Nat} (h : lexF l = .ok x k) : cls (l.headD 0) ≠ 1 ∧ cls (l.headD 0) ≠ 2 := by
  unfold lexF at h
  constructor <;> intro e <;> rw [e] at h <;> cases h
theorem toks_join {src : List Nat} : ∀ (ts : List Tok) (a : Nat), Chain src a ts → ∀ (sp : List Nat), sp = [] ∨ sp = [32] → ∀ (f p : Nat), ts.length < f → ∃ us, toksF f p (sp ++ joinF src ts) = .ok us ∧ us.map keyT = ts.map keyT
  | [], a, _, sp, hsp, f, p, hf => by
    obtain ⟨f, rfl⟩ : ∃ g, f = g + 1 := ⟨f - 1, by omega⟩
    refine ⟨[], ?_, rfl⟩
    rcases hsp with rfl | rfl
    · exact toks_nil f p
    · rw [toksF]; rfl
  | t :: ts, a, hc, sp, hsp, f, p, hf => by
    obtain ⟨f, rfl⟩ : ∃ g, f = g + 1 := ⟨f - 1, by omega⟩
    obtain ⟨h1, h2, h3, h4, h5, h6⟩ := hc
    have hlen : ((src.drop t.at_).take (t.end_ - t.at_)).length = t.end_ - t.at_ := by
      rw [List.length_take, List.length_drop]; omega
    have hlx : lexF ((src.drop t.at_).take (t.end_ - t.at_) ++ 32 :: joinF src ts) = .ok (t.kind, t.n, t.s) (t.end_ - t.at_) := by
      refine lex_ext h5 ?_ (by rw [List.length_append]; omega) (.inr (.inr ?_))
      · rw [List.take_append_of_le_length (by omega), List.take_of_length_le (by omega)]
      · rw [List.drop_append_of_le_length (by omega), List.drop_of_length_le (by omega)]; rfl
    have hne : ((src.drop t.at_).take (t.end_ - t.at_) ++ 32 :: joinF src ts).isEmpty = false := by simp
    have hh := lex_head hlx
    obtain ⟨us, hu, hm⟩ := toks_join ts t.end_ h6 [32] (.inr rfl) f (p + sp.length + (t.end_ - t.at_)) (by simp at hf; omega)
    have hdr : ((src.drop t.at_).take (t.end_ - t.at_) ++ 32 :: joinF src ts).drop (t.end_ - t.at_) = [32] ++ joinF src ts := by
      rw [List.drop_append_of_le_length (by omega), List.drop_of_length_le (by omega)]; rfl
    have hsk : skipN false (sp ++ joinF src (t :: ts)) = sp.length := by
      rw [joinF]
      generalize (src.drop t.at_).take (t.end_ - t.at_) ++ 32 :: joinF src ts = l at *
      cases l with
      | nil => simp at hne
      | cons b l =>
        have h0 : skipN false (b :: l) = 0 := skip_zero hh.1 hh.2
        rcases hsp with rfl | rfl
        · exact h0
        · rw [List.cons_append, List.nil_append, skipN, if_neg (by decide), if_pos (.inr (by decide)), h0]; rfl
    refine ⟨⟨t.kind, t.n, t.s, p + sp.length, p + sp.length + (t.end_ - t.at_)⟩ :: us, ?_, by rw [List.map_cons, List.map_cons, hm]; rfl⟩
    rw [toksF_tail, hsk, List.drop_left, joinF, tailT, hne, if_neg (by decide), hlx]
    simp only
    rw [hdr, hu]
    rfl
/-- put one behind the other with a space between they are the same -/
theorem tokens_join {src : List Nat} {ts : List Tok} (h : tokens src = (ts, 0, 0)) : Chain src 0 ts ∧ ((joinF src ts).length ≤ 1048576 → ∃ us, tokens (joinF src ts) = (us, 0, 0) ∧ us.map keyT = ts.map keyT) := by
  unfold tokens at h
  split at h
  · cases h
  · cases e : toksF (src.length + 1) 0 src with
    | error p => rw [e] at h; cases h
    | ok us =>
      rw [e] at h
      cases h
      have hc : Chain src 0 ts := chain_of _ 0 ts (Nat.zero_le _) (by rw [List.drop_zero]; exact e)
      refine ⟨hc, fun hl => ?_⟩
      have hjl : ∀ ts : List Tok, ts.length ≤ (joinF src ts).length := by
        intro ts
        induction ts with
        | nil => simp
        | cons t ts ih => rw [joinF, List.length_append, List.length_cons, List.length_cons]; omega
      obtain ⟨us, h1, h2⟩ := toks_join ts 0 hc [] (.inl rfl) ((joinF src ts).length + 1) 0 (by have := hjl ts; omega)
      refine ⟨us, ?_, h2⟩
      unfold tokens
      rw [if_neg (by omega)]
      rw [List.nil_append] at h1
      rw [h1]
end Sc
end Go.Proofs.YtkddfhnfhncgpaaDoor
