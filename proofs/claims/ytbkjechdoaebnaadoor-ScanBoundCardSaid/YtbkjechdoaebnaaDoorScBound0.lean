/- Plain: the lexemes of long rows of one byte. -/
import Derived.Test.YtbkjechdoaebnaaDoorScLen
namespace Go.Proofs.YtbkjechdoaebnaaDoor
namespace Sc
/-- a sign is told by two bytes -/
theorem signFrom_take (l : List Nat) : ∀ (ss : List (List Nat)) (i : Nat) (r : Nat × Nat), (∀ s ∈ ss, s.length ≤ 2) → signFrom l ss i r = signFrom (l.take 2) ss i r
  | [], _, _, _ => rfl
  | s :: ss, i, r, h => by
    have hs : (l.take 2).take s.length = l.take s.length := by
      rw [List.take_take, Nat.min_eq_left (h s (by simp))]
    rw [signFrom, signFrom, hs]
    exact signFrom_take l ss _ _ (fun x hx => h x (by simp [hx]))
theorem signF_take (l : List Nat) : signF l = signF (l.take 2) := by
  have h : signFrom l signs 0 (0, 0) = signFrom (l.take 2) signs 0 (0, 0) := signFrom_take l signs 0 (0, 0) (fun s hs => (signs_small s hs).2.2)
  unfold signF
  rw [h]
theorem lex_semi (n : Nat) : lexF (List.replicate (n + 1) 59) = .ok (10, 0, []) 1 := by
  have hs : signF (List.replicate (n + 1) 59) = .ok 10 1 := by
    rw [signF_take]
    cases n with
    | zero => decide +kernel
    | succ n =>
      rw [List.replicate_succ, List.replicate_succ]
      show signF [59, 59] = _
      decide +kernel
  have hc : cls ((List.replicate (n + 1) 59).headD 0) = 4 := by rw [List.replicate_succ]; show cls 59 = 4; decide
  unfold lexF
  rw [hc, hs]
  rfl
theorem skip_semi (n : Nat) : skipN false (List.replicate n 59) = 0 := by
  cases n with
  | zero => rfl
  | succ n =>
    rw [List.replicate_succ, skipN_cons]
    simp [show cls 59 = 4 from by decide]
theorem toks_semi : ∀ (n f a : Nat), n < f → ∃ ts, toksF f a (List.replicate n 59) = .ok ts ∧ ts.length = n
  | 0, f + 1, a, _ => ⟨[], by simp [toksF, skipN], rfl⟩
  | n + 1, f + 1, a, h => by
    obtain ⟨ts, h1, h2⟩ := toks_semi n f (a + 0 + 1) (by omega)
    rw [toksF_tail, skip_semi, List.drop_zero, tailT, lex_semi]
    have : (List.replicate (n + 1) 59).isEmpty = false := by rw [List.replicate_succ]; rfl
    rw [this]
    simp only [Bool.false_eq_true, if_false]
    rw [List.replicate_succ, List.drop_succ_cons, List.drop_zero, h1]
    exact ⟨_, rfl, by simp [h2]⟩
theorem skip_blank (n : Nat) : skipN false (List.replicate n 32) = n := by
  induction n with
  | zero => rfl
  | succ n ih =>
    rw [List.replicate_succ, skipN_cons, ih]
    simp [show cls 32 = 1 from by decide]
theorem skip_hash2 (n : Nat) : skipN true (List.replicate n 35) = n := by
  induction n with
  | zero => rfl
  | succ n ih =>
    rw [List.replicate_succ, skipN_cons, ih]
    simp
theorem skip_hash1 (n : Nat) : skipN false (List.replicate n 35) = n := by
  cases n with
  | zero => rfl
  | succ n =>
    rw [List.replicate_succ, skipN_cons, skip_hash2]
    simp [show cls 35 = 2 from by decide]
theorem toks_none {l : List Nat} (f a : Nat) (h : skipN false l = l.length) : toksF (f + 1) a l = .ok [] := by
  rw [toksF_tail, h, tailT, List.drop_length]
  rfl
theorem toks_bang (n f : Nat) : toksF (f + 1) 0 (List.replicate (n + 2) 33) = .error 1 := by
  have hk : skipN false (List.replicate (n + 2) 33) = 0 := by
    rw [List.replicate_succ, skipN_cons]
    simp [show cls 33 = 4 from by decide]
  have hs : signF (List.replicate (n + 2) 33) = .bad 1 := by
    rw [signF_take, List.replicate_succ, List.replicate_succ]
    show signF [33, 33] = _
    decide +kernel
  have hl : lexF (List.replicate (n + 2) 33) = .bad 1 := by
    unfold lexF
    have hc : cls ((List.replicate (n + 2) 33).headD 0) = 4 := by rw [List.replicate_succ]; show cls 33 = 4; decide
    rw [hc, hs]
    rfl
  rw [toksF_tail, hk, List.drop_zero, tail_bad (by rw [List.replicate_succ]; simp) hl]
/-- a byte of ScanBound's text -/
def fillB (c i : Nat) : Nat := if c = 97 ∧ i % 20 = 19 then 32 else c
def fillL (c n : Nat) : List Nat := (List.range n).map (fillB c)
theorem fillL_same {c : Nat} (hc : c ≠ 97) (n : Nat) : fillL c n = List.replicate n c := by
  unfold fillL
  rw [show fillB c = fun _ => c from funext fun i => by simp [fillB, hc]]
  induction n with
  | zero => rfl
  | succ n ih => rw [List.range_succ, List.map_append, ih, List.replicate_succ']; rfl
theorem fillL_few {n : Nat} (h : n ≤ 19) : fillL 97 n = List.replicate n 97 := by
  unfold fillL
  have : ∀ m, m ≤ 19 → (List.range m).map (fillB 97) = List.replicate m 97 := by
    intro m
    induction m with
    | zero => intro _; rfl
    | succ m ih =>
      intro hm
      rw [List.range_succ, List.map_append, ih (by omega), List.replicate_succ']
      simp [fillB]
      omega
  exact this n h
theorem fillL_more (n : Nat) : fillL 97 (n + 20) = List.replicate 19 97 ++ 32 :: fillL 97 n := by
  unfold fillL
  rw [Nat.add_comm n 20, List.range_add, List.map_append, List.map_map]
  have h1 : (List.range 20).map (fillB 97) = List.replicate 19 97 ++ [32] := by decide
  have h2 : (fillB 97 ∘ fun x => 20 + x) = fillB 97 := funext fun i => by simp [fillB, Nat.add_mod_left]
  rw [h1, h2, List.append_assoc]
  rfl
theorem runN_rep (n : Nat) (t : List Nat) (ht : runN t = 0) : runN (List.replicate n 97 ++ t) = n := by
  induction n with
  | zero => exact ht
  | succ n ih =>
    rw [List.replicate_succ, List.cons_append, runN_cons, ih]
    simp [show isW 97 = true from by decide]
theorem lex_a {n : Nat} (t : List Nat) (h1 : 1 ≤ n) (h2 : n ≤ 32) (ht : runN t = 0) : ∃ x, lexF (List.replicate n 97 ++ t) = .ok x n := by
  have hr := runN_rep n t ht
  have hc : cls ((List.replicate n 97 ++ t).headD 0) = 5 := by
    obtain ⟨m, rfl⟩ : ∃ m, n = m + 1 := ⟨n - 1, by omega⟩
    rw [List.replicate_succ]
    show cls 97 = 5
    decide
  unfold lexF wordF
  rw [hc, hr, if_pos rfl, if_neg (by omega)]
  exact ⟨_, rfl⟩
theorem skip_a {n : Nat} (t : List Nat) (h1 : 1 ≤ n) : skipN false (List.replicate n 97 ++ t) = 0 := by
  obtain ⟨m, rfl⟩ : ∃ m, n = m + 1 := ⟨n - 1, by omega⟩
  rw [List.replicate_succ, List.cons_append, skipN_cons]
  simp [show cls 97 = 5 from by decide]
theorem toks_a : ∀ (q n f a : Nat), n / 20 = q → n % 20 ≠ 0 → q < f → ∃ ts, tailT f a (fillL 97 n) = .ok ts ∧ ts.length = q + 1
  | 0, n, f, a, hq, hm, hf => by
    have hn : n ≤ 19 := by omega
    rw [fillL_few hn]
    obtain ⟨x, hx⟩ := lex_a (n := n) [] (by omega) (by omega) rfl
    rw [List.append_nil] at hx
    obtain ⟨f', rfl⟩ : ∃ f', f = f' + 1 := ⟨f - 1, by omega⟩
    have hne : List.replicate n 97 ≠ [] := by simp; omega
    rw [tail_ok hne hx, List.drop_eq_nil_of_le (by simp), tail_end (List.drop_eq_nil_of_le (by simp))]
    exact ⟨_, rfl, rfl⟩
  | q + 1, n, f, a, hq, hm, hf => by
    obtain ⟨k, rfl⟩ : ∃ k, n = k + 20 := ⟨n - 20, by omega⟩
    rw [fillL_more]
    have hb : runN (32 :: fillL 97 k) = 0 := by rw [runN_cons]; simp [show isW 32 = false from by decide]
    obtain ⟨x, hx⟩ := lex_a (n := 19) (32 :: fillL 97 k) (by omega) (by omega) hb
    obtain ⟨f', rfl⟩ : ∃ f', f = f' + 1 := ⟨f - 1, by omega⟩
    have hne : List.replicate 19 97 ++ 32 :: fillL 97 k ≠ [] := by simp
    have hd : (List.replicate 19 97 ++ 32 :: fillL 97 k).drop 19 = 32 :: fillL 97 k := List.drop_left' (by simp)
    have hk0 : k ≠ 0 := by rintro rfl; exact hm rfl
    have hsk : skipN false (32 :: fillL 97 k) = 1 := by
      rw [skipN_cons]
      have : skipN false (fillL 97 k) = 0 := by
        by_cases hk : k ≤ 19
        · rw [fillL_few hk, ← List.append_nil (List.replicate k 97)]
          exact skip_a [] (by omega)
        · obtain ⟨j, rfl⟩ : ∃ j, k = j + 20 := ⟨k - 20, by omega⟩
          rw [fillL_more]
          exact skip_a _ (by omega)
      rw [this]
      simp [show cls 32 = 1 from by decide]
    obtain ⟨ts, h1, h2⟩ := toks_a q k f' (a + 19 + 1) (by omega) (by omega) (by omega)
    have hd2 : (List.replicate 19 97 ++ 32 :: fillL 97 k).drop (19 + 1) = fillL 97 k := by
      rw [← List.drop_drop, hd]
      rfl
    rw [tail_ok hne hx, hd, hsk, hd2, h1]
    exact ⟨_, rfl, by simp [h2]⟩
theorem toksF_a (n f : Nat) (hm : n % 20 ≠ 0) (hf : n / 20 < f) : ∃ ts, toksF (f + 1) 0 (fillL 97 n) = .ok ts ∧ ts.length = n / 20 + 1 := by
  have hsk : skipN false (fillL 97 n) = 0 := by
    have h0 : n ≠ 0 := by rintro rfl; exact hm rfl
    by_cases hk : n ≤ 19
    · rw [fillL_few hk, ← List.append_nil (List.replicate n 97)]
      exact skip_a [] (by omega)
    · obtain ⟨j, rfl⟩ : ∃ j, n = j + 20 := ⟨n - 20, by omega⟩
      rw [fillL_more]
      exact skip_a _ (by omega)
  rw [toksF_tail, hsk, List.drop_zero]
  exact toks_a (n / 20) n f _ rfl hm hf
end Sc
end Go.Proofs.YtbkjechdoaebnaaDoor
