/- Plain: the first wrong byte is told by what stands ahead of it; what stands ahead can be gone on with. -/
import Derived.Test.YtphdpolbmjmkdaaDoorScExt
namespace Go.Proofs.YtphdpolbmjmkdaaDoor
namespace Sc
theorem run_ge : ∀ (m : Nat) (l : List Nat), (l.take m).all isW = true → m ≤ l.length → m ≤ runN l
  | 0, _, _, _ => Nat.zero_le _
  | m + 1, [], _, h => by simp at h
  | m + 1, b :: l, h1, h2 => by
    rw [List.take_succ_cons, List.all_cons, Bool.and_eq_true] at h1
    rw [runN_cons, h1.1, if_pos rfl]
    have := run_ge m l h1.2 (by simpa using h2)
    omega
theorem take_le {l l' : List Nat} {m n : Nat} (h : l'.take n = l.take n) (hm : m ≤ n) : l'.take m = l.take m := by
  have := congrArg (List.take m) h
  rwa [List.take_take, List.take_take, Nat.min_eq_left hm] at this
theorem take_len {l l' : List Nat} {n : Nat} (h : l'.take n = l.take n) (hn : n ≤ l.length) : n ≤ l'.length := by
  have := congrArg List.length h
  rw [List.length_take, List.length_take] at this
  omega
theorem take_drop_eq {l l' : List Nat} {m n : Nat} (h : l'.take (m + n) = l.take (m + n)) : (l'.drop m).take n = (l.drop m).take n := by
  have := congrArg (List.drop m) h
  rw [List.drop_take, List.drop_take, Nat.add_sub_cancel_left] at this
  exact this
theorem digits_ok_ext {base : Nat} : ∀ (l l' : List Nat) (n m j : Nat), digitsF base n l = .ok m j → j < l.length → l'.take (j + 1) = l.take (j + 1) → digitsF base n l' = .ok m j
  | [], _, _, _, _, _, h, _ => by simp at h
  | b :: l, [], _, _, _, _, _, ht => by simp at ht
  | b :: l, b' :: l', n, m, j, h, hj, ht => by
    simp only [List.take_succ_cons, List.cons.injEq] at ht
    obtain ⟨rfl, ht⟩ := ht
    rw [digitsF] at h ⊢
    split at h
    · rename_i hv; rw [if_pos hv]; exact h
    · rename_i hv
      rw [if_neg hv]
      split at h
      · cases h
      · rename_i ho
        rw [if_neg ho]
        cases hd : digitsF base (n * base + value b') l with
        | bad i => rw [hd] at h; cases h
        | ok m' i =>
          rw [hd] at h
          simp only [Res.shift, Res.ok.injEq] at h
          obtain ⟨rfl, rfl⟩ := h
          rw [digits_ok_ext l l' _ _ _ hd (by simp at hj; omega) (by rwa [show 1 + i = i + 1 from by omega] at ht)]
          simp [Res.shift]
theorem digits_bad_ext {base : Nat} : ∀ (l l' : List Nat) (n j : Nat), digitsF base n l = .bad j → l'.take (j + 1) = l.take (j + 1) → digitsF base n l' = .bad j
  | [], _, _, _, h, _ => by cases h
  | b :: l, [], _, _, _, ht => by simp at ht
  | b :: l, b' :: l', n, j, h, ht => by
    simp only [List.take_succ_cons, List.cons.injEq] at ht
    obtain ⟨rfl, ht⟩ := ht
    rw [digitsF] at h ⊢
    split at h
    · cases h
    · rename_i hv
      rw [if_neg hv]
      split at h
      · rename_i ho; rw [if_pos ho]; exact h
      · rename_i ho
        rw [if_neg ho]
        cases hd : digitsF base (n * base + value b') l with
        | ok m' i => rw [hd] at h; cases h
        | bad i =>
          rw [hd] at h
          simp only [Res.shift, Res.bad.injEq] at h
          subst h
          rw [digits_bad_ext l l' _ _ hd (by rwa [show 1 + i = i + 1 from by omega] at ht)]
          rfl
theorem suffix_bad_ext {n j : Nat} {l l' : List Nat} (h : suffixF n l = .bad j) (ht : l'.take (j + 1) = l.take (j + 1)) (hj : j < l.length) : suffixF n l' = .bad j := by
  have hh := head_ext (k := j + 1) (by omega) ht
  unfold suffixF at h ⊢
  rw [hh]
  split at h
  · rename_i hu
    rw [if_pos hu]
    exact h
  · rename_i hu
    rw [if_neg hu]
    split at h
    · rename_i ho; rw [if_pos ho]; exact h
    · rename_i ho
      rw [if_neg ho]
      split at h
      · rename_i hw
        cases h
        have h1 : (l'.drop 1).headD 0 = (l.drop 1).headD 0 := head_ext (k := 1) (Nat.le_refl _) (take_drop_eq (m := 1) (n := 1) ht)
        rw [h1, if_pos hw]
      · cases h
theorem tail_bad_ext {base j : Nat} {l l' : List Nat} (h : tailF base l = .bad j) (ht : l'.take (j + 1) = l.take (j + 1)) (hj : j < l.length) : tailF base l' = .bad j := by
  unfold tailF at h ⊢
  cases hd : digitsF base 0 l with
  | bad i =>
    rw [hd] at h
    cases h
    rw [digits_bad_ext l l' 0 j hd ht]
  | ok n i =>
    rw [hd] at h
    simp only at h
    cases hs : suffixF n (l.drop i) with
    | ok x y => rw [hs] at h; cases h
    | bad y =>
      rw [hs] at h
      simp only [Res.shift, Res.bad.injEq] at h
      subst h
      rw [digits_ok_ext l l' 0 n i hd (by omega) (take_le ht (by omega))]
      simp only
      rw [suffix_bad_ext hs (take_drop_eq (m := i) (n := y + 1) (by rwa [Nat.add_assoc] at ht)) (by rw [List.length_drop]; omega)]
      rfl
theorem digits_first {base : Nat} {l : List Nat} {j : Nat} (h : digitsF base 0 l = .bad j) : 1 ≤ j := by
  cases l with
  | nil => cases h
  | cons b l =>
    rw [digitsF] at h
    split at h
    · cases h
    · rename_i hv
      have ho : over 0 base (value b) = false := by unfold over; simp
      rw [ho] at h
      simp only [Bool.false_eq_true, if_false] at h
      cases hd : digitsF base (0 * base + value b) l with
      | ok m i => rw [hd] at h; cases h
      | bad i => rw [hd] at h; simp only [Res.shift, Res.bad.injEq] at h; omega
theorem tail_first {base : Nat} {l : List Nat} {j : Nat} (h : tailF base l = .bad j) (hv : value (l.headD 0) < base) (hb : base ≤ 16) : 1 ≤ j := by
  unfold tailF at h
  cases hd : digitsF base 0 l with
  | bad i => rw [hd] at h; cases h; exact digits_first hd
  | ok n i =>
    have := digits_some hd hv hb
    rw [hd] at h
    simp only at h
    cases hs : suffixF n (l.drop i) with
    | ok x y => rw [hs] at h; cases h
    | bad y => rw [hs] at h; simp only [Res.shift, Res.bad.injEq] at h; omega
theorem hex_ext {l l' : List Nat} (h : l'.take 2 = l.take 2) : isHex l' = isHex l := by unfold isHex; rw [h]
theorem integer_bad_ext {k : Nat} {l l' : List Nat} (hv : value (l.headD 0) < 10) (h : integerF l = .bad k) (ht : l'.take (k + 1) = l.take (k + 1)) (hk : k < l.length) : integerF l' = .bad k := by
  unfold integerF at h ⊢
  cases hx : isHex l with
  | true =>
    rw [hx, if_pos rfl] at h
    by_cases h16 : 16 ≤ value ((l.drop 2).headD 0)
    · rw [if_pos h16] at h
      cases h
      have h1 : (l'.drop 2).headD 0 = (l.drop 2).headD 0 := head_ext (k := 1) (Nat.le_refl _) (take_drop_eq (m := 2) (n := 1) ht)
      rw [hex_ext (take_le ht (by omega)), hx, if_pos rfl, h1, if_pos h16]
    · rw [if_neg h16] at h
      cases hs : tailF 16 (l.drop 2) with
      | ok x y => rw [hs] at h; cases h
      | bad y =>
        rw [hs] at h
        simp only [Res.shift, Res.bad.injEq] at h
        subst h
        have h1 : (l'.drop 2).headD 0 = (l.drop 2).headD 0 := head_ext (k := 1) (Nat.le_refl _) (take_drop_eq (m := 2) (n := 1) (take_le ht (by omega)))
        rw [hex_ext (take_le ht (by omega)), hx, if_pos rfl, h1, if_neg h16, tail_bad_ext hs (take_drop_eq (m := 2) (n := y + 1) (by rwa [Nat.add_assoc] at ht)) (by rw [List.length_drop]; omega)]
        rfl
  | false =>
    rw [hx, if_neg (by decide)] at h
    have h1 := tail_first h hv (by omega)
    rw [hex_ext (take_le ht (by omega)), hx, if_neg (by decide)]
    exact tail_bad_ext h ht hk
theorem text_bad_ext : ∀ (n : Nat) (l : List Nat), l.length ≤ n → ∀ j, textF l = .bad j → j < l.length → ∀ l', l'.take (j + 1) = l.take (j + 1) → textF l' = .bad j
  | 0, l, hn, j, h, hj => by omega
  | n + 1, l, hn, j, h, hj => by
    intro l' ht
    cases l with
    | nil => simp at hj
    | cons b t =>
      cases l' with
      | nil => simp at ht
      | cons b' t' =>
        simp only [List.take_succ_cons, List.cons.injEq] at ht
        obtain ⟨rfl, ht⟩ := ht
        have ih := text_bad_ext n
        simp only [List.length_cons] at hn hj
        have step : ∀ (u u' : List Nat) (f : List Nat → List Nat) (d : Nat), u.length ≤ n → ((textF u).map f).shift d = .bad j → j < d + u.length → (∀ i, j = d + i → u'.take (i + 1) = u.take (i + 1)) → ((textF u').map f).shift d = .bad j := by
          intro u u' f d hu he hlt htt
          cases hx : textF u with
          | ok ys i => rw [hx] at he; simp only [Res.map, Res.shift] at he; cases he
          | bad i =>
            rw [hx] at he
            simp only [Res.map, Res.shift, Res.bad.injEq] at he
            rw [ih u hu i hx (by omega) u' (htt i (by omega))]
            simp only [Res.map, Res.shift, he]
        rw [textF_cons] at h ⊢
        split at h
        · cases h
        · rename_i hb
          rw [if_neg hb]
          split at h
          · rename_i hb2
            rw [if_pos hb2]
            cases t with
            | nil => cases h; simp at hj
            | cons e t2 =>
              have hj1 : 1 ≤ j := by
                rw [escF] at h
                split at h
                · cases t2 with
                  | nil => cases h; omega
                  | cons hh t3 =>
                    by_cases hv : 15 < value hh
                    · rw [hexF_big t3 hv] at h; cases h; omega
                    · cases t3 with
                      | nil => rw [hexF, if_neg hv] at h; cases h; omega
                      | cons g t4 =>
                        rw [hexF, if_neg hv] at h
                        split at h
                        · cases h; omega
                        · cases hx : textF t4 with
                          | ok ys i => rw [hx] at h; cases h
                          | bad i => rw [hx] at h; simp only [Res.map, Res.shift, Res.bad.injEq] at h; omega
                · have key : ∀ (u : List Nat) (f : List Nat → List Nat), ((textF u).map f).shift 2 = Res.bad j → 1 ≤ j := by
                    intro u f hq
                    cases hx : textF u with
                    | ok ys i => rw [hx] at hq; cases hq
                    | bad i => rw [hx] at hq; simp only [Res.map, Res.shift, Res.bad.injEq] at hq; omega
                  split at h
                  · exact key _ _ h
                  · split at h
                    · exact key _ _ h
                    · split at h
                      · exact key _ _ h
                      · cases h; omega
              obtain ⟨j1, rfl⟩ : ∃ j1, j = j1 + 1 := ⟨j - 1, by omega⟩
              cases t' with
              | nil => simp at ht
              | cons e' t2' =>
                simp only [List.take_succ_cons, List.cons.injEq] at ht
                obtain ⟨rfl, ht⟩ := ht
                simp only [List.length_cons] at hn hj
                rw [escF] at h ⊢
                split at h
                · rename_i he
                  rw [if_pos he]
                  cases t2 with
                  | nil => cases h; simp at hj
                  | cons hh t3 =>
                    simp only [List.length_cons] at hn hj
                    have hj2 : 1 ≤ j1 := by
                      by_cases hv : 15 < value hh
                      · rw [hexF_big t3 hv] at h; cases h; omega
                      · cases t3 with
                        | nil => rw [hexF, if_neg hv] at h; cases h; omega
                        | cons g t4 =>
                          rw [hexF, if_neg hv] at h
                          split at h
                          · cases h; omega
                          · cases hx : textF t4 with
                            | ok ys i => rw [hx] at h; cases h
                            | bad i => rw [hx] at h; simp only [Res.map, Res.shift, Res.bad.injEq] at h; omega
                    obtain ⟨j2, rfl⟩ : ∃ j2, j1 = j2 + 1 := ⟨j1 - 1, by omega⟩
                    cases t2' with
                    | nil => simp at ht
                    | cons hh' t3' =>
                      simp only [List.take_succ_cons, List.cons.injEq] at ht
                      obtain ⟨rfl, ht⟩ := ht
                      by_cases hv : 15 < value hh'
                      · rw [hexF_big t3 hv] at h
                        rw [hexF_big t3' hv]
                        exact h
                      · cases t3 with
                        | nil => rw [hexF, if_neg hv] at h; cases h; simp at hj
                        | cons g t4 =>
                          simp only [List.length_cons] at hn hj
                          rw [hexF, if_neg hv] at h
                          have hj3 : 1 ≤ j2 := by
                            split at h
                            · cases h; omega
                            · cases hx : textF t4 with
                              | ok ys i => rw [hx] at h; cases h
                              | bad i => rw [hx] at h; simp only [Res.map, Res.shift, Res.bad.injEq] at h; omega
                          obtain ⟨j3, rfl⟩ : ∃ j3, j2 = j3 + 1 := ⟨j2 - 1, by omega⟩
                          cases t3' with
                          | nil => simp at ht
                          | cons g' t4' =>
                            simp only [List.take_succ_cons, List.cons.injEq] at ht
                            obtain ⟨rfl, ht⟩ := ht
                            rw [hexF, if_neg hv]
                            split at h
                            · rename_i hv2; rw [if_pos hv2]; exact h
                            · rename_i hv2
                              rw [if_neg hv2]
                              exact step t4 t4' _ 4 (by omega) h (by omega) (fun i hi => by have e0 : j3 = i + 1 := (by omega); rw [e0] at ht; exact ht)
                · rename_i he
                  rw [if_neg he]
                  have two : ∀ f : List Nat → List Nat, ((textF t2).map f).shift 2 = Res.bad (j1 + 1) → ((textF t2').map f).shift 2 = Res.bad (j1 + 1) := fun f hq =>
                    step t2 t2' f 2 (by omega) hq (by omega) (fun i hi => by have e0 : j1 = i + 1 := (by omega); rw [e0] at ht; exact ht)
                  split at h
                  · rename_i he2; rw [if_pos he2]; exact two _ h
                  · rename_i he2
                    rw [if_neg he2]
                    split at h
                    · rename_i he3; rw [if_pos he3]; exact two _ h
                    · rename_i he3
                      rw [if_neg he3]
                      split at h
                      · rename_i he4; rw [if_pos he4]; exact two _ h
                      · rename_i he4; rw [if_neg he4]; exact h
          · rename_i hb2
            rw [if_neg hb2]
            split at h
            · rename_i hb3; rw [if_pos hb3]; exact h
            · rename_i hb3
              rw [if_neg hb3]
              exact step t t' _ 1 (by omega) h (by omega) (fun i hi => by subst hi; rwa [show 1 + i = i + 1 from by omega] at ht)
theorem sign_bad_ext {l l' : List Nat} {j : Nat} (h : signF l = .bad j) (ht : l'.take (j + 1) = l.take (j + 1)) : signF l' = .bad j := by
  have hj := sign_bad h
  subst hj
  have hc : signFrom l signs 0 (0, 0) = signFrom l' signs 0 (0, 0) := sign_cong l l' signs 0 (0, 0) fun s hs => by
    have := signs_short s hs
    rw [take_le ht (by omega)]
  unfold signF at h ⊢
  rw [← hc]
  exact h
theorem value_six {b : Nat} (h : cls b = 6) : value b < 10 := by
  have : ∀ t : Fin 128, cls t.val = 6 → value t.val < 10 := by decide +kernel
  by_cases h128 : b < 128
  · exact this ⟨b, h128⟩ h
  · unfold cls at h; rw [if_neg h128] at h; omega
theorem lex_bad_ext {l l' : List Nat} {k : Nat} (h : lexF l = .bad k) (hk : k < l.length) (ht : l'.take (k + 1) = l.take (k + 1)) : lexF l' = .bad k := by
  have hh := head_ext (k := k + 1) (by omega) ht
  unfold lexF at h ⊢
  rw [hh]
  split at h
  · rename_i hc
    rw [if_pos hc]
    unfold wordF at h ⊢
    split at h
    · rename_i h32
      cases h
      have : 33 ≤ runN l' := run_ge 33 l' (by
        rw [ht, List.all_eq_true]
        intro x hx
        refine run_words l x ?_
        have e : l.take 33 = (l.take (runN l)).take 33 := by rw [List.take_take, Nat.min_eq_left (by omega)]
        rw [e] at hx
        exact List.mem_of_mem_take hx) (take_len ht (by omega))
      rw [if_pos (by omega)]
      rfl
    · cases h
  · rename_i hc
    rw [if_neg hc]
    split at h
    · rename_i hc6
      rw [if_pos hc6]
      cases e : integerF l with
      | ok n j => rw [e] at h; cases h
      | bad j =>
        rw [e] at h
        simp only [Res.map, Res.bad.injEq] at h
        subst h
        rw [integer_bad_ext (value_six hc6) e ht hk]
        rfl
    · rename_i hc6
      rw [if_neg hc6]
      split at h
      · rename_i hc3
        rw [if_pos hc3]
        cases e : textF (l.drop 1) with
        | ok n j => rw [e] at h; cases h
        | bad j =>
          rw [e] at h
          simp only [Res.shift, Res.map, Res.bad.injEq] at h
          subst h
          rw [text_bad_ext _ (l.drop 1) (Nat.le_refl _) j e (by rw [List.length_drop]; omega) (l'.drop 1) (take_drop_eq (m := 1) (n := j + 1) (by rwa [Nat.add_assoc] at ht))]
          rfl
      · rename_i hc3
        rw [if_neg hc3]
        split at h
        · rename_i hc4
          rw [if_pos hc4]
          cases e : signF l with
          | ok n j => rw [e] at h; cases h
          | bad j =>
            rw [e] at h
            simp only [Res.map, Res.bad.injEq] at h
            subst h
            rw [sign_bad_ext e ht]
            rfl
        · rename_i hc4
          rw [if_neg hc4]
          exact h
end Sc
end Go.Proofs.YtphdpolbmjmkdaaDoor
