/- Plain: what stands ahead of the first wrong byte can be gone on with. -/
import Derived.Test.YtphdpolbmjmkdaaDoorScFst
namespace Go.Proofs.YtphdpolbmjmkdaaDoor
namespace Sc
/-- what may be put behind -/
def endsL : List (List Nat) := [[], [34], [110, 34], [48, 48, 34], [48, 34], [48], [46], [61]]
def endsT : List (List Nat) := [[34], [110, 34], [48, 48, 34], [48, 34]]
theorem text_goes : ∀ (n : Nat) (l : List Nat), l.length ≤ n → ∀ j, textF l = .bad j → j ≤ l.length ∧ ∃ e ∈ endsT, ∃ xs, textF (l.take j ++ e) = .ok xs (j + e.length)
  | 0, l, hn, j, h => by
    have : l = [] := List.eq_nil_of_length_eq_zero (by omega)
    subst this
    rw [textF.eq_def] at h
    cases h
    exact ⟨Nat.le_refl _, [34], by decide, [], rfl⟩
  | n + 1, l, hn, j, h => by
    cases l with
    | nil => rw [textF.eq_def] at h; cases h; exact ⟨Nat.le_refl _, [34], by decide, [], rfl⟩
    | cons b t =>
      have ih := text_goes n
      simp only [List.length_cons] at hn
      rw [textF_cons] at h
      have e92 : textF [92, 110, 34] = .ok [10] 3 := by
        rw [textF_cons, if_neg (by decide), if_pos rfl, escF, if_neg (by decide), if_pos rfl, textF_cons, if_pos rfl]
        rfl
      split at h
      · cases h
      · rename_i hb
        split at h
        · rename_i hb2
          subst hb2
          cases t with
          | nil => cases h; exact ⟨by simp, [110, 34], by decide, [10], e92⟩
          | cons e t2 =>
            simp only [List.length_cons] at hn
            rw [escF] at h
            split at h
            · rename_i he
              subst he
              have e120 : textF [92, 120, 48, 48, 34] = .ok [0] 5 := by
                rw [textF_cons, if_neg (by decide), if_pos rfl, escF, if_pos rfl, hexF, if_neg (by decide), if_neg (by decide), textF_cons, if_pos rfl]
                rfl
              cases t2 with
              | nil => cases h; exact ⟨by simp, [48, 48, 34], by decide, [0], e120⟩
              | cons hh t3 =>
                simp only [List.length_cons] at hn
                by_cases hv : 15 < value hh
                · rw [hexF_big t3 hv] at h
                  cases h
                  exact ⟨by simp, [48, 48, 34], by decide, [0], e120⟩
                · have e3 : textF [92, 120, hh, 48, 34] = .ok [16 * value hh + 0] 5 := by
                    rw [textF_cons, if_neg (by decide), if_pos rfl, escF, if_pos rfl, hexF, if_neg hv, if_neg (by decide), textF_cons, if_pos rfl]
                    rfl
                  cases t3 with
                  | nil =>
                    rw [hexF, if_neg hv] at h
                    cases h
                    exact ⟨by simp, [48, 34], by decide, _, e3⟩
                  | cons g t4 =>
                    simp only [List.length_cons] at hn
                    rw [hexF, if_neg hv] at h
                    split at h
                    · cases h
                      exact ⟨by simp, [48, 34], by decide, _, e3⟩
                    · rename_i hv2
                      cases hx : textF t4 with
                      | ok ys i => rw [hx] at h; cases h
                      | bad i =>
                        rw [hx] at h
                        simp only [Res.map, Res.shift, Res.bad.injEq] at h
                        subst h
                        obtain ⟨h1, e, he, xs, h2⟩ := ih t4 (by omega) i hx
                        refine ⟨by simp; omega, e, he, (16 * value hh + value g) :: xs, ?_⟩
                        rw [show 4 + i = i + 4 from by omega]
                        simp only [List.take_succ_cons, List.cons_append]
                        rw [textF_cons, if_neg hb, if_pos rfl, escF, if_pos rfl, hexF, if_neg hv, if_neg hv2, h2]
                        simp [Res.map, Res.shift]
                        omega
            · rename_i he
              have two : ∀ y : Nat, (∀ u : List Nat, textF (92 :: e :: u) = ((textF u).map (y :: ·)).shift 2) → ((textF t2).map (y :: ·)).shift 2 = Res.bad j → j ≤ (92 :: e :: t2).length ∧ ∃ e' ∈ endsT, ∃ xs, textF ((92 :: e :: t2).take j ++ e') = .ok xs (j + e'.length) := by
                intro y hy hq
                cases hx : textF t2 with
                | ok ys i => rw [hx] at hq; cases hq
                | bad i =>
                  rw [hx] at hq
                  simp only [Res.map, Res.shift, Res.bad.injEq] at hq
                  subst hq
                  obtain ⟨h1, e', he', xs, h2⟩ := ih t2 (by omega) i hx
                  refine ⟨by simp; omega, e', he', y :: xs, ?_⟩
                  rw [show 2 + i = i + 2 from by omega]
                  simp only [List.take_succ_cons, List.cons_append]
                  rw [hy, h2]
                  simp [Res.map, Res.shift]
                  omega
              split at h
              · rename_i he2
                exact two 10 (fun u => by rw [textF_cons, if_neg hb, if_pos rfl, escF, if_neg he, if_pos he2]) h
              · rename_i he2
                split at h
                · rename_i he3
                  exact two 9 (fun u => by rw [textF_cons, if_neg hb, if_pos rfl, escF, if_neg he, if_neg he2, if_pos he3]) h
                · rename_i he3
                  split at h
                  · rename_i he4
                    exact two e (fun u => by rw [textF_cons, if_neg hb, if_pos rfl, escF, if_neg he, if_neg he2, if_neg he3, if_pos he4]) h
                  · cases h
                    exact ⟨by simp, [110, 34], by decide, [10], e92⟩
        · rename_i hb2
          split at h
          · cases h
            exact ⟨by simp, [34], by decide, [], rfl⟩
          · rename_i hb3
            cases hx : textF t with
            | ok ys i => rw [hx] at h; cases h
            | bad i =>
              rw [hx] at h
              simp only [Res.map, Res.shift, Res.bad.injEq] at h
              subst h
              obtain ⟨h1, e', he', xs, h2⟩ := ih t (by omega) i hx
              refine ⟨by simp; omega, e', he', b :: xs, ?_⟩
              rw [show 1 + i = i + 1 from by omega]
              simp only [List.take_succ_cons, List.cons_append]
              rw [textF_cons, if_neg hb, if_neg hb2, if_neg hb3, h2]
              simp [Res.map, Res.shift]
              omega
theorem digits_take_ok {base : Nat} : ∀ (l : List Nat) (n m i : Nat), digitsF base n l = .ok m i → digitsF base n (l.take i) = .ok m i
  | [], _, _, _, h => by cases h; rfl
  | b :: l, n, m, i, h => by
    rw [digitsF] at h
    split at h
    · cases h; rfl
    · rename_i hv
      split at h
      · cases h
      · rename_i ho
        cases hd : digitsF base (n * base + value b) l with
        | bad j => rw [hd] at h; cases h
        | ok m' j =>
          rw [hd] at h
          simp only [Res.shift, Res.ok.injEq] at h
          obtain ⟨rfl, rfl⟩ := h
          rw [show 1 + j = j + 1 from by omega, List.take_succ_cons, digitsF, if_neg hv, if_neg ho, digits_take_ok l _ _ _ hd]
          simp [Res.shift]
          omega
theorem digits_take_bad {base : Nat} : ∀ (l : List Nat) (n j : Nat), digitsF base n l = .bad j → ∃ m, digitsF base n (l.take j) = .ok m j
  | [], _, _, h => by cases h
  | b :: l, n, j, h => by
    rw [digitsF] at h
    split at h
    · cases h
    · rename_i hv
      split at h
      · cases h; exact ⟨n, rfl⟩
      · rename_i ho
        cases hd : digitsF base (n * base + value b) l with
        | ok m' i => rw [hd] at h; cases h
        | bad i =>
          rw [hd] at h
          simp only [Res.shift, Res.bad.injEq] at h
          subst h
          obtain ⟨m, hm⟩ := digits_take_bad l _ _ hd
          refine ⟨m, ?_⟩
          rw [show 1 + i = i + 1 from by omega, List.take_succ_cons, digitsF, if_neg hv, if_neg ho, hm]
          simp [Res.shift]
          omega
theorem suffix_nil (n : Nat) : suffixF n [] = .ok n 0 := by
  unfold suffixF
  rw [List.headD_nil, if_pos (by decide), if_neg (by decide)]
theorem tail_goes {base : Nat} {l : List Nat} {j : Nat} (h : tailF base l = .bad j) (hv : value (l.headD 0) < base) (hb : base ≤ 16) : 1 ≤ j ∧ ∃ x, tailF base (l.take j) = .ok x j := by
  refine ⟨tail_first h hv hb, ?_⟩
  unfold tailF at h ⊢
  cases hd : digitsF base 0 l with
  | bad i =>
    rw [hd] at h
    cases h
    obtain ⟨m, hm⟩ := digits_take_bad l _ _ hd
    rw [hm]
    simp only
    rw [List.drop_of_length_le (by rw [List.length_take]; omega), suffix_nil]
    exact ⟨m, rfl⟩
  | ok n i =>
    rw [hd] at h
    simp only at h
    cases hs : suffixF n (l.drop i) with
    | ok x y => rw [hs] at h; cases h
    | bad y =>
      rw [hs] at h
      simp only [Res.shift, Res.bad.injEq] at h
      subst h
      unfold suffixF at hs
      split at hs
      · split at hs
        · cases hs
          rw [Nat.add_zero, digits_take_ok l _ _ _ hd]
          simp only
          rw [List.drop_of_length_le (by rw [List.length_take]; omega), suffix_nil]
          exact ⟨n, rfl⟩
        · cases hs
      · rename_i hu
        split at hs
        · cases hs
          rw [Nat.add_zero, digits_take_ok l _ _ _ hd]
          simp only
          rw [List.drop_of_length_le (by rw [List.length_take]; omega), suffix_nil]
          exact ⟨n, rfl⟩
        · rename_i ho
          split at hs
          · cases hs
            have hne : i < l.length := by
              refine Classical.byContradiction fun hc => hu ?_
              rw [List.drop_of_length_le (by omega)]
              decide
            rw [digits_ok_ext l (l.take (i + 1)) 0 n i hd hne (by rw [List.take_take, Nat.min_self])]
            simp only
            have hc : (l.take (i + 1)).drop i = [(l.drop i).headD 0] := by
              rw [List.drop_take, Nat.add_sub_cancel_left, List.drop_eq_getElem_cons hne]
              rfl
            rw [hc]
            refine ⟨n * unit ((l.drop i).headD 0), ?_⟩
            unfold suffixF
            rw [List.headD_cons, if_neg hu, if_neg ho, show (List.drop 1 [(l.drop i).headD 0]).headD 0 = 0 from rfl, if_neg (by decide)]
            rfl
          · cases hs
theorem integer_goes {l : List Nat} {k : Nat} (h : integerF l = .bad k) (hv : value (l.headD 0) < 10) : 1 ≤ k ∧ ∃ e ∈ endsL, ∃ x, integerF (l.take k ++ e) = .ok x (k + e.length) := by
  unfold integerF at h
  cases hx : isHex l with
  | true =>
    rw [hx, if_pos rfl] at h
    have h2 : l.take 2 = [48, 120] := by unfold isHex at hx; exact of_decide_eq_true hx
    by_cases h16 : 16 ≤ value ((l.drop 2).headD 0)
    · rw [if_pos h16] at h
      cases h
      refine ⟨by omega, [48], by decide, 0, ?_⟩
      rw [h2]
      decide +kernel
    · rw [if_neg h16] at h
      cases hs : tailF 16 (l.drop 2) with
      | ok x y => rw [hs] at h; cases h
      | bad y =>
        rw [hs] at h
        simp only [Res.shift, Res.bad.injEq] at h
        subst h
        obtain ⟨y1, x, hx2⟩ := tail_goes hs (by omega) (by omega)
        refine ⟨by omega, [], by decide, x, ?_⟩
        have e1 : l.take (2 + y) = [48, 120] ++ (l.drop 2).take y := by rw [List.take_add, h2]
        rw [List.append_nil, e1]
        unfold integerF
        rw [show isHex ([48, 120] ++ (l.drop 2).take y) = true from by unfold isHex; simp, if_pos rfl]
        simp only [List.cons_append, List.nil_append, List.drop_succ_cons, List.drop_zero]
        have hh : ((l.drop 2).take y).headD 0 = (l.drop 2).headD 0 := head_ext (k := y) y1 (by rw [List.take_take, Nat.min_self])
        rw [hh, if_neg h16, hx2]
        simp [Res.shift]
  | false =>
    rw [hx, if_neg (by decide)] at h
    obtain ⟨k1, x, hx2⟩ := tail_goes h hv (by omega)
    refine ⟨k1, [], by decide, x, ?_⟩
    rw [List.append_nil]
    unfold integerF
    have : isHex (l.take k) = false := by
      unfold isHex at hx ⊢
      rw [decide_eq_false_iff_not] at hx ⊢
      intro hc
      rw [List.take_take] at hc
      by_cases h2 : 2 ≤ k
      · rw [Nat.min_eq_left h2] at hc; exact hx hc
      · have := congrArg List.length hc
        rw [List.length_take] at this
        simp at this
        omega
    rw [this, if_neg (by decide), hx2]
    rfl
theorem cls_sign {b : Nat} (h : cls b = 4) : b = 33 ∨ b = 46 ∨ [b] ∈ signs := by
  have : ∀ t : Fin 128, cls t.val = 4 → t.val = 33 ∨ t.val = 46 ∨ [t.val] ∈ signs := by decide +kernel
  by_cases h128 : b < 128
  · exact this ⟨b, h128⟩ h
  · unfold cls at h; rw [if_neg h128] at h; omega
theorem lex_goes {l : List Nat} {k : Nat} (h : lexF l = .bad k) (hne : l ≠ []) : k ≤ l.length ∧ (k = 0 ∨ 1 ≤ k ∧ ∃ e ∈ endsL, ∃ x, lexF (l.take k ++ e) = .ok x (k + e.length)) := by
  have hpos : 0 < l.length := List.length_pos_iff.2 hne
  have hd : ∀ (k : Nat) (e : List Nat), 1 ≤ k → (l.take k ++ e).headD 0 = l.headD 0 := by
    intro k e hk
    cases l with
    | nil => exact absurd rfl hne
    | cons b t => obtain ⟨k, rfl⟩ : ∃ m, k = m + 1 := ⟨k - 1, by omega⟩; rfl
  unfold lexF at h
  split at h
  · rename_i hc
    unfold wordF at h
    split at h
    · rename_i h32
      cases h
      have hle := runN_le l
      refine ⟨by omega, .inr ⟨by omega, [], by decide, ?_⟩⟩
      have hall : (l.take 32).all isW = true := by
        rw [List.all_eq_true]
        intro x hx
        refine run_words l x ?_
        have e : l.take 32 = (l.take (runN l)).take 32 := by rw [List.take_take, Nat.min_eq_left (by omega)]
        rw [e] at hx
        exact List.mem_of_mem_take hx
      have hr := run_all _ hall
      rw [List.length_take, Nat.min_eq_left (by omega)] at hr
      unfold lexF
      rw [hd 32 [] (by omega), if_pos hc, List.append_nil]
      unfold wordF
      rw [hr, if_neg (by omega)]
      exact ⟨_, rfl⟩
    · cases h
  · rename_i hc
    split at h
    · rename_i hc6
      cases e : integerF l with
      | ok n j => rw [e] at h; cases h
      | bad j =>
        rw [e] at h
        simp only [Res.map, Res.bad.injEq] at h
        subst h
        obtain ⟨k1, e', he', x, hx⟩ := integer_goes e (value_six hc6)
        have := integer_off (value_six hc6) e
        have hle := runN_le l
        refine ⟨by omega, .inr ⟨k1, e', he', (2, x, []), ?_⟩⟩
        unfold lexF
        rw [hd j e' k1, if_neg hc, if_pos hc6, hx]
        rfl
    · rename_i hc6
      split at h
      · rename_i hc3
        cases e : textF (l.drop 1) with
        | ok n j => rw [e] at h; cases h
        | bad j =>
          rw [e] at h
          simp only [Res.shift, Res.map, Res.bad.injEq] at h
          subst h
          obtain ⟨h1, e', he', xs, hx⟩ := text_goes _ (l.drop 1) (Nat.le_refl _) j e
          rw [List.length_drop] at h1
          refine ⟨by omega, .inr ⟨by omega, e', ?_, (3, 0, xs), ?_⟩⟩
          · have : ∀ u ∈ endsT, u ∈ endsL := by decide
            exact this e' he'
          · unfold lexF
            rw [hd (1 + j) e' (by omega), if_neg hc, if_neg hc6, if_pos hc3]
            have e2 : (l.take (1 + j) ++ e').drop 1 = (l.drop 1).take j ++ e' := by
              cases l with
              | nil => exact absurd rfl hne
              | cons b t => rw [show 1 + j = j + 1 from by omega]; rfl
            rw [e2, hx]
            simp [Res.map, Res.shift]
            omega
      · rename_i hc3
        split at h
        · rename_i hc4
          cases e : signF l with
          | ok n j => rw [e] at h; cases h
          | bad j =>
            rw [e] at h
            simp only [Res.map, Res.bad.injEq] at h
            subst h
            have hj := sign_bad e
            subst hj
            refine ⟨hpos, .inr ⟨Nat.le_refl _, ?_⟩⟩
            cases l with
            | nil => exact absurd rfl hne
            | cons b t =>
              have hcb : cls b = 4 := hc4
              rcases cls_sign hcb with rfl | rfl | hm
              · exact ⟨[61], by decide, _, (by decide +kernel : lexF [33, 61] = .ok (15, 0, []) 2)⟩
              · exact ⟨[46], by decide, _, (by decide +kernel : lexF [46, 46] = .ok (12, 0, []) 2)⟩
              · exfalso
                have := (sign_max (b :: t) signs 0 (0, 0)).2 [b] hm rfl
                unfold signF at e
                generalize signFrom (b :: t) signs 0 (0, 0) = r at *
                split at e
                · rename_i h0; rw [h0] at this; simp at this
                · cases e
        · cases h
          exact ⟨Nat.zero_le _, .inl rfl⟩
end Sc
end Go.Proofs.YtphdpolbmjmkdaaDoor
