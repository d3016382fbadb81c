/- Lanes: the heap's order (plain mathematics). Own work. -/
import Derived.Test.YtkhlkbgolonkkaaLnPerm
namespace Go.Proofs.Ytkhlkbgolonkkaa
set_option linter.unusedVariables false
/-- runs not behind -/
def leJ (x y : J4) : Prop := x.d < y.d ∨ (x.d = y.d ∧ x.n ≤ y.n)
theorem leJ.trans {x y z : J4} (h : leJ x y) (h2 : leJ y z) : leJ x z := by unfold leJ at *; omega
theorem leJ.refl (x : J4) : leJ x x := .inr ⟨rfl, Int.le_refl _⟩
theorem ahead_yes {x y : J4} (h : aheadJ x y = true) : leJ x y := by
  unfold aheadJ at h
  unfold leJ
  split at h
  · simp at h; omega
  · simp at h; omega
theorem ahead_no {x y : J4} (h : aheadJ x y = false) : leJ y x := by
  unfold aheadJ at h
  unfold leJ
  split at h
  · simp at h; omega
  · simp at h; omega
/-- the job at a place -/
def gJ (xs : List J4) (i : Nat) : J4 := (xs[i]?).getD ⟨0, 0, 0, 0⟩
theorem aheadAt_gJ (xs : List J4) (j i : Nat) (hj : j < xs.length) (hi : i < xs.length) : aheadAt xs j i = aheadJ (gJ xs j) (gJ xs i) := by
  unfold aheadAt gJ
  rw [List.getElem?_eq_getElem hj, List.getElem?_eq_getElem hi]
  rfl
theorem gJ_swap (xs : List J4) (i j q : Nat) (hi : i < xs.length) (hj : j < xs.length) : gJ (swapT xs i j) q = if q = j then gJ xs i else if q = i then gJ xs j else gJ xs q := by
  unfold swapT gJ
  rw [List.getElem?_eq_getElem hj, List.getElem?_eq_getElem hi]
  simp only [Option.getD_some]
  by_cases h1 : q = j
  · subst h1
    rw [List.getElem?_set_self (by simpa using hj), if_pos rfl]
    rfl
  · rw [List.getElem?_set_ne (by omega), if_neg h1]
    by_cases h2 : q = i
    · subst h2
      rw [List.getElem?_set_self hi, if_pos rfl]
      rfl
    · rw [List.getElem?_set_ne (by omega), if_neg h2]
/-- the first n are a heap -/
def HeapN (n : Nat) (xs : List J4) : Prop := ∀ i, 0 < i → i < n → leJ (gJ xs ((i - 1) / 2)) (gJ xs i)
def UpOk (n : Nat) (xs : List J4) (j : Nat) : Prop := (∀ i, 0 < i → i < n → i ≠ j → leJ (gJ xs ((i - 1) / 2)) (gJ xs i)) ∧ (0 < j → ∀ c, 0 < c → c < n → (c - 1) / 2 = j → leJ (gJ xs ((j - 1) / 2)) (gJ xs c))
theorem up_heap (xs : List J4) (j : Nat) (hj : j < xs.length) (h : UpOk xs.length xs j) : HeapN xs.length (upF xs j) := by
  fun_induction upF xs j with
  | case1 xs => exact fun i h0 h1 => h.1 i h0 h1 (by omega)
  | case2 xs j h1 h2 ih =>
    obtain ⟨p, hp⟩ : ∃ p, (j - 1) / 2 = p := ⟨_, rfl⟩
    rw [hp] at h2 ih ⊢
    have hpl : p < xs.length := by omega
    have hpj : p < j := by omega
    rw [aheadAt_gJ xs j p hj hpl] at h2
    have hk := ahead_yes h2
    have hg : ∀ q, gJ (swapT xs p j) q = if q = j then gJ xs p else if q = p then gJ xs j else gJ xs q := fun q => gJ_swap xs p j q hpl hj
    have e : (swapT xs p j).length = xs.length := swapT_length _ _ _
    rw [e] at ih
    refine ih hpl ⟨fun i h0 hi hne => ?_, fun h0 c hc0 hc hcp => ?_⟩
    · rw [hg, hg]
      by_cases hij : i = j
      · rw [if_neg (by omega), if_pos (by omega), if_pos hij]
        exact hk
      · rw [if_neg hij, if_neg hne]
        have h5 := h.1 i h0 hi hij
        by_cases q1 : (i - 1) / 2 = j
        · rw [if_pos q1]
          have := h.2 (by omega) i h0 hi q1
          rw [hp] at this
          exact this
        · rw [if_neg q1]
          by_cases q2 : (i - 1) / 2 = p
          · rw [if_pos q2]
            rw [q2] at h5
            exact hk.trans h5
          · rw [if_neg q2]
            exact h5
    · rw [hg, hg, if_neg (by omega), if_neg (by omega)]
      have h5 := h.1 p h0 hpl (by omega)
      by_cases hcj : c = j
      · rw [if_pos hcj]
        exact h5
      · rw [if_neg hcj, if_neg (by omega)]
        have h6 := h.1 c hc0 hc hcj
        rw [hcp] at h6
        exact h5.trans h6
  | case3 xs j h1 h2 =>
    intro i h0 hi
    by_cases hij : i = j
    · subst hij
      rw [aheadAt_gJ xs i _ hj (by omega)] at h2
      exact ahead_no (by simpa using h2)
    · exact h.1 i h0 hi hij
def DownOk (n : Nat) (xs : List J4) (i : Nat) : Prop := (∀ c, 0 < c → c < n → (c - 1) / 2 ≠ i → leJ (gJ xs ((c - 1) / 2)) (gJ xs c)) ∧ (0 < i → ∀ c, 0 < c → c < n → (c - 1) / 2 = i → leJ (gJ xs ((i - 1) / 2)) (gJ xs c))
theorem kid_le (xs : List J4) (i n : Nat) (hn : n ≤ xs.length) (h1 : ¬ n ≤ 2 * i + 1) : ∀ c, 0 < c → c < n → (c - 1) / 2 = i → leJ (gJ xs (kidF xs i n)) (gJ xs c) := by
  intro c h0 hc hp
  unfold kidF
  split
  · rename_i h
    rw [aheadAt_gJ xs _ _ (by omega) (by omega)] at h
    have hk := ahead_yes h.2
    have : c = 2 * i + 1 ∨ c = 2 * i + 2 := by omega
    rcases this with e | e
    · rw [e]; exact hk
    · rw [e]; exact leJ.refl _
  · rename_i h
    have : c = 2 * i + 1 ∨ c = 2 * i + 2 := by omega
    rcases this with e | e
    · rw [e]; exact leJ.refl _
    · rw [e] at hc
      rw [aheadAt_gJ xs _ _ (by omega) (by omega)] at h
      rw [e]
      refine ahead_no ?_
      cases hx : aheadJ (gJ xs (2 * i + 2)) (gJ xs (2 * i + 1)) with
      | false => rfl
      | true => exact absurd ⟨hc, hx⟩ h
theorem kid_par (xs : List J4) (i n : Nat) : (kidF xs i n - 1) / 2 = i ∧ i < kidF xs i n := by
  unfold kidF
  split <;> omega
theorem down_heap (xs : List J4) (i n : Nat) (hn : n ≤ xs.length) (hi : i < xs.length) (h : DownOk n xs i) : HeapN n (downF xs i n) := by
  fun_induction downF xs i n with
  | case1 xs i h1 => exact fun c h0 hc => h.1 c h0 hc (by omega)
  | case2 xs i h1 h2 ih =>
    have hkl := kid_le xs i n hn h1
    have hk1 := kidF_lt (xs := xs) h1
    obtain ⟨hk2, hk3⟩ := kid_par xs i n
    generalize kidF xs i n = k at *
    have hkx : k < xs.length := by omega
    rw [aheadAt_gJ xs k i hkx hi] at h2
    have hk := ahead_yes h2
    have hg : ∀ q, gJ (swapT xs i k) q = if q = k then gJ xs i else if q = i then gJ xs k else gJ xs q := fun q => gJ_swap xs i k q hi hkx
    have e : (swapT xs i k).length = xs.length := swapT_length _ _ _
    rw [e] at ih
    refine ih hn hkx ⟨fun c h0 hc hne => ?_, fun h0 c hc0 hc hcp => ?_⟩
    · rw [hg, hg, if_neg hne]
      by_cases q1 : (c - 1) / 2 = i
      · rw [if_pos q1]
        by_cases hck : c = k
        · rw [if_pos hck]; exact hk
        · rw [if_neg hck, if_neg (by omega)]
          exact hkl c h0 hc q1
      · rw [if_neg q1]
        have hck : c ≠ k := fun e => q1 (by rw [e]; exact hk2)
        rw [if_neg hck]
        by_cases hci : c = i
        · rw [if_pos hci]
          subst hci
          exact h.2 h0 k (by omega) hk1 hk2
        · rw [if_neg hci]
          exact h.1 c h0 hc q1
    · rw [hg, hg, hk2, if_neg (by omega), if_pos rfl, if_neg (by omega), if_neg (by omega)]
      have h5 := h.1 c hc0 hc (by omega)
      rw [hcp] at h5
      exact h5
  | case3 xs i h1 h2 =>
    intro c h0 hc
    by_cases q1 : (c - 1) / 2 = i
    · have hkl := kid_le xs i n hn h1 c h0 hc q1
      have hk1 := kidF_lt (xs := xs) h1
      rw [aheadAt_gJ xs _ _ (by omega) hi] at h2
      rw [q1]
      exact (ahead_no (by simpa using h2)).trans hkl
    · exact h.1 c h0 hc q1
theorem heap_first {n : Nat} {xs : List J4} (h : HeapN n xs) : ∀ i, i < n → leJ (gJ xs 0) (gJ xs i) := by
  intro i
  induction i using Nat.strongRecOn with
  | ind i ih =>
    intro hi
    by_cases h0 : i = 0
    · subst h0; exact leJ.refl _
    · exact (ih ((i - 1) / 2) (by omega) (by omega)).trans (h i (by omega) hi)
/-- Push keeps the order -/
theorem push_heap {ws : List J4} (x : J4) (h : HeapN ws.length ws) : HeapN (upF (ws ++ [x]) ws.length).length (upF (ws ++ [x]) ws.length) := by
  rw [upF_length]
  refine up_heap _ _ (by simp) ⟨fun i h0 hi hne => ?_, fun h0 c hc0 hc hcp => ?_⟩
  · simp only [List.length_append, List.length_singleton] at hi
    have hl : ∀ q, q < ws.length → gJ (ws ++ [x]) q = gJ ws q := fun q hq => by
      unfold gJ
      rw [List.getElem?_append_left hq]
    rw [hl _ (by omega), hl _ (by omega)]
    exact h i h0 (by omega)
  · simp only [List.length_append, List.length_singleton] at hc
    omega
/-- Pop keeps the order -/
theorem pop_heap {y : J4} {ws : List J4} (h : HeapN (ws.length + 1) (y :: ws)) : HeapN ((popF (y :: ws)).dropLast).length ((popF (y :: ws)).dropLast) := by
  have hl : ((popF (y :: ws)).dropLast).length = ws.length := (popF_perm y ws).length_eq
  rw [hl]
  have e : (y :: ws).length - 1 = ws.length := by simp
  have h1 : HeapN ws.length (popF (y :: ws)) := by
    unfold popF
    rw [e]
    refine down_heap _ _ _ (by rw [swapT_length]; simp) (by rw [swapT_length]; simp) ⟨fun c h0 hc hne => ?_, fun h0 => by omega⟩
    have hg : ∀ q, gJ (swapT (y :: ws) 0 ws.length) q = if q = ws.length then gJ (y :: ws) 0 else if q = 0 then gJ (y :: ws) ws.length else gJ (y :: ws) q := fun q => gJ_swap _ _ _ _ (by simp) (by simp)
    rw [hg, hg, if_neg (by omega), if_neg (by omega), if_neg (by omega), if_neg (by omega)]
    exact h c h0 (by omega)
  have hd : ∀ q, q < ws.length → gJ ((popF (y :: ws)).dropLast) q = gJ (popF (y :: ws)) q := fun q hq => by
    have hpl : (popF (y :: ws)).length = ws.length + 1 := by rw [popF_length]; rfl
    unfold gJ
    rw [List.getElem?_dropLast, if_pos (by omega)]
  intro i h0 hi
  rw [hd _ (by omega), hd _ hi]
  exact h1 i h0 hi
theorem left_heap {x : J4} {l : Int} {ws : List J4} (h : HeapN (ws.length + 1) (x :: ws)) : HeapN (ws.length + 1) (⟨x.n, x.r, x.d, l⟩ :: ws) := by
  have hk : ∀ q, (gJ (⟨x.n, x.r, x.d, l⟩ :: ws) q).d = (gJ (x :: ws) q).d ∧ (gJ (⟨x.n, x.r, x.d, l⟩ :: ws) q).n = (gJ (x :: ws) q).n := fun q => by
    cases q with
    | zero => exact ⟨rfl, rfl⟩
    | succ q => exact ⟨rfl, rfl⟩
  intro i h0 hi
  have h5 := h i h0 hi
  unfold leJ at h5 ⊢
  rw [(hk _).1, (hk _).1, (hk _).2, (hk _).2]
  exact h5
/-- the first one is the one that is due first -/
theorem heap_head {x : J4} {ws : List J4} (h : HeapN (ws.length + 1) (x :: ws)) : ∀ y ∈ x :: ws, leJ x y := by
  intro y hy
  obtain ⟨i, hi, e⟩ := List.mem_iff_getElem.1 hy
  have h5 := heap_first h i (by simpa using hi)
  have e2 : gJ (x :: ws) i = y := by
    unfold gJ
    rw [List.getElem?_eq_getElem hi, e]
    rfl
  rw [e2] at h5
  exact h5
end Go.Proofs.Ytkhlkbgolonkkaa
