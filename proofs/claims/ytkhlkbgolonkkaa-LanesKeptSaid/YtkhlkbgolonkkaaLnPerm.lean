/- Lanes: container/heap's Push and Pop only change places; Pop takes the first one away. Own work. -/
import Derived.Test.YtkhlkbgolonkkaaLnHpM
namespace Go.Proofs.Ytkhlkbgolonkkaa
theorem swapT_perm (xs : List J4) (i j : Nat) : (swapT xs i j).Perm xs := by
  unfold swapT
  split
  · rename_i a b ha hb
    obtain ⟨hi, ea⟩ := List.getElem?_eq_some_iff.1 ha
    obtain ⟨hj, eb⟩ := List.getElem?_eq_some_iff.1 hb
    rw [← ea, ← eb]
    exact List.set_set_perm hi hj
  · exact List.Perm.refl _
theorem upF_perm (xs : List J4) (j : Nat) : (upF xs j).Perm xs := by
  fun_induction upF xs j with
  | case1 => exact List.Perm.refl _
  | case2 xs j h1 h2 ih => exact ih.trans (swapT_perm _ _ _)
  | case3 => exact List.Perm.refl _
theorem downF_perm (xs : List J4) (i n : Nat) : (downF xs i n).Perm xs := by
  fun_induction downF xs i n with
  | case1 => exact List.Perm.refl _
  | case2 xs i h1 h2 ih => exact ih.trans (swapT_perm _ _ _)
  | case3 => exact List.Perm.refl _
theorem swapT_get_other (xs : List J4) (i j q : Nat) (h1 : q ≠ i) (h2 : q ≠ j) : (swapT xs i j)[q]? = xs[q]? := by
  unfold swapT
  split
  · rw [List.getElem?_set_ne (by omega), List.getElem?_set_ne (by omega)]
  · rfl
theorem kidF_lt {xs : List J4} {i n : Nat} (h : ¬ n ≤ 2 * i + 1) : kidF xs i n < n := by
  unfold kidF
  split <;> omega
theorem downF_get_ge (xs : List J4) (i n q : Nat) (hq : n ≤ q) : (downF xs i n)[q]? = xs[q]? := by
  fun_induction downF xs i n with
  | case1 => rfl
  | case2 xs i h1 h2 ih =>
    rw [ih]
    have h3 := kidF_lt (xs := xs) h1
    exact swapT_get_other _ _ _ _ (by omega) (by omega)
  | case3 => rfl
theorem swapT_get_last (y : J4) (ws : List J4) : (swapT (y :: ws) 0 ws.length)[ws.length]? = some y := by
  unfold swapT
  have e : (y :: ws)[ws.length]? = some ((y :: ws)[ws.length]'(Nat.lt_succ_self _)) := List.getElem?_eq_getElem _
  rw [List.getElem?_cons_zero, e]
  show (((y :: ws).set 0 _).set ws.length y)[ws.length]? = some y
  rw [List.getElem?_set_self]
  rw [List.length_set]
  exact Nat.lt_succ_self _
/-- the first one is taken away, the others stay -/
theorem popF_perm (y : J4) (ws : List J4) : ((popF (y :: ws)).dropLast).Perm ws := by
  have hl : (popF (y :: ws)).length = ws.length + 1 := by rw [popF_length]; rfl
  have hlast : (popF (y :: ws))[ws.length]? = some y := by
    unfold popF
    rw [show (y :: ws).length - 1 = ws.length by simp, downF_get_ge _ _ _ _ (Nat.le_refl _), swapT_get_last]
  have hne : popF (y :: ws) ≠ [] := by intro e; rw [e] at hl; simp at hl
  have hgl : (popF (y :: ws)).getLast hne = y := by
    rw [List.getLast_eq_getElem]
    obtain ⟨h1, h2⟩ := List.getElem?_eq_some_iff.1 hlast
    have e : (popF (y :: ws)).length - 1 = ws.length := by omega
    simp only [e]
    exact h2
  have hp : (popF (y :: ws)).Perm (y :: ws) := (downF_perm _ _ _).trans (swapT_perm _ _ _)
  rw [← List.dropLast_concat_getLast hne, hgl] at hp
  have h3 : (y :: (popF (y :: ws)).dropLast).Perm (y :: ws) := (List.perm_append_comm (l₁ := [y])).trans hp
  exact h3.cons_inv
end Go.Proofs.Ytkhlkbgolonkkaa
