/- BusFills: what its loops say. Own work. -/
import Derived.Test.YtacmdalgdbfehaaBGround2
import Derived.Test.YtacmdalgdbfehaaBFillM
import Derived.Test.YtacmdalgdbfehaaBStores2
namespace Go.Proofs.Ytacmdalgdbfehaa
open Go.RowKit Go.Maps Go.Proofs.Ytacmdalgdbfehaa.Sp
def keptN (M : Nat → Nat) : Nat → Nat
  | 0 => 0
  | i + 1 => keptN M i + (if nz M (2 + i) then 1 else 0)
theorem keptN_le (M : Nat → Nat) (i : Nat) : keptN M i ≤ i := by
  induction i with
  | zero => exact Nat.le_refl _
  | succ i ih => show keptN M i + _ ≤ _; split <;> omega
theorem bare_nz {M : Nat → Nat} (h : Bare M) {k : Nat} (hk : k < 2 ∨ 6 ≤ k) : nz M k = false := nz_false.2 fun i hi => h _ (by omega)
theorem cntN_bare {M : Nat → Nat} (h : Bare M) (n : Nat) : cntN M (6 + n) = cntN M 6 := by
  induction n with
  | zero => rfl
  | succ n ih =>
    show cntN M (6 + n) + (if nz M (6 + n) then 1 else 0) = _
    rw [bare_nz h (by omega), ih]
    simp only [Bool.false_eq_true, if_false, Nat.add_zero]
theorem cnt_bare {M : Nat → Nat} (h : Bare M) : cnt M = keptN M 4 := by
  have e : cnt M = cntN M 6 := by
    unfold cnt
    rw [show pagesN = 6 + (pagesN - 6) by unfold pagesN; rfl]
    exact cntN_bare h _
  rw [e]
  simp only [cntN, keptN, bare_nz h (k := 0) (by omega), bare_nz h (k := 1) (by omega)]
  simp
def someTo (M : Nat → Nat) (b j : Nat) : Bool := (List.range j).any fun t => M (b + t) != 0
theorem someTo_succ (M : Nat → Nat) (b j : Nat) : someTo M b (j + 1) = (someTo M b j || (M (b + j) != 0)) := by
  unfold someTo
  rw [List.range_succ, List.any_append]
  simp
theorem someTo_page (M : Nat → Nat) (k : Nat) : someTo M (k * 4096) 4096 = nz M k := by
  unfold someTo nz pageOf
  rw [List.any_map]
  rfl
theorem row_put {w : World} {g p z : Nat} {M : Nat → Nat} (h : RowT w 5 g (bytesAt M 8192 16384)) (hp : 8192 ≤ p ∧ p < 24576) : RowT (w.setCell ⟨g, p - 8192, none⟩ (.int .u8 ((z : Nat) : Int))) 5 g (bytesAt (putAt M p [z]) 8192 16384) := by
  have h1 := Row.set h (p - 8192) z
  have e : (bytesAt M 8192 16384).set (p - 8192) z = bytesAt (putAt M p [z]) 8192 16384 := by
    refine bytesAt_ext (by rw [List.length_set, bytesAt_length]) fun i hi => ?_
    by_cases hh : p - 8192 = i
    · subst hh
      rw [List.getElem?_set_self (by rw [bytesAt_length]; exact hi), show 8192 + (p - 8192) = p + 0 by omega, putAt_in _ _ _ _ (by simp)]
      rfl
    · rw [List.getElem?_set_ne hh, bytesAt_get _ _ _ _ hi, putAt_out _ _ _ _ (by simp; omega)]
  rw [e] at h1
  exact h1
theorem put_next (M : Nat → Nat) (a z i : Nat) (zs : List Nat) (hi : i < zs.length) (hz : z = zs.getD i 0) : putAt (putAt M a (zs.take i)) (a + i) [z] = putAt M a (zs.take (i + 1)) := by
  have e : a + i = a + (zs.take i).length := by rw [List.length_take]; omega
  rw [e, putAt_append]
  congr 1
  rw [List.take_succ_eq_append_getElem hi, hz, List.getD_eq_getElem?_getD, List.getElem?_eq_getElem hi]
  rfl
theorem off_ok {a n : Nat} {x : Int} {b : Bool} (h : OffR (rsG ++ dsG) a n x b) : b = !(decide (n = 0 ∨ (8192 ≤ a ∧ a + n ≤ 24576))) := by
  cases b with
  | true =>
    obtain ⟨i, h1, _, _, h4, _⟩ := h.1 rfl
    rw [on_g] at h4
    rw [decide_eq_false (by omega)]
    rfl
  | false =>
    have h2 := (h.2 rfl).2
    by_cases hn : n = 0
    · rw [decide_eq_true (.inl hn)]; rfl
    · have h3 := (on_g _).1 (h2 0 (by omega))
      have h4 := (on_g _).1 (h2 (n - 1) (by omega))
      rw [decide_eq_true (.inr (by omega))]
      rfl
end Go.Proofs.Ytacmdalgdbfehaa
