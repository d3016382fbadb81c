/- BusFills: the walk. Own work. -/
import Derived.Test.YtacmdalgdbfehaaBFills
import Derived.Deep.DeepCutAuto
import Derived.Deep.CutBlock
namespace Go.Proofs.Ytacmdalgdbfehaa
open Go.RowKit Go.Maps Go.Proofs.Ytacmdalgdbfehaa.Sp
theorem sl_take {w : World} {ao : Option Addr} {cap n : Nat} {zs : List Nat} (h : Sl w (.slice ao zs.length cap) zs) (hn : n ≤ zs.length) : Sl w (.slice ao n cap) (zs.take n) := by
  have hl : (zs.take n).length = n := by rw [List.length_take]; omega
  obtain ⟨ao', cap', e, h1, h2, h3, h4, h5⟩ := h
  cases e
  refine ⟨ao, cap, by rw [hl], by omega, h2, fun z hz => h3 z (List.mem_of_mem_take hz), h4, fun i hi => ?_⟩
  rw [hl] at hi
  obtain ⟨b, o, e, hc⟩ := h5 i (by omega)
  refine ⟨b, o, e, ?_⟩
  rw [hc, List.getD_eq_getElem?_getD, List.getD_eq_getElem?_getD, List.getElem?_take_of_lt hi]
theorem ne0 (y : Nat) : ((y : Int) != 0) = (y != 0) := by
  by_cases h : y = 0
  · simp [h]
  · have h2 : (y : Int) ≠ 0 := by omega
    rw [bne, bne, beq_eq_false_iff_ne.2 h2, beq_eq_false_iff_ne.2 h]
theorem not_grown {m B k g : Nat} {V : Value × Value × Value} {T T' : Nat → Option Nat} (h : ¬ Mine m B V T g) (hg : Grows k T T') (hk : g < k) : ¬ Mine m B V T' g := fun hf => by
  rcases hf with e | (e | ⟨j, hj⟩) | e
  · exact h (.inl e)
  · exact h (.inr (.inl (.inl e)))
  · rcases hg j g hj with h5 | h5
    · exact h (.inr (.inl (.inr ⟨j, h5⟩)))
    · omega
  · exact h (.inr (.inr e))
theorem RowT.thaw {w : World} {t : TypeId} {g : Nat} {L : List Nat} (h : RowT w t g L) (i : Nat) : w.frozen? ⟨g, i, none⟩ = false := by
  simp [World.frozen?, show w.heap[g]? = _ from h]
theorem fillG {w w' : World} {m B : Nat} {V : Value × Value × Value} {T : Nat → Option Nat} {M M' : Nat → Nat} {L S X a n : Nat} {e : Ending} (h : FillPost w m B V T M M' rsG dsG L S X a n e w') (hz : Bare M) (hz' : n = 0 ∨ (8192 ≤ a ∧ a + n ≤ 24576) → Bare M') :
    ∃ (ok : Bool) (why x : Int) (T1 : Nat → Option Nat) (M1 : Nat → Nat) (X1 : Nat), e = .returned (FaultV why x) ∧ ok = decide (n = 0 ∨ (8192 ≤ a ∧ a + n ≤ 24576)) ∧ ((why == 0) && (x == 0)) = ok ∧ (ok = false → why = 30) ∧ X1 ≤ X + 1 ∧ Keeps (fun j => j = m ∨ Foot B T j) w w' ∧ Mac w' m B V T1 M1 rsG dsG L S X1 ∧ Grows w.heap.size T T1 ∧ Bare M1 ∧ M1 = (if ok then M' else M) := by
  obtain ⟨x, b, ho, rfl, hk, h1, h2⟩ := h
  have hb := off_ok ho
  cases b with
  | true =>
    have hd : decide (n = 0 ∨ (8192 ≤ a ∧ a + n ≤ 24576)) = false := by cases hd : decide (n = 0 ∨ (8192 ≤ a ∧ a + n ≤ 24576)) with | false => rfl | true => rw [hd] at hb; cases hb
    exact ⟨false, 30, x, T, M, X + 1, rfl, hd.symm, rfl, fun _ => rfl, Nat.le_refl _, hk, h1 rfl, Grows.refl _ _, hz, rfl⟩
  | false =>
    have hd : decide (n = 0 ∨ (8192 ≤ a ∧ a + n ≤ 24576)) = true := by cases hd : decide (n = 0 ∨ (8192 ≤ a ∧ a + n ≤ 24576)) with | true => rfl | false => rw [hd] at hb; cases hb
    obtain ⟨T1, h3, h4⟩ := h2 rfl
    have hx := (ho.2 rfl).1
    subst hx
    exact ⟨true, 0, 0, T1, M', X, rfl, hd.symm, rfl, fun e => (by cases e), by omega, hk, h3, h4, hz' (of_decide_eq_true hd), rfl⟩
end Go.Proofs.Ytacmdalgdbfehaa
