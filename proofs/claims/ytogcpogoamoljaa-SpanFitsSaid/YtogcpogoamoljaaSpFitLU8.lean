/- Fit's answer is the least. Own work. -/
import Derived.Test.YtogcpogoamoljaaSpFitU8
import Derived.Test.YtogcpogoamoljaaSpFitM
namespace Go.Proofs.Ytogcpogoamoljaa.U8
open Go.RowKit Go.Shelf Go.Proofs.Ytogcpogoamoljaa.Sp

theorem upB_eq {a al : Int} (hal : 0 < al) (ha : a ≤ 255) : upB a al = if (if a % al = 0 then a else a + (al - a % al)) ≤ 255 then ((if a % al = 0 then a else a + (al - a % al)), true) else (0, false) := by
  unfold upB addB
  rw [if_neg (by omega)]
  by_cases h : a % al = 0
  · simp [h, ha]
  · simp [h]
theorem up_ge {a al : Int} (hal : 0 < al) : a ≤ (if a % al = 0 then a else a + (al - a % al)) := by
  have h1 := Int.emod_lt_of_pos a hal
  split <;> omega

theorem fitL_least {size al : Int} (hs : 0 < size) (hal : 0 < al) : ∀ {xs : List Sp}, Canon 255 xs → Least xs size al (fitL size al xs)
  | [], _ => ⟨fun h => by simp [fitL] at h, fun _ => ⟨rfl, fun p _ _ k => in_nil _ (k p (by omega) (by omega))⟩⟩
  | x :: r, h => by
    have hb := (canon_cons.1 h).1
    have ih := fitL_least hs hal h.tail
    have hlow : ∀ p, Runs (x :: r) size p → x.1 ≤ p ∧ p ≤ 255 := by
      intro p k
      have hi := k p (by omega) (by omega)
      refine ⟨?_, (h.bounds hi).2⟩
      rcases (in_cons _ _ _).1 hi with e | e
      · exact e.1
      · have := h.tail_above e; omega
    have hge := up_ge (a := x.1) hal
    have hle : ∀ p, al ∣ p → x.1 ≤ p → _ := fun p a b => up_least (a := x.1) hal a b
    have hmu := up_multiple (a := x.1) (al := al)
    simp only [fitL]
    rw [upB_eq hal (by omega)]
    generalize (if x.1 % al = 0 then x.1 else x.1 + (al - x.1 % al)) = U at *
    by_cases hU : U ≤ 255
    · rw [if_pos hU]
      simp only [Bool.true_eq_false, if_false]
      by_cases hf : U + (size - 1) ≤ x.2
      · have e : addB U (size - 1) = (U + (size - 1), true) := by unfold addB; rw [if_pos (by omega)]
        rw [e, if_pos ⟨rfl, hf⟩]
        refine ⟨fun _ => ⟨by show 0 ≤ U; omega, hmu, fun q a b => (in_cons _ _ _).2 (.inl ⟨?_, ?_⟩), ?_⟩, fun h => by simp at h⟩
        · have : U ≤ q := a
          omega
        · have : q < U + size := b
          omega
        · intro p _ a d k
          have hp : p < U := a
          have := hle p d (hlow p k).1
          omega
      · rw [if_neg (by
          rintro ⟨a, b⟩
          unfold addB at a b
          split at a
          · rename_i c
            rw [if_pos c] at b
            exact hf b
          · simp at a)]
        have key : ∀ p, al ∣ p → ¬ Runs r size p → ¬ Runs (x :: r) size p := by
          intro p d n k
          rcases runs_cons h hs k with ⟨a, b⟩ | ⟨_, b⟩
          · have := hle p d a
            omega
          · exact n b
        refine ⟨fun e => ?_, fun e => ?_⟩
        · obtain ⟨i1, i2, i3, i4⟩ := ih.1 e
          exact ⟨i1, i2, runs_tail i3, fun p a b d => key p d (i4 p a b d)⟩
        · obtain ⟨i1, i2⟩ := ih.2 e
          exact ⟨i1, fun p a d => key p d (i2 p a d)⟩
    · rw [if_neg hU]
      simp only [if_true]
      refine ⟨fun e => by simp at e, fun _ => ⟨rfl, fun p _ d k => ?_⟩⟩
      have := hlow p k
      have := hle p d this.1
      omega
theorem fitL_zero {size : Int} (xs : List Sp) : fitL size 0 xs = (0, false) := by
  cases xs <;> simp [fitL, upB]
end Go.Proofs.Ytogcpogoamoljaa.U8
