/- The document's own answer to chapter 5: Number. -/
import Derived.Test.YtphdpolbmjmkdaaDoorScDec
import Derived.Test.YtphdpolbmjmkdaaDoorScQuote
import Derived.Lib.Hide
namespace Go.Proofs.YtphdpolbmjmkdaaDoor
open Go.RowKit Sc
/-- where the digits stand: m is left, L is written -/
def NumI (n m : Nat) (L : List Nat) : Prop := (L = [] ∧ m = n) ∨ (L ≠ [] ∧ m = 0 ∧ L = decN n) ∨ (L ≠ [] ∧ 0 < m ∧ decN m ++ L = decN n)
theorem NumI.next {n m : Nat} {L : List Nat} (h : NumI n m L) (hm : 0 < m ∨ L = []) : NumI n (m / 10) ((48 + m % 10) :: L) := by
  have key : decN m ++ L = decN n := by
    rcases h with ⟨rfl, rfl⟩ | ⟨h1, h2, h3⟩ | ⟨h1, h2, h3⟩
    · simp
    · rcases hm with hm | hm
      · omega
      · exact absurd hm h1
    · exact h3
  by_cases h10 : m < 10
  · refine .inr (.inl ⟨by simp, by omega, ?_⟩)
    rw [← key, decN_one h10, show m % 10 = m from by omega]
    rfl
  · refine .inr (.inr ⟨by simp, by omega, ?_⟩)
    rw [← key, decN_more h10]
    simp
theorem NumI.len {n m : Nat} {L : List Nat} (h : NumI n m L) (hn : n ≤ top) : L.length ≤ 20 := by
  have := decN_top hn
  rcases h with ⟨rfl, rfl⟩ | ⟨_, _, h3⟩ | ⟨_, _, h3⟩
  · simp
  · rw [h3]; exact this
  · rw [← h3] at this; simp at this; omega
theorem NumI.done {n m : Nat} {L : List Nat} (h : NumI n m L) (hm : m = 0) (hL : L ≠ []) : L = decN n := by
  rcases h with ⟨h1, _⟩ | ⟨_, _, h3⟩ | ⟨_, h2, _⟩
  · exact absurd h1 hL
  · exact h3
  · omega
theorem NumI.small {n m : Nat} {L : List Nat} (h : NumI n m L) : ∀ z ∈ L, z < 256 := by
  intro z hz
  have hs := decN_small n
  rcases h with ⟨rfl, _⟩ | ⟨_, _, h3⟩ | ⟨_, _, h3⟩
  · simp at hz
  · rw [h3] at hz; have := hs z hz; omega
  · have := hs z (by rw [← h3]; exact List.mem_append_right _ hz); omega
theorem NumI.le {m : Nat} (hm : m ≤ top) : m / 10 ≤ top := by omega
def lenOf : Value → Nat | .slice _ n _ => n | _ => 0
theorem own_first (w : World) {z base : Nat} (hb : base ≤ w.heap.size) : Own (w.alloc (.cells #[.int .u8 (z : Int)] 5)) base (.slice (some ⟨w.heap.size, 0, none⟩) 1 1) [z] := by
  exact ⟨rfl, .inr ⟨w.heap.size, 1, #[.int .u8 (z : Int)], rfl, hb, heap_alloc_new w _, Nat.le_refl _, by unfold maxLen; omega, rfl, rfl⟩⟩
/-- a number as the program holds it -/
def IsN (x : Int) (m : Nat) : Prop := x = (m : Int)
theorem IsN.div {x : Int} {m : Nat} (h : IsN x m) : IsN (x.tdiv 10) (m / 10) := by unfold IsN at *; rw [h]; rfl
theorem IsN.mod {x : Int} {m : Nat} (h : IsN x m) : x.tmod 10 = ((m % 10 : Nat) : Int) := by unfold IsN at h; rw [h]; rfl
end Go.Proofs.YtphdpolbmjmkdaaDoor
