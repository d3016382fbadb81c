/- Lanes: what container/heap's Push and Pop leave is what was there. Own work. -/
import Derived.Test.YtkhlkbgolonkkaaLnHp
namespace Go.Proofs.Ytkhlkbgolonkkaa
theorem swapT_mem {xs : List J4} {i j : Nat} {x : J4} (h : x ∈ swapT xs i j) : x ∈ xs := by
  unfold swapT at h
  split at h
  · rename_i a b ha hb
    rcases List.mem_or_eq_of_mem_set h with h | rfl
    · rcases List.mem_or_eq_of_mem_set h with h | rfl
      · exact h
      · exact List.mem_of_getElem? hb
    · exact List.mem_of_getElem? ha
  · exact h
theorem upF_mem {x : J4} (xs : List J4) (j : Nat) (h : x ∈ upF xs j) : x ∈ xs := by
  fun_induction upF xs j with
  | case1 => exact h
  | case2 xs j h1 h2 ih => exact swapT_mem (ih h)
  | case3 => exact h
theorem upF_length (xs : List J4) (j : Nat) : (upF xs j).length = xs.length := by
  fun_induction upF xs j with
  | case1 => rfl
  | case2 xs j h1 h2 ih => rw [ih, swapT_length]
  | case3 => rfl
theorem downF_mem {x : J4} (xs : List J4) (i n : Nat) (h : x ∈ downF xs i n) : x ∈ xs := by
  fun_induction downF xs i n with
  | case1 => exact h
  | case2 xs i h1 h2 ih => exact swapT_mem (ih h)
  | case3 => exact h
theorem popF_length (xs : List J4) : (popF xs).length = xs.length := by rw [popF, downF_length, swapT_length]
theorem popF_mem {x : J4} (xs : List J4) (h : x ∈ (popF xs).dropLast) : x ∈ xs := swapT_mem (downF_mem _ _ _ (List.dropLast_subset _ h))
end Go.Proofs.Ytkhlkbgolonkkaa
