/- LanesNeeds: what the law's row of done ticks holds, tick by tick (plain mathematics). Own work. -/
import Derived.Test.YtkhlkbgolonkkaaLnNdM
namespace Go.Proofs.Ytkhlkbgolonkkaa
open Go.RowKit
set_option linter.unusedVariables false
/-- behind the first i needs of a tick -/
def dW (xs : List R4) (t i : Nat) : List Nat := (List.range xs.length).map fun j => if j < i then Da xs t j else Db xs t j
theorem dW_len (xs : List R4) (t i : Nat) : (dW xs t i).length = xs.length := by simp [dW]
theorem dW_get {xs : List R4} {t i j : Nat} (h : j < (dW xs t i).length) : (dW xs t i)[j] = if j < i then Da xs t j else Db xs t j := by simp [dW]
theorem dW_start (xs : List R4) : dW xs 0 0 = List.replicate xs.length 0 := by
  refine List.eq_replicate_iff.2 ⟨dW_len _ _ _, fun b hb => ?_⟩
  obtain ⟨j, _, rfl⟩ := List.mem_map.1 hb
  rw [if_neg (Nat.not_lt_zero j)]
  rfl
theorem dW_set (xs : List R4) (t i : Nat) : (dW xs t i).set i (Da xs t i) = dW xs t (i + 1) := by
  refine List.ext_getElem (by simp [dW_len]) fun j h1 h2 => ?_
  rw [List.getElem_set, dW_get, dW_get]
  by_cases e : i = j
  · subst e
    rw [if_pos rfl, if_pos (by omega)]
  · rw [if_neg e]
    by_cases hj : j < i
    · rw [if_pos hj, if_pos (by omega)]
    · rw [if_neg hj, if_neg (by omega)]
theorem dW_same {xs : List R4} {t i : Nat} (h : Db xs t i = Da xs t i) : dW xs t (i + 1) = dW xs t i := by
  refine List.ext_getElem (by simp [dW_len]) fun j h1 h2 => ?_
  rw [dW_get, dW_get]
  by_cases e : j = i
  · subst e
    rw [if_pos (by omega), if_neg (by omega), h]
  · by_cases hj : j < i
    · rw [if_pos hj, if_pos (by omega)]
    · rw [if_neg hj, if_neg (by omega)]
theorem dW_none {xs : List R4} {t : Nat} (h : bestT xs t = none) : dW xs t xs.length = dW xs (t + 1) 0 := by
  refine List.ext_getElem (by simp [dW_len]) fun j h1 h2 => ?_
  rw [dW_len] at h1
  rw [dW_get, dW_get, if_pos h1, if_neg (by omega), db_next_miss (by rw [h]; simp)]
theorem dW_some {xs : List R4} {t i : Nat} (h : bestT xs t = some i) : (dW xs t xs.length).set i (Da xs t i + 1) = dW xs (t + 1) 0 := by
  refine List.ext_getElem (by simp [dW_len]) fun j h1 h2 => ?_
  rw [List.length_set, dW_len] at h1
  rw [List.getElem_set, dW_get, dW_get, if_neg (by omega : ¬ j < 0)]
  by_cases e : i = j
  · subst e
    rw [if_pos rfl, db_next_hit h]
  · rw [if_neg e, if_pos h1, db_next_miss (by rw [h]; simp; exact e)]
/-- the law's first and due -/
def fI : Option Nat → Int
  | none => -1
  | some j => (j : Int)
def uD (xs : List R4) (t : Nat) : Option Nat → Nat
  | none => 0
  | some j => dueT xs t j
/-- of the first i needs who is due first -/
def bI (xs : List R4) (t i : Nat) : Option Nat := bestI (Lr xs t) (dueT xs t) i
theorem bI_full (xs : List R4) (t : Nat) : bI xs t xs.length = bestT xs t := rfl
theorem bI_idle {xs : List R4} {t i : Nat} (h : ¬ Da xs t i < bN xs i) : bI xs t (i + 1) = bI xs t i := by
  have h0 : ¬ 0 < Lr xs t i := fun hc => h (da_lt.2 hc)
  show (match bestI (Lr xs t) (dueT xs t) i with
    | none => if 0 < Lr xs t i then some i else none
    | some j => if 0 < Lr xs t i ∧ dueT xs t i < dueT xs t j then some i else some j) = bestI (Lr xs t) (dueT xs t) i
  cases bestI (Lr xs t) (dueT xs t) i with
  | none => simp only; rw [if_neg h0]
  | some j => simp only; rw [if_neg (fun hc => h0 hc.1)]
theorem bI_first {xs : List R4} {t i : Nat} (h : Da xs t i < bN xs i) (hn : bI xs t i = none) : bI xs t (i + 1) = some i := by
  have h0 := da_lt.1 h
  have hn : bestI (Lr xs t) (dueT xs t) i = none := hn
  show (match bestI (Lr xs t) (dueT xs t) i with
    | none => if 0 < Lr xs t i then some i else none
    | some j => if 0 < Lr xs t i ∧ dueT xs t i < dueT xs t j then some i else some j) = some i
  rw [hn]
  simp only
  rw [if_pos h0]
theorem bI_sooner {xs : List R4} {t i j : Nat} (h : Da xs t i < bN xs i) (hn : bI xs t i = some j) (hd : dueT xs t i < dueT xs t j) : bI xs t (i + 1) = some i := by
  have h0 := da_lt.1 h
  have hn : bestI (Lr xs t) (dueT xs t) i = some j := hn
  show (match bestI (Lr xs t) (dueT xs t) i with
    | none => if 0 < Lr xs t i then some i else none
    | some j => if 0 < Lr xs t i ∧ dueT xs t i < dueT xs t j then some i else some j) = some i
  rw [hn]
  simp only
  rw [if_pos ⟨h0, hd⟩]
theorem bI_later {xs : List R4} {t i j : Nat} (hn : bI xs t i = some j) (hd : ¬ dueT xs t i < dueT xs t j) : bI xs t (i + 1) = some j := by
  have hn : bestI (Lr xs t) (dueT xs t) i = some j := hn
  show (match bestI (Lr xs t) (dueT xs t) i with
    | none => if 0 < Lr xs t i then some i else none
    | some j => if 0 < Lr xs t i ∧ dueT xs t i < dueT xs t j then some i else some j) = some j
  rw [hn]
  simp only
  rw [if_neg (fun hc => hd hc.2)]
theorem bI_lt {xs : List R4} {t i j : Nat} (h : bI xs t i = some j) : j < i := ((bestI_spec (Lr xs t) (dueT xs t) i).2 j h).1
theorem da_le (xs : List R4) (t i : Nat) : Da xs t i ≤ bN xs i := Nat.sub_le _ _
theorem db_le {xs : List R4} {t i : Nat} : Db xs t i ≤ bN xs i := by
  cases t with
  | zero => exact Nat.zero_le _
  | succ t => exact Nat.sub_le _ _
theorem due_at {xs : List R4} {t i : Nat} (hi : i < xs.length) : dueT xs t i = (t / xs[i].p + 1) * xs[i].p := by unfold dueT; rw [pN_eq xs i hi]
theorem due_le {xs : List R4} {m t i : Nat} (hi : i < xs.length) (hp : xs[i].p ≤ m) (ht : t ≤ m) : dueT xs t i ≤ 2 * m := by
  rw [due_at hi, Nat.add_mul, Nat.one_mul]
  have := Nat.div_mul_le_self t xs[i].p
  omega
/-- who runs: the slot's name -/
theorem slot_who {m : Nat} {xs : List R4} {ws cs : List J4} {rs : List S3} (J : EdJ m xs ws cs rs) (he : endF rs = (m : Int)) {t k : Nat} (ht : t < m) (hk : k < rs.length) (h1 : ∀ j (hj : j < rs.length), j < k → rs[j].t ≤ (t : Int)) (h2 : (t : Int) < rs[k].t) : rs[k].s = subj xs (bestT xs t) := by
  rw [← find_at rs (t : Int) k hk h1 h2]
  exact J.who t (by omega)
/-- a row of numbers -/
def uv (l : List Nat) : List Value := l.map fun (n : Nat) => Value.int .u64 (n : Int)
theorem uv_len (l : List Nat) : (uv l).length = l.length := by simp [uv]
theorem uv_get (l : List Nat) (j : Nat) (h : j < l.length) : (uv l)[j]'(by rw [uv_len]; exact h) = Value.int .u64 (l[j] : Int) := by simp [uv]
theorem uv_set (l : List Nat) (j n : Nat) : (uv l).set j (.int .u64 (n : Int)) = uv (l.set j n) := by
  unfold uv
  rw [List.map_set]
end Go.Proofs.Ytkhlkbgolonkkaa
