/- BusStores: the walk. Own work. -/
import Derived.Test.YtacmdalgdbfehaaBHelp
import Derived.Test.YtacmdalgdbfehaaBNames2
namespace Go.Proofs.Ytacmdalgdbfehaa
open Go.RowKit Go.Maps Go.Proofs.Ytacmdalgdbfehaa.Sp
theorem shr_div (k n : Nat) : Pl.shr k n = n / 256 ^ k := by
  induction k with
  | zero => simp [Pl.shr]
  | succ k ih =>
    show Pl.shr k n / 256 = _
    rw [ih, Nat.div_div_eq_div_mul, Nat.pow_succ]
theorem le_get (k n j : Nat) (hj : j < k) : (Pl.le k n).getD j 0 = n / 256 ^ j % 256 := by
  induction k with
  | zero => omega
  | succ k ih =>
    rw [Pl.le_snoc, List.getD_eq_getElem?_getD]
    by_cases h : j < k
    · rw [List.getElem?_append_left (by rw [Pl.le_length]; exact h), ← List.getD_eq_getElem?_getD, ih h]
    · obtain rfl : j = k := by omega
      rw [List.getElem?_append_right (by rw [Pl.le_length]; omega), Pl.le_length, Nat.sub_self, shr_div]
      rfl
theorem take_get (k n j : Nat) (hk : k ≤ 8) (hj : j < k) : ((Pl.le 8 n).take k).getD j 0 = n / 256 ^ j % 256 := by
  rw [← le_get 8 n j (by omega), List.getD_eq_getElem?_getD, List.getElem?_take_of_lt hj, List.getD_eq_getElem?_getD]
theorem take_len (k n : Nat) (hk : k ≤ 8) : ((Pl.le 8 n).take k).length = k := by rw [List.length_take, Pl.le_length]; omega
/-- the byte at p behind the store -/
theorem put_in (M : Nat → Nat) {a k v p : Nat} (hk : k ≤ 8) (h1 : a ≤ p) (h2 : p < a + k) : putAt M a ((Pl.le 8 v).take k) p = v / 256 ^ (p - a) % 256 := by
  obtain ⟨i, rfl⟩ : ∃ i, p = a + i := ⟨p - a, by omega⟩
  rw [putAt_in _ _ _ _ (by rw [take_len _ _ hk]; omega), take_get _ _ _ hk (by omega), Nat.add_sub_cancel_left]
theorem put_out (M : Nat → Nat) {a k v p : Nat} (hk : k ≤ 8) (h : p < a ∨ a + k ≤ p) : putAt M a ((Pl.le 8 v).take k) p = M p :=
  putAt_out _ _ _ _ (by rw [take_len _ _ hk]; exact h)
theorem rd_put (M : Nat → Nat) {a k v : Nat} (hk : k ≤ 8) : rdTo (putAt M a ((Pl.le 8 v).take k)) a 8 k = (Pl.le 8 v).take k ++ List.replicate (8 - k) 0 := by
  rw [rdTo]
  congr 1
  refine (bytesAt_ext (take_len _ _ hk) fun i hi => ?_).symm
  rw [putAt_in _ _ _ _ (by rw [take_len _ _ hk]; exact hi), List.getD_eq_getElem?_getD, List.getElem?_eq_getElem (by rw [take_len _ _ hk]; exact hi)]
  rfl
theorem num_put (M : Nat → Nat) {a k v : Nat} (hk : Wide k) : Pl.num 8 (rdTo (putAt M a ((Pl.le 8 v).take k)) a 8 k) = v % 256 ^ k := by
  have h8 : k ≤ 8 := by rcases hk with h | h | h | h <;> omega
  rw [rd_put M h8]
  have e : (Pl.le 8 v).take k ++ List.replicate (8 - k) 0 = Pl.le 8 (v % 256 ^ k) := by
    rcases hk with rfl | rfl | rfl | rfl
    all_goals simp only [Pl.le, List.take, List.replicate, List.cons_append, List.nil_append, Nat.reduceSub, Nat.reducePow]
    all_goals simp only [List.cons.injEq, and_true]
    all_goals refine ⟨?_, ?_, ?_, ?_, ?_, ?_, ?_, ?_⟩
    all_goals omega
  rw [e]
  have := Pl.num_le 8 (v % 256 ^ k) [] (Nat.lt_of_lt_of_le (Nat.mod_lt _ (Nat.pow_pos (by decide))) (Nat.pow_le_pow_right (by decide) h8))
  rwa [List.append_nil] at this
theorem num_one (M : Nat → Nat) (p : Nat) (h : M p < 256) : Pl.num 8 (rdTo M p 8 1) = M p := by
  have e : rdTo M p 8 1 = Pl.le 8 (M p) := by
    simp only [rdTo, bytesAt, show List.range 1 = [0] from rfl, List.map_cons, List.map_nil, Nat.add_zero, List.replicate, List.cons_append, List.nil_append, Nat.reduceSub, Pl.le]
    generalize M p = z at h
    simp only [List.cons.injEq, and_true]
    refine ⟨?_, ?_, ?_, ?_, ?_, ?_, ?_, ?_⟩
    all_goals omega
  rw [e]
  have := Pl.num_le 8 (M p) [] (Nat.lt_of_lt_of_le h (by decide))
  rwa [List.append_nil] at this
end Go.Proofs.Ytacmdalgdbfehaa
