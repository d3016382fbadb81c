/- Pages: a table and its bytes (plain mathematics). Own work. -/
import Derived.Test.YtmkmdcoofngkiaaPgBytes
namespace Go.Proofs.Ytmkmdcoofngkiaa
set_option linter.unusedVariables false
theorem shr_eq (j n : Nat) : Pl.shr j n = n / 256 ^ j := by
  induction j with
  | zero => simp [Pl.shr]
  | succ j ih =>
    show Pl.shr j n / 256 = _
    rw [ih, Nat.div_div_eq_div_mul, Nat.pow_succ]
theorem tabN_drop (f : Nat → Nat) : ∀ k i, i < k → ∃ r, (tabN f k).drop (8 * i) = Pl.le 8 (f i) ++ r
  | 0, i, h => by omega
  | k + 1, i, h => by
    have hl := tabN_len f k
    by_cases e : i = k
    · subst e
      refine ⟨[], ?_⟩
      show (tabN f i ++ Pl.le 8 (f i)).drop (8 * i) = _
      rw [← hl, List.drop_left, List.append_nil]
    · obtain ⟨r, hr⟩ := tabN_drop f k i (by omega)
      refine ⟨r ++ Pl.le 8 (f k), ?_⟩
      show (tabN f k ++ Pl.le 8 (f k)).drop (8 * i) = _
      rw [List.drop_append_of_le_length (by omega), hr, List.append_assoc]
theorem num_tab {f : Nat → Nat} (hf : ∀ i, i < 512 → f i ≤ 18446744073709551615) : tabV (numT (tabN f 512)) = tabV f := tabV_ext fun i hi => by
  obtain ⟨r, hr⟩ := tabN_drop f 512 i hi
  show Pl.num 8 ((tabN f 512).drop (8 * i)) = f i
  rw [hr]
  refine Pl.num_le 8 (f i) r ?_
  have := hf i hi
  omega
theorem le_num : ∀ (m : Nat) (zs : List Nat), (∀ z ∈ zs, z < 256) → m ≤ zs.length → Pl.le m (Pl.num m zs) = zs.take m
  | 0, zs, _, _ => by simp [Pl.le]
  | m + 1, [], _, h => by simp at h
  | m + 1, x :: r, hz, h => by
    have hx : x < 256 := hz x List.mem_cons_self
    have e : Pl.num (m + 1) (x :: r) = x + 256 * Pl.num m r := by
      show (x :: r).getD 0 0 + 256 * Pl.acc (x :: r) 1 m = _
      rw [Pl.acc_cons x r 0 m]
      rfl
    show Pl.num (m + 1) (x :: r) % 256 :: Pl.le m (Pl.num (m + 1) (x :: r) / 256) = x :: r.take m
    rw [e, show (x + 256 * Pl.num m r) % 256 = x by omega, show (x + 256 * Pl.num m r) / 256 = Pl.num m r by omega, le_num m r (fun z hz' => hz z (List.mem_cons_of_mem _ hz')) (by simpa using h)]
theorem tabN_num {zs : List Nat} (hz : ∀ z ∈ zs, z < 256) : ∀ k, 8 * k ≤ zs.length → tabN (numT zs) k = zs.take (8 * k)
  | 0, _ => by simp [tabN]
  | k + 1, h => by
    show tabN (numT zs) k ++ Pl.le 8 (Pl.num 8 (zs.drop (8 * k))) = _
    rw [tabN_num hz k (by omega), le_num 8 (zs.drop (8 * k)) (fun z hz' => hz z (List.mem_of_mem_drop hz')) (by rw [List.length_drop]; omega), show 8 * (k + 1) = 8 * k + 8 by omega, List.take_add]
theorem num_lt {zs : List Nat} (hz : ∀ z ∈ zs, z < 256) (i : Nat) : numT zs i ≤ 18446744073709551615 := by
  have h := Pl.acc_lt (zs := zs.drop (8 * i)) (fun z hz' => hz z (List.mem_of_mem_drop hz')) 0 8
  have e : numT zs i = Pl.acc (zs.drop (8 * i)) 0 8 := rfl
  have h2 : (256 : Nat) ^ 8 = 18446744073709551616 := by decide
  omega
end Go.Proofs.Ytmkmdcoofngkiaa
