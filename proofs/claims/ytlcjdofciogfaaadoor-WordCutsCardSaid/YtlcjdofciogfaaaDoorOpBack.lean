/- What is laid is taken back; of a shorter beginning it is refused: the mathematics of one step. -/
import Derived.Test.YtlcjdofciogfaaaDoorOpForth
import Derived.Test.YtlcjdofciogfaaaDoorOpAlike
namespace Go.Proofs.YtlcjdofciogfaaaDoor
open Go.RowKit
theorem drop_left (A B : List Nat) : (A ++ B).drop A.length = B := by rw [List.drop_append_of_le_length (Nat.le_refl _), List.drop_length, List.nil_append]
theorem num_laid {A R : List Nat} {k n : Nat} (h : n < 256 ^ k) : Pl.num k ((A ++ Pl.le k n ++ R).drop A.length) = n := by
  rw [List.append_assoc, drop_left, Pl.num_le k n R h]
theorem len_laid {A R : List Nat} {k n : Nat} : A.length + k ≤ (A ++ Pl.le k n ++ R).length := by
  simp only [List.length_append, Pl.le_length]; omega
theorem sb_length' (s : ByteArray) : (sb s).length = s.size := sb_length s
/-- what a step's answer bears -/
def Bears (zs : List Nat) (pos : Nat) (o : OpV) (len : Nat) : Prop :=
  (takeF zs pos o).why = 0 ∧ (takeF zs pos o).pos = len ∧ ∀ a v, AlikeH o ⟨o.kind, a, (takeF zs pos o).n, o.num, v, (takeF zs pos o).ps, mkS (takeF zs pos o).s⟩
theorem bears_of {zs : List Nat} {pos : Nat} {o : OpV} {t : Took} {len : Nat} (ht : takeF zs pos o = t) (h0 : t.why = 0) (h1 : t.pos = len) (h2 : ∀ a v, AlikeH o ⟨o.kind, a, t.n, o.num, v, t.ps, mkS t.s⟩) : Bears zs pos o len := by
  unfold Bears; rw [ht]; exact ⟨h0, h1, h2⟩
theorem back_step {A R : List Nat} {o : OpV} (hA : ∀ z ∈ A, z < 256) (hw : (layF A o).2 = 0) (hn : o.n < 18446744073709551616) : Bears ((layF A o).1 ++ R) A.length o (layF A o).1.length := by
  obtain ⟨kind, oat, n, num, pv, ps, s⟩ := o
  have hn' : n < 18446744073709551616 := hn
  by_cases k1 : kind = 1
  · subst k1
    have e : layF A ⟨1, oat, n, num, pv, ps, s⟩ = (A ++ Pl.le 1 (n % 256), 0) := rfl
    rw [e]
    refine bears_of (if_pos len_laid) rfl (by simp [Pl.le_length]) (fun a v => ?_)
    show n % 256 = Pl.num 1 _
    rw [num_laid (by omega)]
  by_cases k2 : kind = 2
  · subst k2
    have e : layF A ⟨2, oat, n, num, pv, ps, s⟩ = (A ++ Pl.le 2 (n % 65536), 0) := rfl
    rw [e]
    refine bears_of (if_pos len_laid) rfl (by simp [Pl.le_length]) (fun a v => ?_)
    show n % 65536 = Pl.num 2 _
    rw [num_laid (by omega)]
  by_cases k3 : kind = 3
  · subst k3
    have e : layF A ⟨3, oat, n, num, pv, ps, s⟩ = (A ++ Pl.le 4 (n % 4294967296), 0) := rfl
    rw [e]
    refine bears_of (if_pos len_laid) rfl (by simp [Pl.le_length]) (fun a v => ?_)
    show n % 4294967296 = Pl.num 4 _
    rw [num_laid (by omega)]
  by_cases k4 : kind = 4
  · subst k4
    have e : layF A ⟨4, oat, n, num, pv, ps, s⟩ = (A ++ Pl.le 8 n, 0) := rfl
    rw [e]
    refine bears_of (if_pos len_laid) rfl (by simp [Pl.le_length]) (fun a v => ?_)
    show n = Pl.num 8 _
    rw [num_laid (by omega)]
  by_cases k5 : kind = 5
  · subst k5
    have e : layF A ⟨5, oat, n, num, pv, ps, s⟩ = (A ++ ps, 0) := rfl
    rw [e]
    have eT : takeF (A ++ ps ++ R) A.length ⟨5, oat, n, num, pv, ps, s⟩ = ⟨0, ps, [], A.length + ps.length, 0⟩ := by
      unfold takeF
      dsimp only
      simp only [if_neg k1, if_neg k2, if_neg k3, if_neg k4, if_true]
      rw [if_pos (by simp only [List.length_append]; omega), List.append_assoc, drop_left, List.take_left]
    exact bears_of eT rfl (by simp) (fun a v => rfl)
  by_cases k6 : kind = 6
  · subst k6
    by_cases hs : s.size ≤ 65535
    · have e : layF A ⟨6, oat, n, num, pv, ps, s⟩ = (A ++ (Pl.le 2 s.size ++ sb s), 0) := by simp [layF, hs]
      rw [e]
      have hN : Pl.num 2 ((A ++ (Pl.le 2 s.size ++ sb s) ++ R).drop A.length) = s.size := by
        rw [List.append_assoc, drop_left, List.append_assoc, Pl.num_le 2 _ _ (by omega)]
      have hL : (A ++ (Pl.le 2 s.size ++ sb s) ++ R).length = A.length + (2 + s.size) + R.length := by
        simp only [List.length_append, Pl.le_length, sb_length]
      have hS : (A ++ (Pl.le 2 s.size ++ sb s) ++ R).drop (A.length + 2) = sb s ++ R := by
        rw [show A ++ (Pl.le 2 s.size ++ sb s) ++ R = (A ++ Pl.le 2 s.size) ++ (sb s ++ R) by simp, show A.length + 2 = (A ++ Pl.le 2 s.size).length by simp [Pl.le_length], drop_left]
      have eT : takeF (A ++ (Pl.le 2 s.size ++ sb s) ++ R) A.length ⟨6, oat, n, num, pv, ps, s⟩ = ⟨0, [], sb s, A.length + 2 + s.size, 0⟩ := by
        unfold takeF
        dsimp only
        simp only [if_neg k1, if_neg k2, if_neg k3, if_neg k4, if_neg k5, if_true, hN, hL]
        rw [if_neg (by omega), if_neg (by omega), if_neg (by omega), hS, show s.size = (sb s).length from (sb_length s).symm, List.take_left]
      refine bears_of eT rfl ?_ (fun a v => ?_)
      · simp only [List.length_append, Pl.le_length, sb_length]; omega
      · show s = mkS (sb s)
        rw [mkS_sb]
    · have e : layF A ⟨6, oat, n, num, pv, ps, s⟩ = (A, 3) := by simp [layF, hs]
      rw [e] at hw
      exact absurd hw (by simp)
  by_cases k7 : kind = 7
  · subst k7
    by_cases hs : 1 ≤ num ∧ num ≤ 4096
    · have e : layF A ⟨7, oat, n, num, pv, ps, s⟩ = (A ++ List.replicate (gapN A.length num.toNat) 0, 0) := by simp [layF, hs]
      rw [e]
      have eT : takeF (A ++ List.replicate (gapN A.length num.toNat) 0 ++ R) A.length ⟨7, oat, n, num, pv, ps, s⟩ = ⟨0, [], [], A.length + gapN A.length num.toNat, 0⟩ := by
        unfold takeF
        dsimp only
        simp only [if_neg k1, if_neg k2, if_neg k3, if_neg k4, if_neg k5, if_neg k6, if_true]
        rw [if_neg (by simpa using hs), if_neg (by simp only [List.length_append, List.length_replicate]; omega), if_pos]
        intro z hz
        rw [List.append_assoc, drop_left, List.take_append_of_le_length (by simp), List.take_of_length_le (by simp)] at hz
        exact List.eq_of_mem_replicate hz
      exact bears_of eT rfl (by simp) (fun a v => trivial)
    · have e : layF A ⟨7, oat, n, num, pv, ps, s⟩ = (A, 1) := by simp [layF, hs]
      rw [e] at hw
      exact absurd hw (by simp)
  by_cases k8 : kind = 8
  · subst k8
    by_cases hs : 0 ≤ num ∧ num ≤ (A.length : Int)
    · have e : layF A ⟨8, oat, n, num, pv, ps, s⟩ = (A ++ Pl.le 4 (Pl.crc (A.drop num.toNat)), 0) := by simp [layF, hs]
      rw [e]
      have hfr : num.toNat ≤ A.length := by omega
      have hz : Pl.crc (A.drop num.toNat) < 256 ^ 4 := ?_
      have eT : takeF (A ++ Pl.le 4 (Pl.crc (A.drop num.toNat)) ++ R) A.length ⟨8, oat, n, num, pv, ps, s⟩ = ⟨0, [], [], A.length + 4, 0⟩ := by
        unfold takeF
        dsimp only
        simp only [if_neg k1, if_neg k2, if_neg k3, if_neg k4, if_neg k5, if_neg k6, if_neg k7, if_true]
        rw [if_neg (by simpa using hs), if_neg (by simp only [List.length_append, Pl.le_length]; omega), if_pos]
        rw [num_laid hz, List.append_assoc, List.drop_append_of_le_length hfr, List.take_append_of_le_length (by rw [List.length_drop]; exact Nat.le_refl _), List.take_of_length_le (by rw [List.length_drop]; exact Nat.le_refl _)]
      · exact bears_of eT rfl (by simp [Pl.le_length]) (fun a v => trivial)
      · exact Nat.lt_succ_of_le (crc_lt (drop_small hA num.toNat))
    · have e : layF A ⟨8, oat, n, num, pv, ps, s⟩ = (A, 1) := by simp [layF, hs]
      rw [e] at hw
      exact absurd hw (by simp)
  have e : layF A ⟨kind, oat, n, num, pv, ps, s⟩ = (A, 0) := by simp [layF, k1, k2, k3, k4, k5, k6, k7, k8]
  rw [e]
  refine bears_of (t := ⟨0, [], [], A.length, 0⟩) (by simp only [takeF, if_neg k1, if_neg k2, if_neg k3, if_neg k4, if_neg k5, if_neg k6, if_neg k7, if_neg k8]) rfl rfl (fun a v => ?_)
  unfold AlikeH
  simp only [if_neg k1, if_neg k2, if_neg k3, if_neg k4, if_neg k5, if_neg k6]
/-- a step lays bytes behind those that were -/
theorem lay_grow (A : List Nat) (o : OpV) : ∃ B, (layF A o).1 = A ++ B ∧ B.length ≤ 4097 + o.ps.length + o.s.size := by
  have g : ∀ n al : Nat, 1 ≤ al → al ≤ 4096 → gapN n al ≤ 4096 := fun n al h1 h2 => by
    unfold gapN; have := Nat.mod_lt (al - n % al) (show al > 0 by omega); omega
  unfold layF
  by_cases k1 : o.kind = 1
  · rw [if_pos k1]; exact ⟨_, rfl, by rw [Pl.le_length]; omega⟩
  rw [if_neg k1]
  by_cases k2 : o.kind = 2
  · rw [if_pos k2]; exact ⟨_, rfl, by rw [Pl.le_length]; omega⟩
  rw [if_neg k2]
  by_cases k3 : o.kind = 3
  · rw [if_pos k3]; exact ⟨_, rfl, by rw [Pl.le_length]; omega⟩
  rw [if_neg k3]
  by_cases k4 : o.kind = 4
  · rw [if_pos k4]; exact ⟨_, rfl, by rw [Pl.le_length]; omega⟩
  rw [if_neg k4]
  by_cases k5 : o.kind = 5
  · rw [if_pos k5]; exact ⟨_, rfl, by omega⟩
  rw [if_neg k5]
  by_cases k6 : o.kind = 6
  · rw [if_pos k6]
    by_cases hs : o.s.size ≤ 65535
    · rw [if_pos hs]; exact ⟨_, rfl, by rw [List.length_append, Pl.le_length, sb_length]; omega⟩
    · rw [if_neg hs]; exact ⟨[], (List.append_nil A).symm, Nat.zero_le _⟩
  rw [if_neg k6]
  by_cases k7 : o.kind = 7
  · rw [if_pos k7]
    by_cases hs : 1 ≤ o.num ∧ o.num ≤ 4096
    · rw [if_pos hs]; exact ⟨_, rfl, by rw [List.length_replicate]; have := g A.length o.num.toNat (by omega) (by omega); omega⟩
    · rw [if_neg hs]; exact ⟨[], (List.append_nil A).symm, Nat.zero_le _⟩
  rw [if_neg k7]
  by_cases k8 : o.kind = 8
  · rw [if_pos k8]
    by_cases hs : 0 ≤ o.num ∧ o.num ≤ (A.length : Int)
    · rw [if_pos hs]; exact ⟨_, rfl, by rw [Pl.le_length]; omega⟩
    · rw [if_neg hs]; exact ⟨[], (List.append_nil A).symm, Nat.zero_le _⟩
  rw [if_neg k8]
  exact ⟨[], (List.append_nil A).symm, Nat.zero_le _⟩
theorem take_back {A B R : List Nat} {m : Nat} (h : A.length ≤ m) : (A ++ B ++ R).take m = A ++ (B ++ R).take (m - A.length) := by
  rw [List.append_assoc, List.take_append]
  rw [List.take_of_length_le h]
/-- of a shorter beginning the step is refused -/
theorem cut_step {A R : List Nat} {o : OpV} {m : Nat} (hw : (layF A o).2 = 0) (h1 : A.length ≤ m) (h2 : m < (layF A o).1.length) : takeF (((layF A o).1 ++ R).take m) A.length o = ⟨0, [], [], A.length, 10⟩ := by
  obtain ⟨kind, oat, n, num, pv, ps, s⟩ := o
  by_cases k1 : kind = 1
  · subst k1
    have e : layF A ⟨1, oat, n, num, pv, ps, s⟩ = (A ++ Pl.le 1 (n % 256), 0) := rfl
    rw [e] at h2 ⊢
    simp only [List.length_append, Pl.le_length] at h2
    unfold takeF
    dsimp only
    simp only [if_true]
    rw [if_neg (show ¬ A.length + 1 ≤ _ by rw [List.length_take]; omega)]
  by_cases k2 : kind = 2
  · subst k2
    have e : layF A ⟨2, oat, n, num, pv, ps, s⟩ = (A ++ Pl.le 2 (n % 65536), 0) := rfl
    rw [e] at h2 ⊢
    simp only [List.length_append, Pl.le_length] at h2
    unfold takeF
    dsimp only
    simp only [if_neg k1, if_true]
    rw [if_neg (show ¬ A.length + 2 ≤ _ by rw [List.length_take]; omega)]
  by_cases k3 : kind = 3
  · subst k3
    have e : layF A ⟨3, oat, n, num, pv, ps, s⟩ = (A ++ Pl.le 4 (n % 4294967296), 0) := rfl
    rw [e] at h2 ⊢
    simp only [List.length_append, Pl.le_length] at h2
    unfold takeF
    dsimp only
    simp only [if_neg k1, if_neg k2, if_true]
    rw [if_neg (show ¬ A.length + 4 ≤ _ by rw [List.length_take]; omega)]
  by_cases k4 : kind = 4
  · subst k4
    have e : layF A ⟨4, oat, n, num, pv, ps, s⟩ = (A ++ Pl.le 8 n, 0) := rfl
    rw [e] at h2 ⊢
    simp only [List.length_append, Pl.le_length] at h2
    unfold takeF
    dsimp only
    simp only [if_neg k1, if_neg k2, if_neg k3, if_true]
    rw [if_neg (show ¬ A.length + 8 ≤ _ by rw [List.length_take]; omega)]
  by_cases k5 : kind = 5
  · subst k5
    have e : layF A ⟨5, oat, n, num, pv, ps, s⟩ = (A ++ ps, 0) := rfl
    rw [e] at h2 ⊢
    simp only [List.length_append] at h2
    unfold takeF
    dsimp only
    simp only [if_neg k1, if_neg k2, if_neg k3, if_neg k4, if_true]
    rw [if_neg (show ¬ A.length + ps.length ≤ _ by rw [List.length_take]; omega)]
  by_cases k6 : kind = 6
  · subst k6
    by_cases hs : s.size ≤ 65535
    · have e : layF A ⟨6, oat, n, num, pv, ps, s⟩ = (A ++ (Pl.le 2 s.size ++ sb s), 0) := by simp [layF, hs]
      rw [e] at h2 ⊢
      simp only [List.length_append, Pl.le_length, sb_length] at h2
      have hL : ((A ++ (Pl.le 2 s.size ++ sb s) ++ R).take m).length = m := by
        rw [List.length_take]; simp only [List.length_append, Pl.le_length, sb_length]; omega
      unfold takeF
      dsimp only
      simp only [if_neg k1, if_neg k2, if_neg k3, if_neg k4, if_neg k5, if_true, hL]
      by_cases hm : m < A.length + 2
      · rw [if_pos hm]
      · rw [if_neg hm]
        have hN : Pl.num 2 (((A ++ (Pl.le 2 s.size ++ sb s) ++ R).take m).drop A.length) = s.size := by
          rw [take_back h1, drop_left, List.append_assoc, List.take_append, List.take_of_length_le (by rw [Pl.le_length]; omega), Pl.num_le 2 _ _ (by omega)]
        rw [hN, if_neg (by omega), if_pos (by omega)]
    · have e : layF A ⟨6, oat, n, num, pv, ps, s⟩ = (A, 3) := by simp [layF, hs]
      rw [e] at hw
      exact absurd hw (by simp)
  by_cases k7 : kind = 7
  · subst k7
    by_cases hs : 1 ≤ num ∧ num ≤ 4096
    · have e : layF A ⟨7, oat, n, num, pv, ps, s⟩ = (A ++ List.replicate (gapN A.length num.toNat) 0, 0) := by simp [layF, hs]
      rw [e] at h2 ⊢
      simp only [List.length_append, List.length_replicate] at h2
      unfold takeF
      dsimp only
      simp only [if_neg k1, if_neg k2, if_neg k3, if_neg k4, if_neg k5, if_neg k6, if_true]
      rw [if_neg (by simpa using hs), if_pos (by rw [List.length_take]; omega)]
    · have e : layF A ⟨7, oat, n, num, pv, ps, s⟩ = (A, 1) := by simp [layF, hs]
      rw [e] at hw
      exact absurd hw (by simp)
  by_cases k8 : kind = 8
  · subst k8
    by_cases hs : 0 ≤ num ∧ num ≤ (A.length : Int)
    · have e : layF A ⟨8, oat, n, num, pv, ps, s⟩ = (A ++ Pl.le 4 (Pl.crc (A.drop num.toNat)), 0) := by simp [layF, hs]
      rw [e] at h2 ⊢
      simp only [List.length_append, Pl.le_length] at h2
      unfold takeF
      dsimp only
      simp only [if_neg k1, if_neg k2, if_neg k3, if_neg k4, if_neg k5, if_neg k6, if_neg k7, if_true]
      rw [if_neg (by simpa using hs), if_pos (by rw [List.length_take]; omega)]
    · have e : layF A ⟨8, oat, n, num, pv, ps, s⟩ = (A, 1) := by simp [layF, hs]
      rw [e] at hw
      exact absurd hw (by simp)
  have e : layF A ⟨kind, oat, n, num, pv, ps, s⟩ = (A, 0) := by simp [layF, k1, k2, k3, k4, k5, k6, k7, k8]
  rw [e] at h2
  exact absurd h2 (Nat.not_lt.2 h1)
end Go.Proofs.YtlcjdofciogfaaaDoor
