/- What is taken whole is laid to the same bytes: the mathematics of one step; a script in memory. -/
import Derived.Test.YtlcjdofciogfaaaDoorOpTake
namespace Go.Proofs.YtlcjdofciogfaaaDoor
open Go.RowKit
theorem Pl.le_num (m : Nat) (ys : List Nat) (h : ∀ z ∈ ys, z < 256) (hl : m ≤ ys.length) : Pl.le m (Pl.num m ys) = ys.take m := by
  induction m generalizing ys with
  | zero => rfl
  | succ m ih =>
    cases ys with
    | nil => simp at hl
    | cons y ys =>
      have hy := h y (List.mem_cons_self ..)
      have e : Pl.num (m + 1) (y :: ys) = y + 256 * Pl.num m ys := by
        show (y :: ys).getD 0 0 + 256 * Pl.acc (y :: ys) (0 + 1) m = _
        rw [Pl.acc_cons]
        rfl
      rw [e, List.take_succ_cons, ← ih ys (fun z hz => h z (List.mem_cons_of_mem _ hz)) (by simpa using hl)]
      show (y + 256 * Pl.num m ys) % 256 :: Pl.le m ((y + 256 * Pl.num m ys) / 256) = _
      rw [show (y + 256 * Pl.num m ys) % 256 = y by omega, show (y + 256 * Pl.num m ys) / 256 = Pl.num m ys by omega]
theorem take_le {zs : List Nat} (h : ∀ z ∈ zs, z < 256) (pos k : Nat) (hl : pos + k ≤ zs.length) : zs.take pos ++ Pl.le k (Pl.num k (zs.drop pos)) = zs.take (pos + k) := by
  rw [Pl.le_num k _ (drop_small h pos) (by rw [List.length_drop]; omega), List.take_add]
theorem take_length_of {zs : List Nat} {pos : Nat} (h : pos ≤ zs.length) : (zs.take pos).length = pos := by rw [List.length_take]; omega
theorem zeros_of {ys : List Nat} {k : Nat} (hl : k ≤ ys.length) (hz : ∀ z ∈ ys.take k, z = 0) : List.replicate k 0 = ys.take k := by
  refine (List.eq_replicate_iff.2 ⟨by rw [List.length_take]; omega, hz⟩).symm
/-- what was taken is laid to the same bytes -/
theorem forth_step {zs : List Nat} {pos : Nat} {o : OpV} (h : ∀ z ∈ zs, z < 256) (hp : pos ≤ zs.length) (hw : (takeF zs pos o).why = 0) (a : Int) (v : Value) :
    layF (zs.take pos) ⟨o.kind, a, (takeF zs pos o).n, o.num, v, (takeF zs pos o).ps, mkS (takeF zs pos o).s⟩ = (zs.take (takeF zs pos o).pos, 0) ∧ (takeF zs pos o).pos ≤ zs.length := by
  obtain ⟨kind, oat, n, num, pv, ps, s⟩ := o
  have hlen := take_length_of hp
  unfold takeF at hw ⊢
  unfold layF
  dsimp only at hw ⊢
  by_cases k1 : kind = 1
  · subst k1
    by_cases hl : pos + 1 ≤ zs.length
    · simp only [if_pos hl, if_true]
      rw [Nat.mod_eq_of_lt (show _ < 256 from num_lt h 1 pos), take_le h pos 1 hl]
      exact ⟨rfl, hl⟩
    · simp [if_neg hl] at hw
  by_cases k2 : kind = 2
  · subst k2
    by_cases hl : pos + 2 ≤ zs.length
    · simp only [if_pos hl, if_neg k1, if_true]
      rw [Nat.mod_eq_of_lt (show _ < 65536 from num_lt h 2 pos), take_le h pos 2 hl]
      exact ⟨rfl, hl⟩
    · simp [if_neg hl] at hw
  by_cases k3 : kind = 3
  · subst k3
    by_cases hl : pos + 4 ≤ zs.length
    · simp only [if_pos hl, if_neg k1, if_neg k2, if_true]
      rw [Nat.mod_eq_of_lt (show _ < 4294967296 from num_lt h 4 pos), take_le h pos 4 hl]
      exact ⟨rfl, hl⟩
    · simp [if_neg hl] at hw
  by_cases k4 : kind = 4
  · subst k4
    by_cases hl : pos + 8 ≤ zs.length
    · simp only [if_pos hl, if_neg k1, if_neg k2, if_neg k3, if_true]
      rw [take_le h pos 8 hl]
      exact ⟨rfl, hl⟩
    · simp [if_neg hl] at hw
  by_cases k5 : kind = 5
  · subst k5
    by_cases hl : pos + ps.length ≤ zs.length
    · simp only [if_pos hl, if_neg k1, if_neg k2, if_neg k3, if_neg k4, if_true]
      rw [List.take_add]
      exact ⟨rfl, hl⟩
    · simp [if_neg hl] at hw
  by_cases k6 : kind = 6
  · subst k6
    simp only [if_neg k1, if_neg k2, if_neg k3, if_neg k4, if_neg k5, if_true] at hw ⊢
    by_cases h1 : zs.length < pos + 2
    · rw [if_pos h1] at hw; simp at hw
    simp only [if_neg h1] at hw ⊢
    by_cases h2 : s.size < Pl.num 2 (zs.drop pos)
    · rw [if_pos h2] at hw; simp at hw
    simp only [if_neg h2] at hw ⊢
    by_cases h3 : zs.length < pos + 2 + Pl.num 2 (zs.drop pos)
    · rw [if_pos h3] at hw; simp at hw
    simp only [if_neg h3] at hw ⊢
    have hh := num2_le (drop_small h pos)
    have hsz : (mkS ((zs.drop (pos + 2)).take (Pl.num 2 (zs.drop pos)))).size = Pl.num 2 (zs.drop pos) := by
      rw [mkS_size, List.length_take, List.length_drop]; omega
    rw [hsz, if_pos hh, sb_mkS (fun z hz => drop_small h (pos + 2) z (List.mem_of_mem_take hz)), ← List.append_assoc, take_le h pos 2 (by omega), ← List.take_add]
    exact ⟨rfl, by omega⟩
  by_cases k7 : kind = 7
  · subst k7
    simp only [if_neg k1, if_neg k2, if_neg k3, if_neg k4, if_neg k5, if_neg k6, if_true] at hw ⊢
    by_cases h1 : ¬ (1 ≤ num ∧ num ≤ 4096)
    · rw [if_pos h1] at hw; simp at hw
    have h1' := Decidable.not_not.1 h1
    simp only [if_neg h1] at hw ⊢
    by_cases h2 : zs.length < pos + gapN pos num.toNat
    · rw [if_pos h2] at hw; simp at hw
    simp only [if_neg h2] at hw ⊢
    by_cases h3 : ∀ z ∈ (zs.drop pos).take (gapN pos num.toNat), z = 0
    · simp only [if_pos h3] at hw ⊢
      rw [hlen, if_pos h1', zeros_of (by rw [List.length_drop]; omega) h3, ← List.take_add]
      exact ⟨rfl, by omega⟩
    · rw [if_neg h3] at hw; simp at hw
  by_cases k8 : kind = 8
  · subst k8
    simp only [if_neg k1, if_neg k2, if_neg k3, if_neg k4, if_neg k5, if_neg k6, if_neg k7, if_true] at hw ⊢
    by_cases h1 : ¬ (0 ≤ num ∧ num ≤ (pos : Int))
    · rw [if_pos h1] at hw; simp at hw
    have h1' := Decidable.not_not.1 h1
    simp only [if_neg h1] at hw ⊢
    by_cases h2 : zs.length < pos + 4
    · rw [if_pos h2] at hw; simp at hw
    simp only [if_neg h2] at hw ⊢
    by_cases h3 : Pl.num 4 (zs.drop pos) = Pl.crc ((zs.drop num.toNat).take (pos - num.toNat))
    · simp only [if_pos h3] at hw ⊢
      rw [hlen, if_pos h1', List.drop_take, ← h3, take_le h pos 4 (by omega)]
      exact ⟨rfl, by omega⟩
    · rw [if_neg h3] at hw; simp at hw
  simp only [if_neg k1, if_neg k2, if_neg k3, if_neg k4, if_neg k5, if_neg k6, if_neg k7, if_neg k8]
  exact ⟨trivial, hp⟩
/-- numbers that are taken are numbers; what is taken lies in the bytes -/
def TookFits (zs : List Nat) (t : Took) : Prop := t.n < 18446744073709551616 ∧ t.ps.length ≤ zs.length ∧ t.s.length ≤ zs.length
theorem fits_ite {zs : List Nat} {c : Prop} [Decidable c] {a b : Took} (h1 : c → TookFits zs a) (h2 : ¬ c → TookFits zs b) : TookFits zs (if c then a else b) := by
  by_cases h : c
  · rw [if_pos h]; exact h1 h
  · rw [if_neg h]; exact h2 h
theorem fits_num {zs : List Nat} {n pos : Nat} {why : Int} (h : n < 18446744073709551616) : TookFits zs ⟨n, [], [], pos, why⟩ := ⟨h, Nat.zero_le _, Nat.zero_le _⟩
theorem took_fits {zs : List Nat} {pos : Nat} {o : OpV} (h : ∀ z ∈ zs, z < 256) : TookFits zs (takeF zs pos o) := by
  have h1 := num_lt h 1 pos
  have h2 := num_lt h 2 pos
  have h4 := num_lt h 4 pos
  have h8 := num_lt h 8 pos
  unfold takeF
  have z : ∀ {p : Nat} {y : Int}, TookFits zs ⟨0, [], [], p, y⟩ := fits_num (by decide)
  refine fits_ite (fun _ => fits_ite (fun _ => fits_num (by omega)) (fun _ => z)) (fun _ => ?_)
  refine fits_ite (fun _ => fits_ite (fun _ => fits_num (by omega)) (fun _ => z)) (fun _ => ?_)
  refine fits_ite (fun _ => fits_ite (fun _ => fits_num (by omega)) (fun _ => z)) (fun _ => ?_)
  refine fits_ite (fun _ => fits_ite (fun _ => fits_num (by omega)) (fun _ => z)) (fun _ => ?_)
  refine fits_ite (fun _ => fits_ite (fun _ => ⟨Nat.zero_lt_succ _, ?_, Nat.zero_le _⟩) (fun _ => z)) (fun _ => ?_)
  · simp only [List.length_take, List.length_drop]; omega
  refine fits_ite (fun _ => fits_ite (fun _ => z) (fun _ => fits_ite (fun _ => z) (fun _ => fits_ite (fun _ => z) (fun _ => ⟨Nat.zero_lt_succ _, Nat.zero_le _, ?_⟩)))) (fun _ => ?_)
  · simp only [List.length_take, List.length_drop]; omega
  refine fits_ite (fun _ => fits_ite (fun _ => z) (fun _ => fits_ite (fun _ => z) (fun _ => fits_ite (fun _ => z) (fun _ => z)))) (fun _ => ?_)
  exact fits_ite (fun _ => fits_ite (fun _ => z) (fun _ => fits_ite (fun _ => z) (fun _ => fits_ite (fun _ => z) (fun _ => z)))) (fun _ => z)
/-- a script in memory -/
def Scr (w : World) (v : Value) (os : List OpV) : Prop :=
  ∃ ao cap, v = .slice ao os.length cap ∧ os.length ≤ cap ∧ cap ≤ maxLen ∧ ∀ i (h : i < os.length), ∃ b o, ao = some ⟨b, o, none⟩ ∧ Sl w os[i].pv os[i].ps ∧ os[i].n < 18446744073709551616 ∧
    w.cell? ⟨b, o + i * 6, none⟩ = some (.int .i64 os[i].kind) ∧ w.cell? ⟨b, o + i * 6 + 1, none⟩ = some (.int .i64 os[i].pos) ∧ w.cell? ⟨b, o + i * 6 + 2, none⟩ = some (.int .u64 (os[i].n : Int)) ∧
    w.cell? ⟨b, o + i * 6 + 3, none⟩ = some (.int .i64 os[i].num) ∧ w.cell? ⟨b, o + i * 6 + 4, none⟩ = some os[i].pv ∧ w.cell? ⟨b, o + i * 6 + 5, none⟩ = some (.string os[i].s)
end Go.Proofs.YtlcjdofciogfaaaDoor
