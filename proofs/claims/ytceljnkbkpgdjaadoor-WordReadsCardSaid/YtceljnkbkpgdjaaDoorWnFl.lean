/- WordNumbers: the book between two calls; bytes turned over. Own work. -/
import Derived.Test.YtceljnkbkpgdjaaDoorWnMk
namespace Go.Proofs.YtceljnkbkpgdjaaDoor
open Go.RowKit Go.Shelf
theorem sl_drop {w : World} {g c k : Nat} {A B : List Nat} (h : Sl w (.slice (some ⟨g, 0, none⟩) (A.length + k) c) (A ++ B)) (hk : B.length = k) : Sl w (.slice (some ⟨g, A.length, none⟩) k (c - A.length)) B := by
  obtain ⟨ao, cap, e, h1, h2, h3, h4, h5⟩ := h
  simp only [Value.slice.injEq] at e
  obtain ⟨rfl, e2, rfl⟩ := e
  rw [List.length_append] at h1
  refine ⟨some ⟨g, A.length, none⟩, c - A.length, by rw [hk], by omega, by omega, fun z hz => h3 z (List.mem_append_right _ hz), (fun e => by cases e), fun i hi => ⟨g, A.length, rfl, ?_⟩⟩
  obtain ⟨b, o, e, hc⟩ := h5 (A.length + i) (by rw [List.length_append]; omega)
  cases e
  rw [Nat.zero_add] at hc
  rw [hc, List.getD_eq_getElem?_getD, List.getElem?_append_right (by omega), Nat.add_sub_cancel_left, ← List.getD_eq_getElem?_getD]
/-- the number that the first bytes are -/
def getN (m : Nat) (zs : List Nat) : Nat × Bool := if m ≤ zs.length then (Pl.num m zs, true) else (0, false)
theorem getN_le {m : Nat} {zs : List Nat} (hm : m ≤ 8) (h : ∀ z ∈ zs, z < 256) : (getN m zs).1 ≤ gN m := by
  unfold getN
  split
  · have := Pl.acc_lt h 0 m
    have := gN_pow m hm
    show Pl.acc zs 0 m ≤ _
    omega
  · exact Nat.zero_le _
theorem rNumber_any {s : Nat} {zs : List Nat} {v : Value} {w : World} (hs : s ≤ 8) (hv : Sl w v zs) (h0 : 0 < s) :
    Calls Tryd.prog 71 #[v, .int .i64 (s : Int)] w fun e w' => e = .returned (.tuple #[.int .u64 ((getN s zs).1 : Nat), .bool (getN s zs).2]) ∧ w' = w := by
  by_cases h : s ≤ zs.length
  · rw [show getN s zs = (Pl.num s zs, true) from if_pos h]
    exact rNumber_yes hs hv h h0
  · rw [show getN s zs = (0, false) from if_neg h]
    exact rNumber_no hv (by omega)
theorem xor_ones (n m : Nat) (h : m < 2 ^ n) : m ^^^ (2 ^ n - 1) = 2 ^ n - 1 - m := by
  have e1 : (~~~ (BitVec.ofNat n m)).toNat = 2 ^ n - 1 - m := by rw [BitVec.toNat_not, BitVec.toNat_ofNat, Nat.mod_eq_of_lt h]
  rw [BitVec.not_def, BitVec.toNat_xor, BitVec.toNat_allOnes, BitVec.toNat_ofNat, Nat.mod_eq_of_lt h, Nat.xor_comm] at e1
  exact e1
theorem gN_two : ∀ s, s ≤ 8 → gN s = 2 ^ (8 * s) - 1 ∧ gN s + 1 = 2 ^ (8 * s) := by decide
theorem xor_gN {s m : Nat} (hs : s ≤ 8) (h : m ≤ gN s) : bits .xor .u64 (m : Int) (gN s : Int) = ((gN s - m : Nat) : Int) := by
  have hg := gN_le s hs
  have e := u64_xor_nat m (gN s) (by omega) (by omega)
  rw [e]
  have ⟨h1, h2⟩ := gN_two s hs
  have := xor_ones (8 * s) m (by omega)
  rw [← h1] at this
  rw [this]
theorem xor_ff {z : Nat} (h : z < 256) : bits .xor .u8 (z : Int) 255 = ((255 - z : Nat) : Int) := by
  have e : bits .xor .u8 (z : Int) ((255 : Nat) : Int) = ((z ^^^ 255 : Nat) : Int) := u8_xor_nat z 255 h (by decide)
  have x := xor_ones 8 z (by omega)
  rw [show (2 : Nat) ^ 8 - 1 = 255 from rfl] at x
  rw [x] at e
  exact e
def flip (p : List Nat) : List Nat := p.map (255 - ·)
theorem flip_small (p : List Nat) : ∀ z ∈ flip p, z < 256 := fun z hz => by
  obtain ⟨y, _, rfl⟩ := List.mem_map.1 hz
  omega
theorem acc_flip (p : List Nat) (h : ∀ z ∈ p, z < 256) : ∀ (m k : Nat), k + m ≤ p.length → Pl.acc (flip p) k m + Pl.acc p k m = gN m
  | 0, k, _ => rfl
  | m + 1, k, hk => by
    have ih := acc_flip p h m (k + 1) (by omega)
    show (flip p).getD k 0 + 256 * Pl.acc (flip p) (k + 1) m + (p.getD k 0 + 256 * Pl.acc p (k + 1) m) = gN m * 256 + 255
    have hz := h p[k] (List.getElem_mem (by omega))
    have e1 : p.getD k 0 = p[k] := by rw [List.getD_eq_getElem?_getD, List.getElem?_eq_getElem (by omega)]; rfl
    have e2 : (flip p).getD k 0 = 255 - p[k] := by rw [List.getD_eq_getElem?_getD, flip, List.getElem?_map, List.getElem?_eq_getElem (by omega)]; rfl
    rw [e1, e2]
    omega
/-- the bytes turned over up to the k-th, room behind them -/
def flipTo (p : List Nat) (k : Nat) : List Nat := flip (p.take k) ++ (p.drop k ++ List.replicate 80 165)
theorem flipTo_zero (p : List Nat) : flipTo p 0 = roomed p 165 := rfl
theorem flipTo_len (p : List Nat) (k : Nat) (hk : k ≤ p.length) : (flipTo p k).length = p.length + 80 := by simp [flipTo, flip]; omega
theorem flipTo_get (p : List Nat) (k : Nat) (hk : k < p.length) : (flipTo p k).getD k 0 = p.getD k 0 := by
  have h1 : (flip (p.take k)).length = k := by simp [flip]; omega
  rw [List.getD_eq_getElem?_getD, List.getD_eq_getElem?_getD, flipTo, List.getElem?_append_right (by omega), h1, Nat.sub_self, List.getElem?_append_left (by simp; omega), List.getElem?_drop, Nat.add_zero]
theorem flipTo_set (p : List Nat) (k : Nat) (hk : k < p.length) : (flipTo p k).set k (255 - p.getD k 0) = flipTo p (k + 1) := by
  have h1 : (flip (p.take k)).length = k := by simp [flip]; omega
  have e : p.getD k 0 = p[k] := by rw [List.getD_eq_getElem?_getD, List.getElem?_eq_getElem hk]; rfl
  rw [flipTo, List.set_append_right _ _ (by omega), h1, Nat.sub_self, List.drop_eq_getElem_cons hk, List.cons_append, List.set_cons_zero, flipTo, List.take_succ_eq_append_getElem hk, e, show flip (p.take k ++ [p[k]]) = flip (p.take k) ++ [255 - p[k]] from List.map_append, List.append_assoc]
  rfl
theorem flipTo_end (p : List Nat) : (flipTo p p.length).take p.length = flip p := by
  unfold flipTo
  rw [List.take_length, List.take_append_of_le_length (by simp [flip]), List.take_of_length_le (by simp [flip])]
theorem flipTo_small (p : List Nat) (k : Nat) (h : ∀ z ∈ p, z < 256) : ∀ z ∈ flipTo p k, z < 256 := fun z hz => by
  rcases List.mem_append.1 hz with hz | hz
  · exact flip_small _ z hz
  · rcases List.mem_append.1 hz with hz | hz
    · exact h z (List.mem_of_mem_drop hz)
    · rw [List.eq_of_mem_replicate hz]; decide
/-- what Get answers of the bytes turned over -/
theorem getN_flip {m : Nat} {p : List Nat} (_hm : m ≤ 8) (h : ∀ z ∈ p, z < 256) : getN m (flip p) = if (getN m p).2 = true then (gN m - (getN m p).1, true) else (0, false) := by
  have hl : (flip p).length = p.length := by simp [flip]
  unfold getN
  rw [hl]
  by_cases hc : m ≤ p.length
  · rw [if_pos hc, if_pos hc]
    have := acc_flip p h m 0 (by omega)
    simp only [if_true]
    show (Pl.acc (flip p) 0 m, true) = (gN m - Pl.acc p 0 m, true)
    congr 1
    omega
  · rw [if_neg hc, if_neg hc]
    simp
end Go.Proofs.YtceljnkbkpgdjaaDoor
