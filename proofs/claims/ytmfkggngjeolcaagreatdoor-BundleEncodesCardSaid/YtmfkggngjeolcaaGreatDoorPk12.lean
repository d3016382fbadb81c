import Derived.Test.YtmfkggngjeolcaaGreatDoorPk04
/- The Reader in memory; NewReader, At, Left, Err, End, rest. -/
namespace Go.Proofs.YtmfkggngjeolcaaGreatDoor
open Go.RowKit
def Rd (w : World) (p g : Nat) (zs : List Nat) (pos : Nat) (why : Int) : Prop :=
  w.heap[p]? = some (.cells #[.slice (some ⟨g, 0, none⟩) zs.length zs.length, .int .i64 pos, .int .i64 why] 191 (0, 0)) ∧ Row w g zs ∧ g ≠ p ∧ pos ≤ zs.length ∧ (∀ z ∈ zs, z < 256) ∧ zs.length ≤ 1099511627776
section
variable {w w' : World} {p g : Nat} {zs : List Nat} {pos : Nat} {why : Int}
theorem Rd.lt (h : Rd w p g zs pos why) : p < w.heap.size := (Array.getElem?_eq_some_iff.1 h.1).1
theorem Rd.cell0 (h : Rd w p g zs pos why) : w.cell? ⟨p, 0, none⟩ = some (.slice (some ⟨g, 0, none⟩) zs.length zs.length) := by
  rw [cell_of_row w p 0 _ _ _ h.1]; rfl
theorem Rd.cell1 (h : Rd w p g zs pos why) : w.cell? ⟨p, 1, none⟩ = some (.int .i64 pos) := by
  rw [cell_of_row w p 1 _ _ _ h.1]; rfl
theorem Rd.thawed (h : Rd w p g zs pos why) (i : Nat) : w.frozen? ⟨p, i, none⟩ = false := by
  simp [World.frozen?, h.1]
theorem Rd.keeps {S : Nat → Prop} (h : Rd w p g zs pos why) (hk : Keeps S w w') (hp : ¬ S p) (hg : ¬ S g) : Rd w' p g zs pos why :=
  ⟨(hk.block p h.lt hp).trans h.1, h.2.1.keeps hk hg, h.2.2⟩
theorem Rd.sl (h : Rd w p g zs pos why) : Sl w (.slice (some ⟨g, 0, none⟩) zs.length zs.length) zs := by
  have := h.2.1.sl h.2.2.2.2.1 0 zs.length zs.length (by omega) (Nat.le_refl _) (by have := h.2.2.2.2.2; unfold maxLen; omega)
  rwa [List.drop_zero, List.take_length] at this
theorem Rd.refuse (h : Rd w p g zs pos why) (e : Int) : Rd (w.setCell ⟨p, 2, none⟩ (.int .i64 e)) p g zs pos e := by
  refine ⟨?_, h.2.1.keeps (Keeps.setCell w p 2 _) h.2.2.1, h.2.2⟩
  simp only [World.setCell, Array.getElem?_modify]
  rw [if_pos trivial, h.1]
  simp
end
end Go.Proofs.YtmfkggngjeolcaaGreatDoor
/- Get, take, and the Reader's calls Byte, Half, Word, Long. -/
namespace Go.Proofs.YtmfkggngjeolcaaGreatDoor
open Go.RowKit
namespace Pl
/-- the number that m bytes from the k-th on are -/
def acc (zs : List Nat) : Nat → Nat → Nat
  | _, 0 => 0
  | k, m + 1 => zs.getD k 0 + 256 * acc zs (k + 1) m
def num (m : Nat) (zs : List Nat) : Nat := acc zs 0 m
theorem acc_lt {zs : List Nat} (h : ∀ z ∈ zs, z < 256) (k m : Nat) : acc zs k m < 256 ^ m := by
  induction m generalizing k with
  | zero => simp [acc]
  | succ m ih =>
    have h1 := mem_getD (k := k) h
    have h2 := ih (k + 1)
    show zs.getD k 0 + 256 * acc zs (k + 1) m < 256 ^ (m + 1)
    rw [Nat.pow_succ]
    omega
theorem acc_cons (x : Nat) (zs : List Nat) (k m : Nat) : acc (x :: zs) (k + 1) m = acc zs k m := by
  induction m generalizing k with
  | zero => rfl
  | succ m ih => show (x :: zs).getD (k + 1) 0 + _ = zs.getD k 0 + _; rw [ih]; rfl
/-- what le lays num reads -/
theorem num_le (m n : Nat) (r : List Nat) (h : n < 256 ^ m) : num m (le m n ++ r) = n := by
  induction m generalizing n with
  | zero => simp [num, acc]; simp at h; omega
  | succ m ih =>
    have hd : n / 256 < 256 ^ m := by rw [Nat.pow_succ] at h; exact Nat.div_lt_of_lt_mul (by omega)
    have e := ih (n / 256) hd
    show acc (n % 256 :: (le m (n / 256) ++ r)) 0 (m + 1) = n
    show n % 256 + 256 * acc (n % 256 :: (le m (n / 256) ++ r)) (0 + 1) m = n
    rw [acc_cons]
    rw [show acc (le m (n / 256) ++ r) 0 m = n / 256 from e]
    omega
end Pl
theorem Keeps.drew {S : Nat → Prop} {w w' : World} (h : Keeps S w w') : Keeps S w w'.drew := ⟨h.os, h.tape, h.output, h.size, h.block⟩
theorem Rd.drew {w : World} {p g : Nat} {zs : List Nat} {pos : Nat} {why : Int} (h : Rd w p g zs pos why) : Rd w.drew p g zs pos why := h
end Go.Proofs.YtmfkggngjeolcaaGreatDoor
/- Reader.End, areZeros, Reader.Pad, Reader.Bytes. -/
namespace Go.Proofs.YtmfkggngjeolcaaGreatDoor
open Go.RowKit
/-- nothing but the count of draws has changed -/
def Stay (w w' : World) : Prop := w'.heap = w.heap ∧ Below w.heap.size w w'
theorem Stay.refl (w : World) : Stay w w := ⟨rfl, Below.refl _ _⟩
theorem Stay.keeps {S : Nat → Prop} {w w' : World} (h : Stay w w') : Keeps S w w' := Keeps.of_below h.2
theorem Stay.rd {w w' : World} {p g : Nat} {zs : List Nat} {pos : Nat} {why : Int} (h : Stay w w') (hr : Rd w p g zs pos why) : Rd w' p g zs pos why := hr.keeps (h.keeps (S := fun _ => False)) (fun h => h) (fun h => h)
theorem Stay.trans {a b c : World} (h : Stay a b) (k : Stay b c) : Stay a c := ⟨k.1.trans h.1, h.2.trans (k.2.mono (by rw [h.1]; exact Nat.le_refl _))⟩
end Go.Proofs.YtmfkggngjeolcaaGreatDoor
