import Derived.Test.YtmfkggngjeolcaaGreatDoorPk08
import Derived.Test.YtmfkggngjeolcaaGreatDoorPk00
import Derived.Test.YtmfkggngjeolcaaGreatDoorPk01
set_option maxHeartbeats 1000000
set_option maxRecDepth 100000
namespace Go.Proofs.YtmfkggngjeolcaaGreatDoor
open Go.RowKit
def gN : Nat → Nat
 | 0 => 0
 | k + 1 => gN k * 256 + 255
end Go.Proofs.YtmfkggngjeolcaaGreatDoor
namespace Go.Proofs.YtmfkggngjeolcaaGreatDoor
namespace Pl
def bst (r : Nat) : Nat := if r % 2 = 1 then (r / 2) ^^^ 2197175160 else r / 2
def bsteps : Nat → Nat → Nat
 | 0, r => r
 | k + 1, r => bst (bsteps k r)
theorem xor_half (a b : Nat) : (a ^^^ b) / 2 = a / 2 ^^^ b / 2 := by
 have h := Nat.shiftRight_xor_distrib (a := a) (b := b) (i := 1)
 simpa [Nat.shiftRight_eq_div_pow] using h
theorem bst_xor (a b : Nat) : bst (a ^^^ b) = bst a ^^^ bst b := by
 have ha := Nat.mod_two_eq_one_iff_testBit_zero (x := a);have hb := Nat.mod_two_eq_one_iff_testBit_zero (x := b);have hab := Nat.mod_two_eq_one_iff_testBit_zero (x := a ^^^ b);rw [Nat.testBit_xor] at hab;simp only [bst, xor_half, hab, ha, hb]
 cases a.testBit 0 <;> cases b.testBit 0
 ·rfl
 ·exact Nat.xor_assoc _ _ _
 ·exact (Nat.xor_assoc _ _ _).trans ((congrArg _ (Nat.xor_comm _ _)).trans (Nat.xor_assoc _ _ _).symm)
 ·show a / 2 ^^^ b / 2 = (a / 2 ^^^ 2197175160) ^^^ (b / 2 ^^^ 2197175160)
  rw [Nat.xor_comm (b / 2), Nat.xor_assoc, ← Nat.xor_assoc 2197175160, Nat.xor_self, Nat.zero_xor]
theorem bst_two (y : Nat) : bst (2 * y) = y := by
 simp [bst]
theorem bsteps_xor (k a b : Nat) : bsteps k (a ^^^ b) = bsteps k a ^^^ bsteps k b := by
 induction k with
 | zero => rfl
 | succ k ih => simp only [bsteps, ih, bst_xor]
theorem bsteps_four (q : Nat) : bsteps 4 (16 * q) = q := by
 simp only [bsteps];rw [show 16 * q = 2 * (2 * (2 * (2 * q))) from by omega, bst_two, bst_two, bst_two, bst_two]
theorem split16 (x : Nat) : x = (16 * (x / 16)) ^^^ (x % 16) := by
 have h1 : 16 * (x / 16) ||| x % 16 = 16 * (x / 16) + x % 16 := nat_join 4 _ _ (by simp) (Nat.mod_lt _ (by decide));have h2 : 16 * (x / 16) ^^^ x % 16 = 16 * (x / 16) ||| x % 16 := by
  apply Nat.eq_of_testBit_eq;intro i;rw [Nat.testBit_xor, Nat.testBit_or];have e1 : (x % 16).testBit i = (decide (i < 4) && x.testBit i) := Nat.testBit_mod_two_pow x 4 i;have e2 : (16 * (x / 16)).testBit i = (decide (4 ≤ i) && (x / 16).testBit (i - 4)) := Nat.testBit_two_pow_mul (i := 4);rw [e1, e2]
  by_cases h : i < 4
  ·simp [h, Nat.not_le.2 h]
  ·simp [h]
 rw [h2, h1];omega
theorem nib_small : ∀ t : Fin 16, bsteps 4 t.val = tab.getD t.val 0 := by decide
theorem bsteps_nib (x : Nat) : bsteps 4 x = nib x := by
 conv => lhs; rw [split16 x]
 rw [bsteps_xor, bsteps_four, nib_small ⟨x % 16, Nat.mod_lt _ (by decide)⟩]
 rfl
theorem bsteps_eight (x : Nat) : bsteps 8 x = nib (nib x) := by
 rw [← bsteps_nib x, ← bsteps_nib (bsteps 4 x)]; rfl
theorem step_eight (r z : Nat) : stepB r z = bsteps 8 (r ^^^ z) := by rw [bsteps_eight]; rfl
theorem bst_lt {r : Nat} (h : r < 4294967296) : bst r < 4294967296 := by
 unfold bst
 split
 ·exact xor_lt (by omega) (by decide)
 ·omega
theorem bsteps_lt (k : Nat) {r : Nat} (h : r < 4294967296) : bsteps k r < 4294967296 := by
 induction k with
 | zero => exact h
 | succ k ih => exact bst_lt ih
end Pl
end Go.Proofs.YtmfkggngjeolcaaGreatDoor
namespace Go.Proofs.YtmfkggngjeolcaaGreatDoor
open Go.RowKit
theorem and1 (x : Nat) (h : x < 4294967296) : bits .and .u32 (x : Int) 1 = ((x % 2 : Nat) : Int) := by
 have := u32_and_nat x 1 h (by decide);rw [nat_mask1] at this;exact this
theorem turn32 (r : Nat) (h : r < 4294967296) : bits .xor .u32 (r : Int) 4294967295 = ((4294967295 ^^^ r : Nat) : Int) := by
 rw [Nat.xor_comm];exact u32_xor_nat r 4294967295 h (by decide)
theorem poly32 (r : Nat) (h : r < 4294967296) : bits .xor .u32 (r : Int) 2197175160 = ((r ^^^ 2197175160 : Nat) : Int) :=
 u32_xor_nat r 2197175160 h (by decide)
theorem refmore_some (s : Nat) (b o cap : Nat) (zs : List Nat) (w : World) (hs : s < 4294967296) (hz : ∀ z ∈ zs, z < 256) (hc : zs.length ≤ cap) (hm : cap ≤ maxLen)
  (hcell : ∀ i, i < zs.length → w.cell? ⟨b, o + i, none⟩ = some (.int .u8 (zs.getD i 0 : Nat))) :
  Calls Tryz.prog 85 #[.int .u32 s, .slice (some ⟨b, o, none⟩) zs.length cap] w fun e w' => e = .returned (.int .u32 (Pl.more s zs : Nat)) ∧ w' = w := by
 unfold maxLen at hm;have hn := turn32 s hs;obtain ⟨r0, hr0⟩ : ∃ r0, 4294967295 ^^^ s = r0 := ⟨_, rfl⟩
 rw [hr0] at hn;have hr0lt : r0 < 4294967296 := by rw [← hr0]; exact Pl.xor_lt (by decide) hs
 have HR : Hid (4294967295 ^^^ s = r0) := hr0;have HC : Hid (∀ i, i < zs.length → w.cell? ⟨b, o + i, none⟩ = some (.int .u8 (zs.getD i 0 : Nat))) := hcell;have HZ : Hid (∀ z ∈ zs, z < 256) := hz;clear hr0 hcell hz;go_enter Tryz.func85, Tryz.ntmps85
 go_wp2
 go_loop [5, 6, 7, 8] (fun r i _ _ => ∃ k : Nat, k ≤ zs.length ∧ i = .int .i64 k ∧ r = .int .u32 (((zs.take k).foldl Pl.stepB r0 : Nat) : Int)) (fun _ i _ _ => zs.length - (intOf i).toNat)
 case atStart => exact ⟨0, Nat.zero_le _, rfl, rfl⟩
 case round =>
  obtain ⟨k, hk, rfl, rfl⟩ := hrel;have hlt0 := Pl.fold_lt (zs.take k) r0 hr0lt (fun z hz => HZ.out z (List.mem_of_mem_take hz))
  by_cases hlt : k < zs.length
  ·have hsn := Pl.fold_snoc zs k r0 hlt;have hzk := Pl.mem_getD (k := k) HZ.out;have hck := HC.out k hlt;generalize hg : (zs.take k).foldl Pl.stepB r0 = r at *;generalize hg2 : zs.getD k 0 = z at *;rw [Pl.step_eight] at hsn;have hx0 := u32_xor_nat r z hlt0 (by omega);obtain ⟨x, hx⟩ : ∃ x, r ^^^ z = x := ⟨_, rfl⟩
   have hxl : x < 4294967296 := by rw [← hx]; exact Pl.xor_lt hlt0 (by omega)
   rw [hx] at hx0 hsn;have HS : Hid ((zs.take (k + 1)).foldl Pl.stepB r0 = Pl.bsteps 8 x) := hsn;clear hx hsn hg hg2;go_wp2
   go_loop [5, 7, 8] (fun r j _ => ∃ m : Nat, m ≤ 8 ∧ j = .int .i64 m ∧ r = .int .u32 ((Pl.bsteps m x : Nat) : Int)) (fun _ j _ => 8 - (intOf j).toNat)
   case atStart => exact ⟨0, by omega, rfl, rfl⟩
   case round =>
    obtain ⟨m, hm8, rfl, rfl⟩ := hrel;have hy := Pl.bsteps_lt m hxl
    by_cases hm : m < 8
    ·have hb : Pl.bsteps (m + 1) x = Pl.bst (Pl.bsteps m x) := rfl;have HBS : Hid (Pl.bsteps (m + 1) x = Pl.bst (Pl.bsteps m x)) := hb;clear hb;generalize hgy : Pl.bsteps m x = y at *;clear hgy;have ha := and1 y hy;have hp := poly32 (y / 2) (by omega);have hd : (y : Int) / 2 = ((y / 2 : Nat) : Int) := by omega
     by_cases hodd : y % 2 = 1
     ·have HO : Hid (Pl.bst y = (y / 2) ^^^ 2197175160) := by show Pl.bst y = _; unfold Pl.bst; rw [if_pos hodd]
      rw [hodd] at ha;clear hodd;generalize y / 2 ^^^ 2197175160 = u at *;generalize y / 2 = h at *;go_wp2
      go_round
      case rel => exact ⟨m + 1, by omega, by go_num, by rw [HBS.out, HO.out]⟩
      case measure => simp [intOf]; omega
     ·have h0 : y % 2 = 0 := by omega
      have HO : Hid (Pl.bst y = y / 2) := by show Pl.bst y = _; unfold Pl.bst; rw [if_neg hodd]
      rw [h0] at ha;clear hodd hp h0;generalize y / 2 = h at *;go_wp2
      go_round
      case rel => exact ⟨m + 1, by omega, by go_num, by rw [HBS.out, HO.out]⟩
      case measure => simp [intOf]; omega
    ·have HE : Hid (m = 8) := (by omega : m = 8)
     go_wp2
     go_round
     case rel => exact ⟨k + 1, by omega, by go_num, by rw [HS.out, HE.out]⟩
     case measure => simp [intOf]; omega
  ·obtain rfl : k = zs.length := by omega
   have hn2 := turn32 _ hlt0;rw [List.take_length] at hn2 hlt0 ⊢;have HF : Hid (Pl.more s zs = 4294967295 ^^^ zs.foldl Pl.stepB r0) := by rw [← HR.out]; rfl
   generalize zs.foldl Pl.stepB r0 = r at *;generalize 4294967295 ^^^ r = y at *;go_wp2
   go_ret
   exact ⟨by rw [HF.out]; rfl, rfl⟩
theorem refmore_none (s : Nat) (ao : Option Addr) (cap : Nat) (w : World) (hs : s < 4294967296) :
  Calls Tryz.prog 85 #[.int .u32 s, .slice ao 0 cap] w fun e w' => e = .returned (.int .u32 (Pl.more s [] : Nat)) ∧ w' = w := by
 have hn := turn32 s hs;obtain ⟨r0, hr0⟩ : ∃ r0, 4294967295 ^^^ s = r0 := ⟨_, rfl⟩
 rw [hr0] at hn;have hr0lt : r0 < 4294967296 := by rw [← hr0]; exact Pl.xor_lt (by decide) hs
 have HF : Hid (Pl.more s [] = 4294967295 ^^^ r0) := by rw [← hr0]; rfl
 have hn2 := turn32 r0 hr0lt;generalize 4294967295 ^^^ r0 = y at *;clear hr0;go_enter Tryz.func85, Tryz.ntmps85
 go_wp2
 go_loop [5, 6, 7, 8] (fun r i _ _ => i = .int .i64 0 ∧ r = .int .u32 (r0 : Nat)) (fun _ _ _ _ => 0)
 case atStart => exact ⟨rfl, rfl⟩
 case round =>
  obtain ⟨rfl, rfl⟩ := hrel;go_wp2
  go_ret
  exact ⟨by rw [HF.out]; rfl, rfl⟩
theorem refmore_any {s : Nat} {v : Value} {zs : List Nat} {w : World} (hs : s < 4294967296) (hv : Sl w v zs) :
  Calls Tryz.prog 85 #[.int .u32 s, v] w fun e w' => e = .returned (.int .u32 (Pl.more s zs : Nat)) ∧ w' = w := by
 by_cases hp : 0 < zs.length
 ·obtain ⟨b, o, cap, rfl, h1, h2, h3, h4⟩ := hv.pos hp;exact refmore_some s b o cap zs w hs h3 h1 h2 h4
 ·obtain rfl : zs = [] := List.eq_nil_of_length_eq_zero (by omega);obtain ⟨ao, cap, rfl, h1, h2, h3, h4, h5⟩ := hv;exact refmore_none s ao cap w hs
theorem refcrc_any {v : Value} {zs : List Nat} {w : World} (hv : Sl w v zs) :
  Calls Tryz.prog 43 #[v] w fun e w' => e = .returned (.int .u32 (Pl.crc zs : Nat)) ∧ w' = w := by
 have c := refmore_any (s := 0) (by decide) hv;have HC : Hid (Calls Tryz.prog 85 #[.int .u32 ((0 : Nat) : Int), v] w fun e w' => e = .returned (.int .u32 (Pl.more 0 zs : Nat)) ∧ w' = w) := c;clear c;obtain ⟨ao, cap, rfl, _⟩ := hv;go_enter Tryz.func43, Tryz.ntmps43
 go_wp2_with fail
 refine (show Calls Tryz.prog 85 #[.int .u32 0, .slice ao zs.length cap] w fun e w' => e = .returned (.int .u32 (Pl.more 0 zs : Nat)) ∧ w' = w from HC.out).mono ?_;rintro e w' ⟨rfl, rfl⟩;go_wp2
 go_ret
 exact ⟨rfl, rfl⟩
end Go.Proofs.YtmfkggngjeolcaaGreatDoor
