import Derived.Test.YtmfkggngjeolcaaGreatDoorPk00
import Derived.Test.YtmfkggngjeolcaaGreatDoorPk01
import Derived.Test.YtmfkggngjeolcaaGreatDoorPk06
/- The check sum bit by bit is the check sum by fours: plain mathematics. -/
namespace Go.Proofs.YtmfkggngjeolcaaGreatDoor
namespace Pl
/-- one bit goes out -/
def bst (r : Nat) : Nat := if r % 2 = 1 then (r / 2) ^^^ 2197175160 else r / 2
def bsteps : Nat → Nat → Nat
  | 0, r => r
  | k + 1, r => bst (bsteps k r)
theorem xor_half (a b : Nat) : (a ^^^ b) / 2 = a / 2 ^^^ b / 2 := by
  have h := Nat.shiftRight_xor_distrib (a := a) (b := b) (i := 1)
  simpa [Nat.shiftRight_eq_div_pow] using h
theorem bst_xor (a b : Nat) : bst (a ^^^ b) = bst a ^^^ bst b := by
  have ha := Nat.mod_two_eq_one_iff_testBit_zero (x := a)
  have hb := Nat.mod_two_eq_one_iff_testBit_zero (x := b)
  have hab := Nat.mod_two_eq_one_iff_testBit_zero (x := a ^^^ b)
  rw [Nat.testBit_xor] at hab
  simp only [bst, xor_half, hab, ha, hb]
  cases a.testBit 0 <;> cases b.testBit 0
  · rfl
  · exact Nat.xor_assoc _ _ _
  · exact (Nat.xor_assoc _ _ _).trans ((congrArg _ (Nat.xor_comm _ _)).trans (Nat.xor_assoc _ _ _).symm)
  · show a / 2 ^^^ b / 2 = (a / 2 ^^^ 2197175160) ^^^ (b / 2 ^^^ 2197175160)
    rw [Nat.xor_comm (b / 2), Nat.xor_assoc, ← Nat.xor_assoc 2197175160, Nat.xor_self, Nat.zero_xor]
theorem bst_two (y : Nat) : bst (2 * y) = y := by
  simp [bst]
theorem bsteps_xor (k a b : Nat) : bsteps k (a ^^^ b) = bsteps k a ^^^ bsteps k b := by
  induction k with
  | zero => rfl
  | succ k ih => simp only [bsteps, ih, bst_xor]
theorem bsteps_four (q : Nat) : bsteps 4 (16 * q) = q := by
  simp only [bsteps]
  rw [show 16 * q = 2 * (2 * (2 * (2 * q))) from by omega, bst_two, bst_two, bst_two, bst_two]
theorem split16 (x : Nat) : x = (16 * (x / 16)) ^^^ (x % 16) := by
  have h1 : 16 * (x / 16) ||| x % 16 = 16 * (x / 16) + x % 16 := nat_join 4 _ _ (by simp) (Nat.mod_lt _ (by decide))
  have h2 : 16 * (x / 16) ^^^ x % 16 = 16 * (x / 16) ||| x % 16 := by
    apply Nat.eq_of_testBit_eq
    intro i
    rw [Nat.testBit_xor, Nat.testBit_or]
    have e1 : (x % 16).testBit i = (decide (i < 4) && x.testBit i) := Nat.testBit_mod_two_pow x 4 i
    have e2 : (16 * (x / 16)).testBit i = (decide (4 ≤ i) && (x / 16).testBit (i - 4)) := Nat.testBit_two_pow_mul (i := 4)
    rw [e1, e2]
    by_cases h : i < 4
    · simp [h, Nat.not_le.2 h]
    · simp [h]
  rw [h2, h1]
  omega
theorem nib_small : ∀ t : Fin 16, bsteps 4 t.val = tab.getD t.val 0 := by decide
theorem bsteps_nib (x : Nat) : bsteps 4 x = nib x := by
  conv => lhs; rw [split16 x]
  rw [bsteps_xor, bsteps_four, nib_small ⟨x % 16, Nat.mod_lt _ (by decide)⟩]
  rfl
theorem bsteps_eight (x : Nat) : bsteps 8 x = nib (nib x) := by
  rw [← bsteps_nib x, ← bsteps_nib (bsteps 4 x)]; rfl
theorem step_eight (r z : Nat) : stepB r z = bsteps 8 (r ^^^ z) := by rw [bsteps_eight]; rfl
theorem bst_lt {r : Nat} (h : r < 4294967296) : bst r < 4294967296 := by
  unfold bst
  split
  · exact xor_lt (by omega) (by decide)
  · omega
theorem bsteps_lt (k : Nat) {r : Nat} (h : r < 4294967296) : bsteps k r < 4294967296 := by
  induction k with
  | zero => exact h
  | succ k ih => exact bst_lt ih
end Pl
end Go.Proofs.YtmfkggngjeolcaaGreatDoor
/- The document's own check sum, bit by bit: it answers Pl.more. -/
namespace Go.Proofs.YtmfkggngjeolcaaGreatDoor
open Go.RowKit
theorem and1 (x : Nat) (h : x < 4294967296) : bits .and .u32 (x : Int) 1 = ((x % 2 : Nat) : Int) := by
  have := u32_and_nat x 1 h (by decide)
  rw [nat_mask1] at this
  exact this
theorem turn32 (r : Nat) (h : r < 4294967296) : bits .xor .u32 (r : Int) 4294967295 = ((4294967295 ^^^ r : Nat) : Int) := by
  rw [Nat.xor_comm]
  exact u32_xor_nat r 4294967295 h (by decide)
theorem poly32 (r : Nat) (h : r < 4294967296) : bits .xor .u32 (r : Int) 2197175160 = ((r ^^^ 2197175160 : Nat) : Int) :=
  u32_xor_nat r 2197175160 h (by decide)
set_option maxRecDepth 100000 in
set_option maxHeartbeats 1000000 in
theorem refmore_some (s : Nat) (b o cap : Nat) (zs : List Nat) (w : World) (hs : s < 4294967296) (hz : ∀ z ∈ zs, z < 256) (hc : zs.length ≤ cap) (hm : cap ≤ maxLen)
    (hcell : ∀ i, i < zs.length → w.cell? ⟨b, o + i, none⟩ = some (.int .u8 (zs.getD i 0 : Nat))) :
    Calls Tryz.prog 85 #[.int .u32 s, .slice (some ⟨b, o, none⟩) zs.length cap] w fun e w' => e = .returned (.int .u32 (Pl.more s zs : Nat)) ∧ w' = w := by
  unfold maxLen at hm
  have hn := turn32 s hs
  obtain ⟨r0, hr0⟩ : ∃ r0, 4294967295 ^^^ s = r0 := ⟨_, rfl⟩
  rw [hr0] at hn
  have hr0lt : r0 < 4294967296 := by rw [← hr0]; exact Pl.xor_lt (by decide) hs
  have HR : Hid (4294967295 ^^^ s = r0) := hr0
  have HC : Hid (∀ i, i < zs.length → w.cell? ⟨b, o + i, none⟩ = some (.int .u8 (zs.getD i 0 : Nat))) := hcell
  have HZ : Hid (∀ z ∈ zs, z < 256) := hz
  clear hr0 hcell hz
  go_enter Tryz.func85, Tryz.ntmps85
  go_wp2
  go_loop [5, 6, 7, 8] (fun r i _ _ => ∃ k : Nat, k ≤ zs.length ∧ i = .int .i64 k ∧ r = .int .u32 (((zs.take k).foldl Pl.stepB r0 : Nat) : Int)) (fun _ i _ _ => zs.length - (intOf i).toNat)
  case atStart => exact ⟨0, Nat.zero_le _, rfl, rfl⟩
  case round =>
    obtain ⟨k, hk, rfl, rfl⟩ := hrel
    have hlt0 := Pl.fold_lt (zs.take k) r0 hr0lt (fun z hz => HZ.out z (List.mem_of_mem_take hz))
    by_cases hlt : k < zs.length
    · have hsn := Pl.fold_snoc zs k r0 hlt
      have hzk := Pl.mem_getD (k := k) HZ.out
      have hck := HC.out k hlt
      generalize hg : (zs.take k).foldl Pl.stepB r0 = r at *
      generalize hg2 : zs.getD k 0 = z at *
      rw [Pl.step_eight] at hsn
      have hx0 := u32_xor_nat r z hlt0 (by omega)
      obtain ⟨x, hx⟩ : ∃ x, r ^^^ z = x := ⟨_, rfl⟩
      have hxl : x < 4294967296 := by rw [← hx]; exact Pl.xor_lt hlt0 (by omega)
      rw [hx] at hx0 hsn
      have HS : Hid ((zs.take (k + 1)).foldl Pl.stepB r0 = Pl.bsteps 8 x) := hsn
      clear hx hsn hg hg2
      go_wp2
      go_loop [5, 7, 8] (fun r j _ => ∃ m : Nat, m ≤ 8 ∧ j = .int .i64 m ∧ r = .int .u32 ((Pl.bsteps m x : Nat) : Int)) (fun _ j _ => 8 - (intOf j).toNat)
      case atStart => exact ⟨0, by omega, rfl, rfl⟩
      case round =>
        obtain ⟨m, hm8, rfl, rfl⟩ := hrel
        have hy := Pl.bsteps_lt m hxl
        by_cases hm : m < 8
        · have hb : Pl.bsteps (m + 1) x = Pl.bst (Pl.bsteps m x) := rfl
          have HBS : Hid (Pl.bsteps (m + 1) x = Pl.bst (Pl.bsteps m x)) := hb
          clear hb
          generalize hgy : Pl.bsteps m x = y at *
          clear hgy
          have ha := and1 y hy
          have hp := poly32 (y / 2) (by omega)
          have hd : (y : Int) / 2 = ((y / 2 : Nat) : Int) := by omega
          by_cases hodd : y % 2 = 1
          · have HO : Hid (Pl.bst y = (y / 2) ^^^ 2197175160) := by show Pl.bst y = _; unfold Pl.bst; rw [if_pos hodd]
            rw [hodd] at ha
            clear hodd
            generalize y / 2 ^^^ 2197175160 = u at *
            generalize y / 2 = h at *
            go_wp2
            go_round
            case rel => exact ⟨m + 1, by omega, by go_num, by rw [HBS.out, HO.out]⟩
            case measure => simp [intOf]; omega
          · have h0 : y % 2 = 0 := by omega
            have HO : Hid (Pl.bst y = y / 2) := by show Pl.bst y = _; unfold Pl.bst; rw [if_neg hodd]
            rw [h0] at ha
            clear hodd hp h0
            generalize y / 2 = h at *
            go_wp2
            go_round
            case rel => exact ⟨m + 1, by omega, by go_num, by rw [HBS.out, HO.out]⟩
            case measure => simp [intOf]; omega
        · have HE : Hid (m = 8) := (by omega : m = 8)
          go_wp2
          go_round
          case rel => exact ⟨k + 1, by omega, by go_num, by rw [HS.out, HE.out]⟩
          case measure => simp [intOf]; omega
    · obtain rfl : k = zs.length := by omega
      have hn2 := turn32 _ hlt0
      rw [List.take_length] at hn2 hlt0 ⊢
      have HF : Hid (Pl.more s zs = 4294967295 ^^^ zs.foldl Pl.stepB r0) := by rw [← HR.out]; rfl
      generalize zs.foldl Pl.stepB r0 = r at *
      generalize 4294967295 ^^^ r = y at *
      go_wp2
      go_ret
      exact ⟨by rw [HF.out]; rfl, rfl⟩
set_option maxHeartbeats 1000000 in
theorem refmore_none (s : Nat) (ao : Option Addr) (cap : Nat) (w : World) (hs : s < 4294967296) :
    Calls Tryz.prog 85 #[.int .u32 s, .slice ao 0 cap] w fun e w' => e = .returned (.int .u32 (Pl.more s [] : Nat)) ∧ w' = w := by
  have hn := turn32 s hs
  obtain ⟨r0, hr0⟩ : ∃ r0, 4294967295 ^^^ s = r0 := ⟨_, rfl⟩
  rw [hr0] at hn
  have hr0lt : r0 < 4294967296 := by rw [← hr0]; exact Pl.xor_lt (by decide) hs
  have HF : Hid (Pl.more s [] = 4294967295 ^^^ r0) := by rw [← hr0]; rfl
  have hn2 := turn32 r0 hr0lt
  generalize 4294967295 ^^^ r0 = y at *
  clear hr0
  go_enter Tryz.func85, Tryz.ntmps85
  go_wp2
  go_loop [5, 6, 7, 8] (fun r i _ _ => i = .int .i64 0 ∧ r = .int .u32 (r0 : Nat)) (fun _ _ _ _ => 0)
  case atStart => exact ⟨rfl, rfl⟩
  case round =>
    obtain ⟨rfl, rfl⟩ := hrel
    go_wp2
    go_ret
    exact ⟨by rw [HF.out]; rfl, rfl⟩
theorem refmore_any {s : Nat} {v : Value} {zs : List Nat} {w : World} (hs : s < 4294967296) (hv : Sl w v zs) :
    Calls Tryz.prog 85 #[.int .u32 s, v] w fun e w' => e = .returned (.int .u32 (Pl.more s zs : Nat)) ∧ w' = w := by
  by_cases hp : 0 < zs.length
  · obtain ⟨b, o, cap, rfl, h1, h2, h3, h4⟩ := hv.pos hp
    exact refmore_some s b o cap zs w hs h3 h1 h2 h4
  · obtain rfl : zs = [] := List.eq_nil_of_length_eq_zero (by omega)
    obtain ⟨ao, cap, rfl, h1, h2, h3, h4, h5⟩ := hv
    exact refmore_none s ao cap w hs
set_option maxHeartbeats 400000 in
theorem refcrc_any {v : Value} {zs : List Nat} {w : World} (hv : Sl w v zs) :
    Calls Tryz.prog 43 #[v] w fun e w' => e = .returned (.int .u32 (Pl.crc zs : Nat)) ∧ w' = w := by
  have c := refmore_any (s := 0) (by decide) hv
  have HC : Hid (Calls Tryz.prog 85 #[.int .u32 ((0 : Nat) : Int), v] w fun e w' => e = .returned (.int .u32 (Pl.more 0 zs : Nat)) ∧ w' = w) := c
  clear c
  obtain ⟨ao, cap, rfl, _⟩ := hv
  go_enter Tryz.func43, Tryz.ntmps43
  go_wp2_with fail
  refine (show Calls Tryz.prog 85 #[.int .u32 0, .slice ao zs.length cap] w fun e w' => e = .returned (.int .u32 (Pl.more 0 zs : Nat)) ∧ w' = w from HC.out).mono ?_
  rintro e w' ⟨rfl, rfl⟩
  go_wp2
  go_ret
  exact ⟨rfl, rfl⟩
end Go.Proofs.YtmfkggngjeolcaaGreatDoor
/- Bundle, the document's own Encode: what is laid, where it stands. Own work. -/
namespace Go.Proofs.YtmfkggngjeolcaaGreatDoor
open Go.RowKit Bn
set_option linter.unusedVariables false
set_option linter.unusedSimpArgs false
namespace Ek
def fitD (sz : Nat) (k : Int) : Bool := decide (0 ≤ k) && decide (k ≤ (gN sz : Int))
def mD (sz : Nat) (k : Int) : Nat := if fitD sz k = true then k.toNat else 0
def numD (sz : Nat) (k : Int) (s : S) : S := (s.1 ++ Pl.le sz (mD sz k), fieldF s.2 (fitD sz k))
def noneD (k : Int) (s : S) : S := numD 2 (if k = -1 then 65535 else if 65534 < k then -1 else k) s
def flagD (b : Bool) (s : S) : S := numD 1 (if b = true then 1 else 0) s
def manyD (n : Nat) (s : S) : S := zerosS 6 (numD 2 (n : Int) s)
end Ek
open Ek
/-- what laying may write: blocks of this kind and rows of bytes, from B on -/
def FkS (B : Nat) (w : World) (k : Nat) : Prop := B ≤ k ∧ (Tagd w 101 k ∨ Tagd w 5 k)
def Fk (B : Nat) (w w' : World) : Prop := Keeps (FkS B w) w w'
theorem Fk.refl (B : Nat) (w : World) : Fk B w w := Keeps.refl _ _
theorem Fk.trans {B : Nat} {a b c : World} (h : Fk B a b) (k : Fk B b c) : Fk B a c := by
  refine ⟨k.os.trans h.os, k.tape.trans h.tape, k.output.trans h.output, Nat.le_trans h.size k.size, fun i hi hn => ?_⟩
  have e := h.block i hi hn
  refine (k.block i (Nat.lt_of_lt_of_le hi h.size) (fun hs => hn ?_)).trans e
  obtain ⟨h0, hs⟩ := hs
  have tg : ∀ t, Tagd b t i → Tagd a t i := fun t ⟨cur, hc⟩ => ⟨cur, e.symm.trans hc⟩
  exact ⟨h0, hs.imp (tg _) (tg _)⟩
theorem Fk.of_below {B : Nat} {w w' : World} (h : Below w.heap.size w w') : Fk B w w' := Keeps.of_below h
theorem Fk.below {B : Nat} {w w' : World} (h : Fk B w w') (hB : B ≤ w.heap.size) : Below B w w' := Keeps.below h hB (fun k hk e => e.1)
theorem Fk.block' {B : Nat} {w w' : World} (h : Fk B w w') {t : TypeId} {g : Nat} (hg : Tagd w t g) (hl : g < w.heap.size) (h1 : t ≠ 101) (h2 : t ≠ 5) : w'.heap[g]? = w.heap[g]? := Keeps.block h g hl (by
  rintro ⟨_, e | e⟩
  · exact h1 (tag_same hg e)
  · exact h2 (tag_same hg e))
/-- what is laid, in block kb: its bytes in a row of their own, and the refusal -/
structure Lv (B kb : Nat) (w0 : World) (v : Value) (s : S) (w : World) : Prop where
  blk : w.heap[kb]? = some (.cells #[v, .int .i64 s.2] 101 (0, 0))
  own : Own w B v s.1
  ne : v.ownBlock ≠ some kb
  sm : ∀ z ∈ s.1, z < 256
  no : s.2 = 0 ∨ s.2 = 132
  hB : B ≤ kb
  hw : B ≤ w0.heap.size
  fr : Fk B w0 w
def Ld (B kb : Nat) (w0 : World) (s : S) (w : World) : Prop := ∃ v, Lv B kb w0 v s w
section
variable {B kb : Nat} {w0 : World} {v : Value} {s : S} {w : World}
theorem Lv.lt (h : Lv B kb w0 v s w) : kb < w.heap.size := (Array.getElem?_eq_some_iff.1 h.blk).1
theorem Lv.le (h : Lv B kb w0 v s w) : B ≤ w.heap.size := by have := h.lt; have := h.hB; omega
theorem Ld.le (h : Ld B kb w0 s w) : B ≤ w.heap.size := by obtain ⟨v, h⟩ := h; exact h.le
theorem Ld.fr (h : Ld B kb w0 s w) : Fk B w0 w := by obtain ⟨v, h⟩ := h; exact Lv.fr h
theorem Lv.bl (h : Lv B kb w0 v s w) : Below B w0 w := h.fr.below h.hw
theorem Ld.bl (h : Ld B kb w0 s w) : Below B w0 w := by obtain ⟨v, h⟩ := h; exact Lv.bl h
theorem own_tag {xs : List Nat} (h : Own w B v xs) : ∀ k, v.ownBlock = some k → B ≤ k ∧ Tagd w 5 k := by
  rcases h.2 with ⟨rfl, h0⟩ | ⟨g, cap, cur, rfl, hb, hg, _⟩
  · intro k e; cases e
  · intro k e; cases e; exact ⟨hb, cur, hg⟩
theorem Lv.cell0 (h : Lv B kb w0 v s w) : w.cell? ⟨kb, 0, none⟩ = some v := by rw [cell_of_row _ _ 0 _ _ _ h.blk]; rfl
theorem Lv.cell1 (h : Lv B kb w0 v s w) : w.cell? ⟨kb, 1, none⟩ = some (.int .i64 s.2) := by rw [cell_of_row _ _ 1 _ _ _ h.blk]; rfl
theorem Lv.free (h : Lv B kb w0 v s w) (i : Nat) : w.frozen? ⟨kb, i, none⟩ = false := by simp [World.frozen?, h.blk]
theorem Lv.below {w' : World} (h : Lv B kb w0 v s w) (hb : Below w.heap.size w w') : Lv B kb w0 v s w' :=
  ⟨(hb.block kb h.lt).trans h.blk, h.own.below hb, h.ne, h.sm, h.no, h.hB, h.hw, h.fr.trans (Fk.of_below hb)⟩
theorem Ld.below {w' : World} (h : Ld B kb w0 s w) (hb : Below w.heap.size w w') : Ld B kb w0 s w' := by
  obtain ⟨v, h⟩ := h
  exact ⟨v, Lv.below h hb⟩
theorem Lv.here (h : Lv B kb w0 v s w) : Lv B kb w v s w := ⟨h.blk, h.own, h.ne, h.sm, h.no, h.hB, h.le, Fk.refl _ _⟩
theorem Lv.since {w1 : World} (h : Lv B kb w v s w1) (k : Fk B w0 w) (hw : B ≤ w0.heap.size) : Lv B kb w0 v s w1 := ⟨h.blk, h.own, h.ne, h.sm, h.no, h.hB, hw, k.trans h.fr⟩
theorem Lv.refuse (h : Lv B kb w0 v s w) : Lv B kb w0 v (s.1, 132) (w.setCell ⟨kb, 1, none⟩ (.int .i64 132)) := by
  refine ⟨?_, ?_, h.ne, h.sm, .inr rfl, h.hB, h.hw, h.fr.trans (Keeps.mono (Keeps.setCell w kb 1 _) (fun k _ e => by subst e; exact ⟨h.hB, .inl ⟨_, h.blk⟩⟩))⟩
  · simp only [World.setCell, Array.getElem?_modify]
    rw [if_pos trivial, h.blk]
    simp
  · exact h.own.keeps (Keeps.setCell w kb 1 _) (fun k hk e => h.ne (by rw [hk, e]))
theorem Lv.after {w1 : World} (h : Lv B kb w0 v s w) (hg : w.grownBy w1 v.ownBlock) : w1.heap[kb]? = some (.cells #[v, .int .i64 s.2] 101 (0, 0)) :=
  (hg.block kb h.lt (fun e => h.ne e.symm)).trans h.blk
theorem lcell0_of {w : World} {p : Nat} {v : Value} {why : Int} (h : w.heap[p]? = some (.cells #[v, .int .i64 why] 101 (0, 0))) : w.cell? ⟨p, 0, none⟩ = some v := by rw [cell_of_row w p 0 _ _ _ h]; rfl
theorem lfree_of {w : World} {p : Nat} {v : Value} {why : Int} (h : w.heap[p]? = some (.cells #[v, .int .i64 why] 101 (0, 0))) : w.frozen? ⟨p, 0, none⟩ = false := by simp [World.frozen?, h]
theorem Lv.stored {w1 : World} {v' : Value} {ys : List Nat} (h : Lv B kb w0 v s w) (ho : Own w1 B v' (s.1 ++ ys)) (hg : w.grownBy w1 v.ownBlock) (ha : v'.ownBlock = v.ownBlock ∨ v'.ownBlock = some w.heap.size) (hy : ∀ z ∈ ys, z < 256) : Ld B kb w0 (s.1 ++ ys, s.2) (w1.setCell ⟨kb, 0, none⟩ v') := by
  have hne : v'.ownBlock ≠ some kb := by
    rcases ha with e | e
    · rw [e]; exact h.ne
    · rw [e]
      intro e2
      have := h.lt
      simp only [Option.some.injEq] at e2
      omega
  refine ⟨v', ?_, ?_, hne, fun z hz => (List.mem_append.1 hz).elim (h.sm z) (hy z), h.no, h.hB, h.hw, (h.fr.trans (Keeps.mono (Keeps.of_grown hg) (fun k _ e => ⟨(own_tag h.own k e).1, .inr (own_tag h.own k e).2⟩))).trans (Keeps.mono (Keeps.setCell w1 kb 0 _) (fun k _ e => by subst e; exact ⟨h.hB, .inl ⟨_, h.after hg⟩⟩))⟩
  · simp only [World.setCell, Array.getElem?_modify]
    rw [if_pos trivial, h.after hg]
    simp
  · exact ho.keeps (Keeps.setCell w1 kb 0 _) (fun k hk e => hne (by rw [hk, e]))
end
/-- append(dst, make([]byte, n)...) -/
theorem wpList_append_z {w : World} {ops : Array Oper} {rest : List Oper} {o : Oper} {a : Act} {Q : Exit → Act → World → Prop} (s x : Operand) (hw : Region.wanted o (yielded ops a.tmps) = true)
    (ho : o.op = .call { callee := .builtin .append, args := #[s, x], argTypes := #[43, 3] })
    {base n : Nat} {v : Value} {xs : List Nat} (hs : a.eval s = v) (hown : Own w base v xs) (hx : a.eval x = .int .i64 (n : Int)) (hb : xs.length + n ≤ 1099511627776) (hbase : base ≤ w.heap.size)
    (h : ∀ v' w', Own w' base v' (xs ++ List.replicate n 0) → w.grownBy w' v.ownBlock → (v'.ownBlock = v.ownBlock ∨ v'.ownBlock = some w.heap.size) → wpList Tryz.prog ops Q rest (a.put o.dst v') w') : wpList Tryz.prog ops Q (o :: rest) a w := by
  refine wpList_step fun K hK => ?_
  rw [if_pos hw]
  obtain ⟨v', w', hr, h2, h3, h4⟩ := run_append_zeros o.type hown hb hbase
  unfold Oper.wp execOp
  simp only [ho, resolve, invoke, builtin, Sem.run_bind, Sem.run_pure, Result.andThen_ok, List.map_toArray, List.map_cons, List.map_nil, hs, hx, hr]
  exact hK _ _ (h v' w' h2 h3 h4)
theorem own_slice {w : World} {B : Nat} {v : Value} {xs : List Nat} (h : Own w B v xs) : ∃ a c, v = .slice a xs.length c := by
  rcases h.2 with ⟨rfl, h0⟩ | ⟨g, c, _, e, _⟩
  · exact ⟨none, 0, by rw [h0]⟩
  · exact ⟨_, _, e⟩
theorem step_append_sl {w : World} {ops : Array Oper} {o : Oper} {a : Act} {K : Act → World → Prop} {Q : Exit → Act → World → Prop} {E : Prop} (hw : Region.wanted o (yielded ops a.tmps) = true) (s x : Operand)
    (ho : o.op = .call { callee := .builtin .append, args := #[s, x], argTypes := #[43, 43] })
    {base : Nat} {v u : Value} {xs ys : List Nat} (hs : a.eval s = v) (hown : Own w base v xs) (hx : a.eval x = u) (hsl : Sl w u ys) (hb : xs.length + ys.length ≤ 1099511627776) (hbase : base ≤ w.heap.size)
    (h : ∀ v' w', Own w' base v' (xs ++ ys) → w.grownBy w' v.ownBlock → (v'.ownBlock = v.ownBlock ∨ v'.ownBlock = some w.heap.size) → K (a.put o.dst v') w') : if Region.wanted o (yielded ops a.tmps) = true then Oper.wp Tryz.prog o a w K Q else E := by
  rw [if_pos hw]
  obtain ⟨v', w', hr, h2, h3, h4⟩ := run_append_sl o.type hown hsl hb hbase
  unfold Oper.wp execOp
  simp only [ho, resolve, invoke, builtin, Sem.run_bind, Sem.run_pure, Result.andThen_ok, List.map_toArray, List.map_cons, List.map_nil, hs, hx, hr]
  exact h v' w' h2 h3 h4
/-- a call of a Go function that answers one value, as one step of a region that draws -/
theorem step_callQ {P : Program} {ops : Array Oper} {o : Oper} {a : Act} {w : World} {K : Act → World → Prop} {Q : Exit → Act → World → Prop} {E : Prop} (hw : Region.wanted o (yielded ops a.tmps) = true)
    (f : FuncId) (xs : Array Operand) (ats : Array TypeId) (ho : o.op = .call { callee := .value (.func f), args := xs, argTypes := ats }) (he : Enters P f) (args : Array Value) (hargs : #[] ++ xs.map a.eval ++ #[] = args) {R : Value → World → Prop}
    (hc : Calls P f args w fun e w' => ∃ v, e = .returned v ∧ R v w') (hK : ∀ v w', R v w' → K (a.put o.dst v) w') :
    if Region.wanted o (yielded ops a.tmps) = true then Oper.wp P o a w K Q else E := by
  rw [if_pos hw]
  have e1 : execOp a.eval o = callFunc f args := by
    cases o
    simp only at ho
    subst ho
    rw [← hargs]
    rfl
  unfold Oper.wp
  rw [e1, he args w]
  rw [Oper.upon_enter]
  refine hc.mono ?_
  rintro e w' ⟨v, rfl, hr⟩
  exact hK v w' hr
section
variable {B kb : Nat} {w0 : World} {s : S} {w : World}
set_option maxRecDepth 100000 in
set_option maxHeartbeats 4000000 in
theorem kzerosX (h : Ld B kb w0 s w) {c : Nat} (hl : s.1.length + c ≤ 1099511627776) : Calls Tryz.prog 41 #[.pointer (some ⟨kb, 0, none⟩), .int .i64 (c : Int)] w fun e w' => e = .returned (.tuple #[]) ∧ Ld B kb w0 (zerosS c s) w' := by
  obtain ⟨v, h⟩ := h
  have c0 := h.cell0
  have f0 := h.free 0
  have HL : Hid (s.1.length + c ≤ 1099511627776) := hl
  have HW : Hid (Lv B kb w0 v s w) := h
  obtain ⟨ao, cap, rfl⟩ := own_slice h.own
  clear h hl
  obtain ⟨N, hN⟩ : ∃ N, s.1.length = N := ⟨_, rfl⟩
  rw [hN] at c0 HW HL
  have HN := Lib.hid hN
  clear hN
  go_enter Tryz.func41, Tryz.ntmps41
  go_wp2_with (at_builtin; refine wpList_append_z (v := .slice ao N cap) (.tmp 8) (.tmp 9) (by rfl) rfl rfl HW.out.own rfl (by rw [HN.out]; exact HL.out) HW.out.le ?_; intro v1 w1 ho hg hat; have hc1 := lcell0_of (HW.out.after hg); have ht1 := lfree_of (HW.out.after hg); obtain ⟨a1, m1, c1, hv1⟩ : ∃ a m c, v1 = .slice a m c := (by obtain ⟨a, c, e⟩ := own_slice ho; exact ⟨a, _, c, e⟩); subst hv1; have HF := Lib.hid (HW.out.stored ho hg hat (fun z hz => by rw [List.eq_of_mem_replicate hz]; decide)); clear ho hg hat)
  go_end0
  exact ⟨rfl, HF.out⟩
set_option maxRecDepth 100000 in
set_option maxHeartbeats 4000000 in
theorem klongX (h : Ld B kb w0 s w) {m : Nat} (hm : m ≤ 18446744073709551615) (hl : s.1.length ≤ 549755813888) : Calls Tryz.prog 40 #[.pointer (some ⟨kb, 0, none⟩), .int .u64 (m : Int)] w fun e w' => e = .returned (.tuple #[]) ∧ Ld B kb w0 (longS m s) w' := by
  obtain ⟨v, h⟩ := h
  have c0 := h.cell0
  have f0 := h.free 0
  have HL : Hid (s.1.length ≤ 549755813888) := hl
  have HW : Hid (Lv B kb w0 v s w) := h
  have HWd : Hid (Lv B kb w0 v s w.drew) := h.below ⟨rfl, rfl, rfl, Nat.le_refl _, fun _ _ => rfl⟩
  have HC : Hid (∀ W, Calls Tryz.prog 42 #[.int .u64 (m : Int), .int .i64 8] W fun e w' => ∃ v, e = .returned v ∧ (Own w' W.heap.size v (Pl.le 8 m) ∧ Below W.heap.size W w')) := fun W => rBytes_any (s := 8) (by decide) hm W
  have HE : Hid (Enters Tryz.prog 42) := enters_of Tryz.func42 (by kernel_rfl) rfl
  have HLe : Hid ((Pl.le 8 m).length = 8) := Pl.le_length 8 m
  clear h hm hl
  go_enter Tryz.func40, Tryz.ntmps40
  go_wp2_with fail
  go_region_law (first
    | (refine step_callQ rfl 42 #[.tmp 9, .const (.int .i64 8)] #[22, 3] rfl HE.out #[.int .u64 (m : Int), .int .i64 8] (by first | (simp [Act.eval]; done) | simp [Act.eval, Act.put]) (HC.out _) ?_; intro u w1 hR; have HW1 : Hid (Lv B kb w0 v s w1) := HWd.out.below hR.2; have c01 := HW1.out.cell0; have HSl : Hid (Sl w1 u (Pl.le 8 m)) := hR.1.sl (Pl.le_small _ _); clear hR)
    | (refine step_append_sl (v := v) rfl (.tmp 8) (.tmp 10) rfl rfl HW1.out.own rfl HSl.out (by rw [HLe.out]; have := HL.out; omega) HW1.out.le ?_; intro v2 w2 h2 g2 l2; have hc2 := lcell0_of (HW1.out.after g2); have ht2 := lfree_of (HW1.out.after g2); obtain ⟨ao, n2, c, hv2⟩ : ∃ a m c, v2 = .slice a m c := (by obtain ⟨a, c, e⟩ := own_slice h2; exact ⟨a, _, c, e⟩); subst hv2; have HF := Lib.hid (HW1.out.stored h2 g2 l2 (Pl.le_small _ _)); clear h2 g2 l2))
  all_goals
    go_wp2
    go_end0
    exact ⟨rfl, HF.out⟩
end
end Go.Proofs.YtmfkggngjeolcaaGreatDoor
