/- The Reader's calls and the document's: one form. Own work. -/
import Derived.Test.YtceljnkbkpgdjaaDoorRdSeal
namespace Go.Proofs.YtceljnkbkpgdjaaDoor
open Go.RowKit
set_option linter.unusedVariables false
/-- what a call on a reader leaves -/
def RdPost (w : World) (p g : Nat) (zs : List Nat) (x : Nat × Int) (w' : World) : Prop := Rd w' p g zs x.1 x.2 ∧ Keeps (fun k => k = p) w w'
theorem RdPost.same {w w' : World} {p g : Nat} {zs : List Nat} {pos : Nat} {why : Int} (h : Rd w p g zs pos why) (e : w' = w) : RdPost w p g zs (pos, why) w' := by subst e; exact ⟨h, Keeps.refl _ _⟩
theorem numA_lt {b : Nat} {zs : List Nat} {pos : Nat} {why : Int} (hz : ∀ z ∈ zs, z < 256) (hb : 0 < b) : (numA b zs pos why).1 < 256 ^ b := by
  unfold numA
  split
  · exact Nat.pow_pos (by decide)
  · split
    · exact Pl.acc_lt (drop_small hz pos) 0 b
    · exact Nat.pow_pos (by decide)
theorem prByte_any {w : World} {p g : Nat} {zs : List Nat} {pos : Nat} {why : Int} (h : Rd w p g zs pos why) :
    Calls Tryd.prog 46 #[.pointer (some ⟨p, 0, none⟩)] w fun e w' => e = .returned (.int .u8 ((numA 1 zs pos why).1 : Int)) ∧ RdPost w p g zs (numA 1 zs pos why).2 w' := by
  by_cases h0 : why = 0
  · subst h0
    by_cases hl : pos + 1 ≤ zs.length
    · rw [show numA 1 zs pos 0 = (Pl.num 1 (zs.drop pos), pos + 1, 0) by simp [numA, hl]]
      exact ru8_yes (pos := pos) h hl
    · rw [show numA 1 zs pos 0 = (0, pos, 10) by simp [numA, hl]]
      exact ru8_no (pos := pos) h (by omega)
  · rw [show numA 1 zs pos why = (0, pos, why) by simp [numA, h0]]
    exact (ru8_not h h0).mono fun e w' hx => ⟨hx.1, RdPost.same h hx.2⟩
theorem prHalf_any {w : World} {p g : Nat} {zs : List Nat} {pos : Nat} {why : Int} (h : Rd w p g zs pos why) :
    Calls Tryd.prog 48 #[.pointer (some ⟨p, 0, none⟩)] w fun e w' => e = .returned (.int .u16 ((numA 2 zs pos why).1 : Int)) ∧ RdPost w p g zs (numA 2 zs pos why).2 w' := by
  by_cases h0 : why = 0
  · subst h0
    by_cases hl : pos + 2 ≤ zs.length
    · rw [show numA 2 zs pos 0 = (Pl.num 2 (zs.drop pos), pos + 2, 0) by simp [numA, hl]]
      exact ru16_yes (pos := pos) h hl
    · rw [show numA 2 zs pos 0 = (0, pos, 10) by simp [numA, hl]]
      exact ru16_no (pos := pos) h (by omega)
  · rw [show numA 2 zs pos why = (0, pos, why) by simp [numA, h0]]
    exact (ru16_not h h0).mono fun e w' hx => ⟨hx.1, RdPost.same h hx.2⟩
theorem prWord_any {w : World} {p g : Nat} {zs : List Nat} {pos : Nat} {why : Int} (h : Rd w p g zs pos why) :
    Calls Tryd.prog 49 #[.pointer (some ⟨p, 0, none⟩)] w fun e w' => e = .returned (.int .u32 ((numA 4 zs pos why).1 : Int)) ∧ RdPost w p g zs (numA 4 zs pos why).2 w' := by
  by_cases h0 : why = 0
  · subst h0
    by_cases hl : pos + 4 ≤ zs.length
    · rw [show numA 4 zs pos 0 = (Pl.num 4 (zs.drop pos), pos + 4, 0) by simp [numA, hl]]
      exact ru32_yes (pos := pos) h hl
    · rw [show numA 4 zs pos 0 = (0, pos, 10) by simp [numA, hl]]
      exact ru32_no (pos := pos) h (by omega)
  · rw [show numA 4 zs pos why = (0, pos, why) by simp [numA, h0]]
    exact (ru32_not h h0).mono fun e w' hx => ⟨hx.1, RdPost.same h hx.2⟩
theorem prLong_any {w : World} {p g : Nat} {zs : List Nat} {pos : Nat} {why : Int} (h : Rd w p g zs pos why) :
    Calls Tryd.prog 50 #[.pointer (some ⟨p, 0, none⟩)] w fun e w' => e = .returned (.int .u64 ((numA 8 zs pos why).1 : Int)) ∧ RdPost w p g zs (numA 8 zs pos why).2 w' := by
  by_cases h0 : why = 0
  · subst h0
    by_cases hl : pos + 8 ≤ zs.length
    · rw [show numA 8 zs pos 0 = (Pl.num 8 (zs.drop pos), pos + 8, 0) by simp [numA, hl]]
      exact ru64_yes (pos := pos) h hl
    · rw [show numA 8 zs pos 0 = (0, pos, 10) by simp [numA, hl]]
      exact ru64_no (pos := pos) h (by omega)
  · rw [show numA 8 zs pos why = (0, pos, why) by simp [numA, h0]]
    exact (ru64_not h h0).mono fun e w' hx => ⟨hx.1, RdPost.same h hx.2⟩
theorem own_nil' (w : World) (base : Nat) : Own w base (.slice none 0 0) [] := own_nil w base
theorem prBytes_any {w : World} {p g : Nat} {zs : List Nat} {pos : Nat} {n why : Int} (h : Rd w p g zs pos why) (hn : n ≤ 9223372036854775807) :
    Calls Tryd.prog 51 #[.pointer (some ⟨p, 0, none⟩), .int .i64 n] w fun e w' => ∃ la ln lc, e = .returned (.slice la ln lc) ∧ Own w' w.heap.size (.slice la ln lc) (bytesA n zs pos why).1 ∧ RdPost w p g zs (bytesA n zs pos why).2 w' := by
  by_cases h0 : why = 0
  · subst h0
    by_cases h1 : n < 0
    · rw [show bytesA n zs pos 0 = ([], pos, 1) by simp [bytesA, h1]]
      exact (rbytes_bad (pos := pos) h h1).mono fun e w' hx => ⟨_, _, _, hx.1, own_nil _ _, hx.2⟩
    · obtain ⟨m, rfl⟩ := Int.eq_ofNat_of_zero_le (show 0 ≤ n by omega)
      by_cases hl : pos + m ≤ zs.length
      · rw [show bytesA (m : Int) zs pos 0 = ((zs.drop pos).take m, pos + m, 0) by simp [bytesA, hl]]
        refine (rbytes_yes h hl).mono ?_
        rintro e w' ⟨k, rfl, hk, hrow, hkp, hr, hkk⟩
        have hlen : ((zs.drop pos).take m).length = m := by rw [List.length_take, List.length_drop]; omega
        exact ⟨_, _, _, rfl, own_of_row hrow hk hlen hlen (Nat.le_refl _) (by have := h.2.2.2.2.2; unfold maxLen; omega) (by rw [List.take_take, Nat.min_self]), hr, hkk⟩
      · rw [show bytesA (m : Int) zs pos 0 = ([], pos, 10) by simp [bytesA, hl]]
        exact (rbytes_short (pos := pos) h (by omega) (by omega)).mono fun e w' hx => ⟨_, _, _, hx.1, own_nil _ _, hx.2⟩
  · rw [show bytesA n zs pos why = ([], pos, why) by simp [bytesA, h0]]
    exact (rbytes_not h h0).mono fun e w' hx => ⟨_, _, _, hx.1, own_nil _ _, RdPost.same h hx.2⟩
theorem prText_any {w : World} {p g : Nat} {zs : List Nat} {pos : Nat} {most why : Int} (h : Rd w p g zs pos why) :
    Calls Tryd.prog 53 #[.pointer (some ⟨p, 0, none⟩), .int .i64 most] w fun e w' => e = .returned (.string (textA most zs pos why).1) ∧ RdPost w p g zs (textA most zs pos why).2 w' := by
  by_cases h0 : why = 0
  · subst h0
    by_cases hl : zs.length < pos + 2
    · rw [show textA most zs pos 0 = (⟨#[]⟩, pos, 10) by simp [textA, hl]]
      exact rtext_half (pos := pos) h hl
    · obtain ⟨q, hq⟩ : ∃ q, Pl.num 2 (zs.drop pos) = q := ⟨_, rfl⟩
      by_cases hm : most < (q : Int)
      · rw [show textA most zs pos 0 = (⟨#[]⟩, pos, 3) by simp [textA, hl, hq, hm]]
        exact rtext_long (pos := pos) h (by omega) hq hm
      · by_cases he : pos + 2 + q ≤ zs.length
        · rw [show textA most zs pos 0 = (mkS ((zs.drop (pos + 2)).take q), pos + 2 + q, 0) by simp [textA, hl, hq, hm, he]]
          exact rtext_yes (pos := pos) h he hq (by omega)
        · rw [show textA most zs pos 0 = (⟨#[]⟩, pos, 10) by simp [textA, hl, hq, hm, he]]
          exact rtext_short (pos := pos) h (by omega) hq (by omega) (by omega)
  · rw [show textA most zs pos why = (⟨#[]⟩, pos, why) by simp [textA, h0]]
    exact (rtext_not h h0).mono fun e w' hx => ⟨hx.1, RdPost.same h hx.2⟩
theorem prPad_any {w : World} {p g : Nat} {zs : List Nat} {pos : Nat} {al why : Int} (h : Rd w p g zs pos why) :
    Calls Tryd.prog 55 #[.pointer (some ⟨p, 0, none⟩), .int .i64 al] w fun e w' => e = .returned (.tuple #[]) ∧ RdPost w p g zs (padA al zs pos why) w' := by
  by_cases h0 : why = 0
  · subst h0
    by_cases h1 : al < 1 ∨ 4096 < al
    · rw [show padA al zs pos 0 = (pos, 1) by simp [padA, h1]]
      exact rpad_bad (pos := pos) h h1
    · obtain ⟨m, rfl⟩ := Int.eq_ofNat_of_zero_le (show 0 ≤ al by omega)
      by_cases hl : zs.length < pos + gapN pos m
      · rw [show padA (m : Int) zs pos 0 = (pos, 10) by unfold padA; rw [if_neg (by simp), if_neg h1]; simp only [Int.toNat_natCast]; rw [if_pos hl]]
        exact rpad_short (pos := pos) h (by omega) (by omega) hl
      · by_cases hz : ∀ z ∈ (zs.drop pos).take (gapN pos m), z = 0
        · rw [show padA (m : Int) zs pos 0 = (pos + gapN pos m, 0) by unfold padA; rw [if_neg (by simp), if_neg h1]; simp only [Int.toNat_natCast]; rw [if_neg hl, if_pos hz]]
          exact rpad_yes (pos := pos) h (by omega) (by omega) (by omega) hz
        · rw [show padA (m : Int) zs pos 0 = (pos, 5) by unfold padA; rw [if_neg (by simp), if_neg h1]; simp only [Int.toNat_natCast]; rw [if_neg hl, if_neg hz]]
          exact rpad_form (pos := pos) h (by omega) (by omega) (by omega) hz
  · rw [show padA al zs pos why = (pos, why) by simp [padA, h0]]
    exact (rpad_not h h0).mono fun e w' hx => ⟨hx.1, RdPost.same h hx.2⟩
theorem prSeal_any {w : World} {p g : Nat} {zs : List Nat} {pos : Nat} {fr why : Int} (ht : Tab w) (h : Rd w p g zs pos why) :
    Calls Tryd.prog 57 #[.pointer (some ⟨p, 0, none⟩), .int .i64 fr] w fun e w' => e = .returned (.tuple #[]) ∧ RdPost w p g zs (sealA fr zs pos why) w' := by
  by_cases h0 : why = 0
  · subst h0
    by_cases h1 : fr < 0 ∨ (pos : Int) < fr
    · rw [show sealA fr zs pos 0 = (pos, 1) by simp [sealA, h1]]
      exact rseal_bad (pos := pos) h h1
    · obtain ⟨m, rfl⟩ := Int.eq_ofNat_of_zero_le (show 0 ≤ fr by omega)
      by_cases hl : zs.length < pos + 4
      · rw [show sealA (m : Int) zs pos 0 = (pos, 10) by unfold sealA; rw [if_neg (by simp), if_neg h1, if_pos hl]]
        exact rseal_short (pos := pos) h (by omega) hl
      · by_cases hz : Pl.num 4 (zs.drop pos) = Pl.crc ((zs.drop m).take (pos - m))
        · rw [show sealA (m : Int) zs pos 0 = (pos + 4, 0) by unfold sealA; rw [if_neg (by simp), if_neg h1, if_neg hl]; simp only [Int.toNat_natCast]; rw [if_pos hz]]
          exact rseal_yes (pos := pos) ht h (by omega) (by omega) hz
        · rw [show sealA (m : Int) zs pos 0 = (pos, 11) by unfold sealA; rw [if_neg (by simp), if_neg h1, if_neg hl]; simp only [Int.toNat_natCast]; rw [if_neg hz]]
          exact rseal_sum (pos := pos) ht h (by omega) (by omega) hz
  · rw [show sealA fr zs pos why = (pos, why) by simp [sealA, h0]]
    exact (rseal_not h h0).mono fun e w' hx => ⟨hx.1, RdPost.same h hx.2⟩
theorem prEnd_any {w : World} {p g : Nat} {zs : List Nat} {pos : Nat} {why : Int} (h : Rd w p g zs pos why) :
    Calls Tryd.prog 29 #[.pointer (some ⟨p, 0, none⟩)] w fun e w' => e = .returned (.int .i64 (endA zs pos why)) ∧ Stay w w' := by
  by_cases h0 : why = 0
  · subst h0
    by_cases hl : pos < zs.length
    · rw [show endA zs pos 0 = 12 by simp [endA, hl]]
      exact end_some (pos := pos) h hl
    · rw [show endA zs pos 0 = 0 by simp [endA, hl]]
      exact end_none (pos := pos) h (by have := h.2.2.2.1; omega)
  · rw [show endA zs pos why = why by simp [endA, h0]]
    exact end_not h h0
end Go.Proofs.YtceljnkbkpgdjaaDoor
