import Derived.Test.YtnifefmfhjfbnaaGreatDoorPk43
import Derived.Test.YtnifefmfhjfbnaaGreatDoorPk00
/- Bundle: what is laid down is read back, all of it. Plain. Own work. -/
namespace Go.Proofs.YtnifefmfhjfbnaaGreatDoor
open Bn Dc
set_option linter.unusedVariables false
set_option linter.unusedSimpArgs false
namespace Dc
/-- bytes are bytes -/
def Sm (l : List Nat) : Prop := ∀ z ∈ l, z < 256
theorem Sm.app {a b : List Nat} (h : Sm a) (k : Sm b) : Sm (a ++ b) := fun z hz => (List.mem_append.1 hz).elim (h z) (k z)
theorem sm_le (k n : Nat) : Sm (Pl.le k n) := Pl.le_small k n
theorem sm_bz (n : Nat) : Sm (bz n) := fun z hz => by rw [List.eq_of_mem_replicate hz]; decide
theorem sm_nil : Sm [] := fun z hz => by cases hz
theorem sm_bts (t : ByteArray) : Sm (bts t) := fun z hz => by
 obtain ⟨x, _, rfl⟩ := List.mem_map.1 hz
 exact x.toNat_lt
theorem sm_lay {γ : Type} {f : Nat → γ → List Nat} (h : ∀ a x, Sm (f a x)) : ∀ (xs : List γ) (a : Nat), Sm (layL f a xs)
 | [], _ => sm_nil
 | x :: xs, a => (h a x).app (sm_lay h xs _)
theorem sm_many (n : Nat) : Sm (manyB n) := (sm_le _ _).app (sm_bz _)
theorem sm_gd (a : Nat) (g : Gd) : Sm (gdB a g) := (sm_le _ _).app ((sm_le _ _).app ((sm_le _ _).app ((sm_bz _).app ((sm_le _ _).app ((sm_bts _).app (sm_bz _))))))
theorem sm_lane (l : List (Int × Int)) : Sm (laneB l) := (sm_many _).app (sm_lay (fun _ x => (sm_le _ _).app ((sm_bz _).app (sm_le _ _))) _ _)
theorem sm_plan (p : Sc) : Sm (planB p) := (sm_le _ _).app ((sm_bz _).app (sm_lay (fun _ l => sm_lane l) _ _))
theorem sm_tb (f : Nat → Nat) : ∀ n, Sm (tb f n)
 | 0 => sm_nil
 | n + 1 => (sm_tb f n).app (sm_le _ _)
theorem sm_sec (I : Im) (k : Nat) : Sm (secB I k) := by
 match k with
 | 0 => exact sm_bz 160
 | 1 => exact (sm_le _ _).app ((sm_le _ _).app ((sm_bz _).app ((sm_lay (fun _ x => (sm_le _ _).app (sm_le _ _)) _ _).app (sm_lay (fun _ x => (sm_le _ _).app (sm_le _ _)) _ _))))
 | 2 => exact (sm_many _).app (sm_lay (fun _ x => (sm_le _ _).app ((sm_le _ _).app ((sm_le _ _).app ((sm_le _ _).app ((sm_le _ _).app (sm_le _ _)))))) _ _)
 | 3 => exact (sm_many _).app (sm_lay (fun _ x => (sm_le _ _).app (sm_bz _)) _ _)
 | 4 => exact (sm_many _).app (sm_lay sm_gd _ _)
 | 5 => exact (sm_many _).app (sm_lay (fun _ x => (sm_le _ _).app ((sm_le _ _).app ((sm_le _ _).app ((sm_le _ _).app (sm_bz _))))) _ _)
 | 6 => exact (sm_many _).app (sm_lay (fun _ x => (sm_le _ _).app ((sm_le _ _).app ((sm_le _ _).app ((sm_le _ _).app (sm_bz _))))) _ _)
 | 7 => exact (sm_le _ _).app ((sm_le _ _).app ((sm_le _ _).app ((sm_le _ _).app (sm_lay (fun _ x => sm_plan x) _ _))))
 | k + 8 => exact sm_lay (fun _ x => sm_tb x 512) _ _
theorem sm_st (I : Im) : ∀ k, Sm (stN I k).1
 | 0 => sm_nil
 | k + 1 => by
  rw [(st_next I k).1]
  exact (sm_st I k).app ((sm_bz _).app (sm_sec I k))
theorem sm_hdP (I : Im) (zs : List Nat) : ∀ i, Sm (hdP I zs i)
 | 0 => ((((show Sm magB by unfold Sm magB; decide).app (sm_le _ _)).app (sm_le _ _)).app (sm_le _ _)).app (sm_le _ _)
 | i + 1 => (sm_hdP I zs i).app (((((sm_le _ _).app (sm_le _ _)).app (sm_le _ _)).app (sm_le _ _)).app (sm_le _ _))
theorem sm_enc (I : Im) : Sm (encF I) := (((sm_hdP I _ 8).app (sm_le _ _)).app (sm_le _ _)).app (fun z hz => sm_st I 9 z (List.mem_of_mem_drop hz))
/-- an entry as it is laid -/
def entI (I : Im) (k : Nat) : En := ⟨k, 0, fstN I k, lenN I k, Pl.crc (secZ I (stN I 9).1 k)⟩
def updA (I : Im) : Nat → Im
 | 0 => { zeroI with base := I.base }
 | k + 1 => updK (updA I k) I (k + 1)
theorem upd_all (I : Im) : updA I 8 = I := by
 simp only [updA, updK, zeroI, Nat.reduceAdd]
theorem upd_devs (I : Im) : ∀ k, 1 ≤ k → k ≤ 8 → (updA I k).devs = I.devs := fun k h1 h8 => by
 rcases (by omega : k = 1 ∨ k = 2 ∨ k = 3 ∨ k = 4 ∨ k = 5 ∨ k = 6 ∨ k = 7 ∨ k = 8) with rfl | rfl | rfl | rfl | rfl | rfl | rfl | rfl <;> simp only [updA, updK, zeroI, Nat.reduceAdd]
theorem enc_parts {I : Im} (hw : (sizeF I).2 = 0) : (stN I 9).2 = 0 ∧ (encF I).length = (stN I 9).1.length ∧ (stN I 9).1.length / 4096 * 4096 = (stN I 9).1.length ∧ (stN I 9).1.length / 4096 ≤ 1024 ∧ 160 ≤ (stN I 9).1.length ∧ (encF I).drop 160 = (stN I 9).1.drop 160 ∧ (encF I).take 160 = hdF I (stN I 9).1 := by
 have h9 := st9_ge I
 have h0 : (stN I 9).2 = 0 ∧ (stN I 9).1.length / 4096 ≤ 1024 := by
  unfold sizeF at hw
  by_cases e : (stN I 9).2 ≠ 0
  ·rw [if_pos e] at hw
   exact absurd hw e
  ·rw [if_neg e] at hw
   by_cases e2 : 1024 < (stN I 9).1.length / 4096
   ·rw [if_pos e2] at hw
    exact absurd hw (show ¬ (4 : Int) = 0 by decide)
   ·exact ⟨Decidable.byContradiction e, by omega⟩
 have hl : (stN I 9).1.length = fstN I 8 + (secB I 8).length := by
  obtain ⟨_, _, h3⟩ := st_sec I (k := 8) (by decide)
  have h4 := (fst_len I 8 (by decide)).1
  simp only [Nat.reduceAdd] at h4
  omega
 have h8 : (secB I 8).length % 4096 = 0 := by
  have k : ∀ (xs : List (Nat → Nat)) (a : Nat), (layL (fun _ => tabB) a xs).length = 4096 * xs.length := fun xs => by
   induction xs with
   | nil => intro a; rfl
   | cons x xs ih => intro a; rw [layL, List.length_append, tabB_len, ih, List.length_cons]; omega
  show (layL (fun _ => tabB) 0 I.tabs).length % 4096 = 0
  rw [k]
  omega
 have hm : fstN I 8 % 4096 = 0 := (beg_mod 8 _).2 rfl
 have hlen : (encF I).length = (stN I 9).1.length := by
  rw [encF, List.length_append, hdF_len, List.length_drop]
  omega
 exact ⟨h0.1, hlen, by omega, h0.2, h9, by rw [encF, List.drop_left' (hdF_len _ _)], by rw [encF, List.take_left' (hdF_len _ _)]⟩
theorem drop_of {bs zs : List Nat} (h : bs.drop 160 = zs.drop 160) {a : Nat} (ha : 160 ≤ a) : bs.drop a = zs.drop a := by
 rw [show a = 160 + (a - 160) by omega, ← List.drop_drop, h, List.drop_drop]
theorem getD_of {bs zs : List Nat} (h : bs.drop 160 = zs.drop 160) {a : Nat} (ha : 160 ≤ a) : bs.getD a 0 = zs.getD a 0 := by
 have h9 := congrArg (fun l => l.getD 0 0) (drop_of h ha)
 simpa [List.getD_eq_getElem?_getD, List.getElem?_drop] using h9
theorem getD_zero {zs : List Nat} {e n i : Nat} (h : (zs.drop e).take n = bz n) (hi : i < n) : zs.getD (e + i) 0 = 0 := by
 have h9 := congrArg (fun l => l.getD i 0) h
 simp only [List.getD_eq_getElem?_getD, List.getElem?_take, List.getElem?_drop, if_pos hi] at h9
 rw [List.getD_eq_getElem?_getD, h9]
 simp [bz, List.getElem?_replicate, hi]
/-- the header that was laid is read back -/
theorem head_back {I : Im} (hI : ImK I) (hw : (sizeF I).2 = 0) : (hd0 (encF I)).x.base = I.base ∧ (∀ j, 1 ≤ j → j ≤ 8 → (hd0 (encF I)).E j = entI I j) ∧ headS (encF I) = fw ⟨0, 0, 0, 0, 0⟩ 160 ∧ (hq (encF I)).Z.length = 160 ∧ (∀ k, k ≤ 8 → endN (hd0 (encF I)).E (encF I).length k = (stN I (k + 1)).1.length) := by
 obtain ⟨h0, hlen, h4096, hcnt, h160, hdrop, htake⟩ := enc_parts hw
 have hN := size_why I hw
 have hzl : ∀ k, k ≤ 9 → (stN I k).1.length ≤ (stN I 9).1.length := fun k hk => stN_mono I k 9 hk
 have hE : ∀ j, 1 ≤ j → j ≤ 8 → enOk (entI I j) := fun j h1 h2 => by
  have a := fst_len I j (by omega)
  have b := hzl (j + 1) (by omega)
  have c : Pl.crc (secZ I (stN I 9).1 j) ≤ 4294967295 := crc_lt (fun z hz => sm_st I 9 z (List.mem_of_mem_drop (List.mem_of_mem_take hz)))
  refine ⟨?_, ?_, ?_, ?_, ?_⟩
  ·show j < 65536; omega
  ·show 0 < 65536; omega
  ·show fstN I j < 4294967296; omega
  ·show lenN I j < 4294967296; omega
  ·show Pl.crc _ < 4294967296; omega
 have hP : ∀ i, i ≤ 8 → hdP I (stN I 9).1 i = magB ++ Pl.le 2 1 ++ Pl.le 2 8 ++ Pl.le 4 ((stN I 9).1.length / 4096) ++ Pl.le 8 I.base ++ ensB (entI I) i := fun i => by
  induction i with
  | zero => intro _; rw [hdP, ensB, List.append_nil]
  | succ i ih =>
   intro hi
   have he : entB (i + 1) (fstN I (i + 1)) (lenN I (i + 1)) (Pl.crc (secZ I (stN I 9).1 (i + 1))) = enB (entI I (i + 1)) := by
    unfold entB enB
    simp only [List.append_assoc]
    rfl
   rw [hdP, ih (by omega), ensB, he, List.append_assoc]
 have hH : (encF I).take 160 = hxB ⟨magB, 1, 8, (stN I 9).1.length / 4096, I.base, Pl.crc (hdP I (stN I 9).1 8), 0⟩ (entI I) := by
  rw [htake, hdF, hP 8 (Nat.le_refl 8)]
  unfold hxB
  simp only [List.append_assoc]
 have h152 : (encF I).take 152 = hdP I (stN I 9).1 8 := by
  have e1 : (encF I).take 152 = ((encF I).take 160).take 152 := by rw [List.take_take]; rfl
  rw [e1, htake, hdF, List.append_assoc, List.take_left' (by rw [hdP_len])]
 have hZ : (hq (encF I)).Z = hxB ⟨magB, 1, 8, (stN I 9).1.length / 4096, I.base, Pl.crc (hdP I (stN I 9).1 8), 0⟩ (entI I) := by
  rw [← hH]
  rfl
 have hZl : (hq (encF I)).Z.length = 160 := by
  rw [hZ]
  simp only [hxB, List.length_append, Pl.le_length, ensB_len]
  rfl
 have hA : Ah (hq (encF I)) ⟨0, 0, 0, 0, 0⟩ (hxB ⟨magB, 1, 8, (stN I 9).1.length / 4096, I.base, Pl.crc (hdP I (stN I 9).1 8), 0⟩ (entI I)) := ⟨rfl, by rw [← hZ]; exact Nat.le_of_eq (Nat.zero_add _), [], by rw [List.append_nil, ← hZ]; rfl⟩
 have hc8 : Pl.crc (hdP I (stN I 9).1 8) ≤ 4294967295 := crc_lt (sm_hdP I _ 8)
 obtain ⟨x1, x2, x3⟩ := hd_back hA rfl (by show (1 : Nat) < 65536; decide) (by show (8 : Nat) < 65536; decide) (by show (stN I 9).1.length / 4096 < _; omega) (by show I.base < _; have := hI.base; omega) (by show Pl.crc _ < _; omega) (by show (0 : Nat) < 4294967296; decide) hE
 have hEn : ∀ k, k ≤ 8 → endN (hd0 (encF I)).E (encF I).length k = (stN I (k + 1)).1.length := fun k => by
  induction k with
  | zero =>
   intro _
   show 160 = _
   rw [st_one, List.length_replicate]
  | succ k ih =>
   intro hk
   rw [endN]
   by_cases e : k = 7
   ·rw [if_pos e, hlen]
    subst e
    rfl
   ·rw [if_neg e, ih (by omega)]
    have := (x3 (k + 1) (by omega) hk)
    rw [show (hd0 (encF I)).E (k + 1) = entI I (k + 1) from this]
    show begN (k + 1) (stN I (k + 1)).1.length + lenN I (k + 1) = _
    exact (fst_len I (k + 1) (by omega)).1
 have hx : (hd0 (encF I)).x = ⟨magB, 1, 8, (stN I 9).1.length / 4096, I.base, Pl.crc (hdP I (stN I 9).1 8), 0⟩ := x1
 refine ⟨by rw [hx], x3, ?_, hZl, hEn⟩
 have hD : ∀ j, 1 ≤ j → j ≤ 8 → okD (hd0 (encF I)).E (encF I).length j = true := fun j h1 h2 => by
  obtain ⟨i, rfl⟩ : ∃ i, j = i + 1 := ⟨j - 1, by omega⟩
  unfold okD
  rw [show (hd0 (encF I)).E (i + 1) = entI I (i + 1) from x3 (i + 1) h1 h2, Nat.add_sub_cancel, hEn i (by omega), hEn (i + 1) h2, hlen, Bool.and_eq_true]
  refine ⟨decide_eq_true ⟨rfl, rfl, rfl, fun e => ?_⟩, decide_eq_true (hzl (i + 1 + 1) (by omega))⟩
  obtain rfl : i = 7 := by omega
  exact (fst_len I 8 (by decide)).1
 have hS : ∀ j, 1 ≤ j → j ≤ 8 → Pl.crc (((encF I).drop ((hd0 (encF I)).E j).f).take ((hd0 (encF I)).E j).l) = ((hd0 (encF I)).E j).c ∧ ∀ i, i < ((hd0 (encF I)).E j).f - endN (hd0 (encF I)).E (encF I).length (j - 1) → (encF I).getD (endN (hd0 (encF I)).E (encF I).length (j - 1) + i) 0 = 0 := fun j h1 h2 => by
  obtain ⟨i, rfl⟩ : ∃ i, j = i + 1 := ⟨j - 1, by omega⟩
  rw [show (hd0 (encF I)).E (i + 1) = entI I (i + 1) from x3 (i + 1) h1 h2, Nat.add_sub_cancel, hEn i (by omega)]
  have hge : 160 ≤ (stN I (i + 1)).1.length := by
   have := stN_mono I 1 (i + 1) (by omega)
   rw [st_one, List.length_replicate] at this
   exact this
  have hfg : (stN I (i + 1)).1.length ≤ fstN I (i + 1) := (beg_le _ _).2
  obtain ⟨q1, q2, q3⟩ := st_sec I (k := i + 1) (by omega)
  refine ⟨?_, fun n hn => ?_⟩
  ·show Pl.crc (((encF I).drop (fstN I (i + 1))).take (lenN I (i + 1))) = Pl.crc (secZ I (stN I 9).1 (i + 1))
   rw [drop_of hdrop (by omega)]
   rfl
  ·rw [getD_of hdrop (by omega)]
   exact getD_zero q2 hn
 unfold headS
 rw [asks_ok (by rw [hx]; rfl) (by rw [hx]) (by rw [hx]) (by rw [hx, h152]) (by rw [hx]) (by rw [hx]; exact hcnt) (by rw [hx, hlen]; exact h4096) (by rw [hx]; exact st_fit 9 h0 0 (by decide)), dir_ok' 8 hD, seal_ok 8 hS]
 exact x2
/-- all that was laid is read back -/
theorem back_norm {I : Im} (hI : ImK I) (hn : ∀ f ∈ I.tabs, nrm f = f) (hw : (sizeF I).2 = 0) : decA (encF I) = ⟨I, 0, 0, 0⟩ := by
 obtain ⟨h0, hlen, h4096, hcnt, h160, hdrop, htake⟩ := enc_parts hw
 obtain ⟨hb, hE, hS, hZl, hEn⟩ := head_back hI hw
 rw [dec_all (by omega)]
 have key : ∀ k, k ≤ 8 → prA (encF I) k = ⟨updA I k, 0, 0, 0⟩ := fun k => by
  induction k with
  | zero =>
   intro _
   show headA (encF I) = _
   unfold headA
   rw [end_ok (by rw [hS]; rfl) (by rw [hS, hZl]; rfl), hS, hb]
   rfl
  | succ k ih =>
   intro hk
   have hp := ih (by omega)
   rw [pr_next (by rw [hp]), hp]
   have hZ : (qOf (hd0 (encF I)).E (encF I) (k + 1)).Z = secB I (k + 1) := by
    obtain ⟨q1, q2, q3⟩ := st_sec I (k := k + 1) (by omega)
    have hge : 160 ≤ (stN I (k + 1)).1.length := by
     have := stN_mono I 1 (k + 1) (by omega)
     rw [st_one, List.length_replicate] at this
     exact this
    have hfg : (stN I (k + 1)).1.length ≤ fstN I (k + 1) := (beg_le _ _).2
    rw [qOf_Z, hE (k + 1) (by omega) hk]
    show ((encF I).drop (fstN I (k + 1))).take (lenN I (k + 1)) = _
    rw [drop_of hdrop (by omega)]
    exact q1
   have hA : Ah (qOf (hd0 (encF I)).E (encF I) (k + 1)) (startD ⟨updA I k, 0, 0, 0⟩) (secB I (k + 1)) := ⟨rfl, by rw [hZ]; exact Nat.le_of_eq (Nat.zero_add _), [], by rw [List.append_nil, hZ]; rfl⟩
   have hB := sec_back (J := updA I k) hI hn (k := k + 1) (by omega) hk (st_fit 9 h0 (k + 1) (by omega)) (s := startD ⟨updA I k, 0, 0, 0⟩) rfl rfl (fun h => upd_devs I k (by omega) (by omega)) hA (by rw [hZ])
   rw [hB]
   dsimp only
   rw [end_ok rfl (by rw [hZ]; exact Nat.zero_add _)]
   rfl
 rw [key 8 (Nat.le_refl 8), upd_all]
/-- THERE AND BACK -/
theorem back_all {I : Im} (hI : ImK I) (hw : (sizeF I).2 = 0) : ∃ J, decA (encF I) = ⟨J, 0, 0, 0⟩ ∧ alike I J ∧ ImK J := by
 have hal : alike I { I with tabs := I.tabs.map nrm } := ⟨rfl, rfl, rfl, ⟨rfl, rfl⟩, rfl, rfl, rfl, rfl, rfl, rfl, by
  rw [List.map_map]
  refine List.map_congr_left (fun f hf => ?_)
  funext j
  show f j.1 = nrm f j.1
  exact (nrm_tf (hI.tabs f hf) j.1 j.2).symm⟩
 have hK : ImK { I with tabs := I.tabs.map nrm } := ⟨hI.base, hI.rams, hI.devs, hI.regs, fun f hf => by
  obtain ⟨g, hg, rfl⟩ := List.mem_map.1 hf
  intro i hi
  rw [nrm_tf (hI.tabs g hg) i hi]
  exact hI.tabs g hg i hi⟩
 have hs : sizeF { I with tabs := I.tabs.map nrm } = sizeF I := by
  unfold sizeF
  rw [st_same hal 9]
 refine ⟨{ I with tabs := I.tabs.map nrm }, ?_, hal, hK⟩
 rw [enc_same hal]
 refine back_norm hK (fun f hf => ?_) (by rw [hs]; exact hw)
 obtain ⟨g, hg, rfl⟩ := List.mem_map.1 hf
 show numT (tb (nrm g) 512) = numT (tb g 512)
 rw [show tb (nrm g) 512 = tb g 512 from nrm_tab (hI.tabs g hg)]
end Dc
end Go.Proofs.YtnifefmfhjfbnaaGreatDoor
/- The check sum bit by bit is the check sum by fours: plain mathematics. -/
namespace Go.Proofs.YtnifefmfhjfbnaaGreatDoor
namespace Pl
/-- one bit goes out -/
def bst (r : Nat) : Nat := if r % 2 = 1 then (r / 2) ^^^ 2197175160 else r / 2
def bsteps : Nat → Nat → Nat
 | 0, r => r
 | k + 1, r => bst (bsteps k r)
theorem xor_half (a b : Nat) : (a ^^^ b) / 2 = a / 2 ^^^ b / 2 := by
 have h := Nat.shiftRight_xor_distrib (a := a) (b := b) (i := 1)
 simpa [Nat.shiftRight_eq_div_pow] using h
theorem bst_xor (a b : Nat) : bst (a ^^^ b) = bst a ^^^ bst b := by
 have ha := Nat.mod_two_eq_one_iff_testBit_zero (x := a)
 have hb := Nat.mod_two_eq_one_iff_testBit_zero (x := b)
 have hab := Nat.mod_two_eq_one_iff_testBit_zero (x := a ^^^ b)
 rw [Nat.testBit_xor] at hab
 simp only [bst, xor_half, hab, ha, hb]
 cases a.testBit 0 <;> cases b.testBit 0
 ·rfl
 ·exact Nat.xor_assoc _ _ _
 ·exact (Nat.xor_assoc _ _ _).trans ((congrArg _ (Nat.xor_comm _ _)).trans (Nat.xor_assoc _ _ _).symm)
 ·show a / 2 ^^^ b / 2 = (a / 2 ^^^ 2197175160) ^^^ (b / 2 ^^^ 2197175160)
  rw [Nat.xor_comm (b / 2), Nat.xor_assoc, ← Nat.xor_assoc 2197175160, Nat.xor_self, Nat.zero_xor]
theorem bst_two (y : Nat) : bst (2 * y) = y := by
 simp [bst]
theorem bsteps_xor (k a b : Nat) : bsteps k (a ^^^ b) = bsteps k a ^^^ bsteps k b := by
 induction k with
 | zero => rfl
 | succ k ih => simp only [bsteps, ih, bst_xor]
theorem bsteps_four (q : Nat) : bsteps 4 (16 * q) = q := by
 simp only [bsteps]
 rw [show 16 * q = 2 * (2 * (2 * (2 * q))) from by omega, bst_two, bst_two, bst_two, bst_two]
theorem split16 (x : Nat) : x = (16 * (x / 16)) ^^^ (x % 16) := by
 have h1 : 16 * (x / 16) ||| x % 16 = 16 * (x / 16) + x % 16 := nat_join 4 _ _ (by simp) (Nat.mod_lt _ (by decide))
 have h2 : 16 * (x / 16) ^^^ x % 16 = 16 * (x / 16) ||| x % 16 := by
  apply Nat.eq_of_testBit_eq
  intro i
  rw [Nat.testBit_xor, Nat.testBit_or]
  have e1 : (x % 16).testBit i = (decide (i < 4) && x.testBit i) := Nat.testBit_mod_two_pow x 4 i
  have e2 : (16 * (x / 16)).testBit i = (decide (4 ≤ i) && (x / 16).testBit (i - 4)) := Nat.testBit_two_pow_mul (i := 4)
  rw [e1, e2]
  by_cases h : i < 4
  ·simp [h, Nat.not_le.2 h]
  ·simp [h]
 rw [h2, h1]
 omega
theorem nib_small : ∀ t : Fin 16, bsteps 4 t.val = tab.getD t.val 0 := by decide
theorem bsteps_nib (x : Nat) : bsteps 4 x = nib x := by
 conv => lhs; rw [split16 x]
 rw [bsteps_xor, bsteps_four, nib_small ⟨x % 16, Nat.mod_lt _ (by decide)⟩]
 rfl
theorem bsteps_eight (x : Nat) : bsteps 8 x = nib (nib x) := by
 rw [← bsteps_nib x, ← bsteps_nib (bsteps 4 x)]; rfl
theorem step_eight (r z : Nat) : stepB r z = bsteps 8 (r ^^^ z) := by rw [bsteps_eight]; rfl
theorem bst_lt {r : Nat} (h : r < 4294967296) : bst r < 4294967296 := by
 unfold bst
 split
 ·exact xor_lt (by omega) (by decide)
 ·omega
end Pl
end Go.Proofs.YtnifefmfhjfbnaaGreatDoor
