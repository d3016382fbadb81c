import Derived.Test.YtnifefmfhjfbnaaGreatDoorPk44
import Derived.Test.YtnifefmfhjfbnaaGreatDoorPk38
/- Bundle: what is laid down is read back, all of it. Plain. Own work. -/
namespace Go.Proofs.YtnifefmfhjfbnaaGreatDoor
open Bn Dc
set_option linter.unusedVariables false
set_option linter.unusedSimpArgs false
namespace Dc
/-- bytes are bytes -/
def Sm (l : List Nat) : Prop := ∀ z ∈ l, z < 256
theorem Sm.app {a b : List Nat} (h : Sm a) (k : Sm b) : Sm (a ++ b) := fun z hz => (List.mem_append.1 hz).elim (h z) (k z)
theorem sm_le (k n : Nat) : Sm (Pl.le k n) := Pl.le_small k n
theorem sm_bz (n : Nat) : Sm (bz n) := fun z hz => by rw [List.eq_of_mem_replicate hz]; decide
theorem sm_nil : Sm [] := fun z hz => by cases hz
theorem sm_bts (t : ByteArray) : Sm (bts t) := fun z hz => by
  obtain ⟨x, _, rfl⟩ := List.mem_map.1 hz
  exact x.toNat_lt
theorem sm_lay {γ : Type} {f : Nat → γ → List Nat} (h : ∀ a x, Sm (f a x)) : ∀ (xs : List γ) (a : Nat), Sm (layL f a xs)
  | [], _ => sm_nil
  | x :: xs, a => (h a x).app (sm_lay h xs _)
theorem sm_many (n : Nat) : Sm (manyB n) := (sm_le _ _).app (sm_bz _)
theorem sm_gd (a : Nat) (g : Gd) : Sm (gdB a g) := (sm_le _ _).app ((sm_le _ _).app ((sm_le _ _).app ((sm_bz _).app ((sm_le _ _).app ((sm_bts _).app (sm_bz _))))))
theorem sm_lane (l : List (Int × Int)) : Sm (laneB l) := (sm_many _).app (sm_lay (fun _ x => (sm_le _ _).app ((sm_bz _).app (sm_le _ _))) _ _)
theorem sm_plan (p : Sc) : Sm (planB p) := (sm_le _ _).app ((sm_bz _).app (sm_lay (fun _ l => sm_lane l) _ _))
theorem sm_tb (f : Nat → Nat) : ∀ n, Sm (tb f n)
  | 0 => sm_nil
  | n + 1 => (sm_tb f n).app (sm_le _ _)
theorem sm_sec (I : Im) (k : Nat) : Sm (secB I k) := by
  match k with
  | 0 => exact sm_bz 160
  | 1 => exact (sm_le _ _).app ((sm_le _ _).app ((sm_bz _).app ((sm_lay (fun _ x => (sm_le _ _).app (sm_le _ _)) _ _).app (sm_lay (fun _ x => (sm_le _ _).app (sm_le _ _)) _ _))))
  | 2 => exact (sm_many _).app (sm_lay (fun _ x => (sm_le _ _).app ((sm_le _ _).app ((sm_le _ _).app ((sm_le _ _).app ((sm_le _ _).app (sm_le _ _)))))) _ _)
  | 3 => exact (sm_many _).app (sm_lay (fun _ x => (sm_le _ _).app (sm_bz _)) _ _)
  | 4 => exact (sm_many _).app (sm_lay sm_gd _ _)
  | 5 => exact (sm_many _).app (sm_lay (fun _ x => (sm_le _ _).app ((sm_le _ _).app ((sm_le _ _).app ((sm_le _ _).app (sm_bz _))))) _ _)
  | 6 => exact (sm_many _).app (sm_lay (fun _ x => (sm_le _ _).app ((sm_le _ _).app ((sm_le _ _).app ((sm_le _ _).app (sm_bz _))))) _ _)
  | 7 => exact (sm_le _ _).app ((sm_le _ _).app ((sm_le _ _).app ((sm_le _ _).app (sm_lay (fun _ x => sm_plan x) _ _))))
  | k + 8 => exact sm_lay (fun _ x => sm_tb x 512) _ _
theorem sm_st (I : Im) : ∀ k, Sm (stN I k).1
  | 0 => sm_nil
  | k + 1 => by
    rw [(st_next I k).1]
    exact (sm_st I k).app ((sm_bz _).app (sm_sec I k))
theorem sm_hdP (I : Im) (zs : List Nat) : ∀ i, Sm (hdP I zs i)
  | 0 => ((((show Sm magB by unfold Sm magB; decide).app (sm_le _ _)).app (sm_le _ _)).app (sm_le _ _)).app (sm_le _ _)
  | i + 1 => (sm_hdP I zs i).app (((((sm_le _ _).app (sm_le _ _)).app (sm_le _ _)).app (sm_le _ _)).app (sm_le _ _))
theorem sm_enc (I : Im) : Sm (encF I) := (((sm_hdP I _ 8).app (sm_le _ _)).app (sm_le _ _)).app (fun z hz => sm_st I 9 z (List.mem_of_mem_drop hz))
/-- an entry as it is laid -/
def entI (I : Im) (k : Nat) : En := ⟨k, 0, fstN I k, lenN I k, Pl.crc (secZ I (stN I 9).1 k)⟩
def updA (I : Im) : Nat → Im
  | 0 => { zeroI with base := I.base }
  | k + 1 => updK (updA I k) I (k + 1)
theorem upd_all (I : Im) : updA I 8 = I := by
  simp only [updA, updK, zeroI, Nat.reduceAdd]
theorem upd_devs (I : Im) : ∀ k, 1 ≤ k → k ≤ 8 → (updA I k).devs = I.devs := fun k h1 h8 => by
  rcases (by omega : k = 1 ∨ k = 2 ∨ k = 3 ∨ k = 4 ∨ k = 5 ∨ k = 6 ∨ k = 7 ∨ k = 8) with rfl | rfl | rfl | rfl | rfl | rfl | rfl | rfl <;> simp only [updA, updK, zeroI, Nat.reduceAdd]
theorem enc_parts {I : Im} (hw : (sizeF I).2 = 0) : (stN I 9).2 = 0 ∧ (encF I).length = (stN I 9).1.length ∧ (stN I 9).1.length / 4096 * 4096 = (stN I 9).1.length ∧ (stN I 9).1.length / 4096 ≤ 1024 ∧ 160 ≤ (stN I 9).1.length ∧ (encF I).drop 160 = (stN I 9).1.drop 160 ∧ (encF I).take 160 = hdF I (stN I 9).1 := by
  have h9 := st9_ge I
  have h0 : (stN I 9).2 = 0 ∧ (stN I 9).1.length / 4096 ≤ 1024 := by
    unfold sizeF at hw
    by_cases e : (stN I 9).2 ≠ 0
    · rw [if_pos e] at hw
      exact absurd hw e
    · rw [if_neg e] at hw
      by_cases e2 : 1024 < (stN I 9).1.length / 4096
      · rw [if_pos e2] at hw
        exact absurd hw (show ¬ (4 : Int) = 0 by decide)
      · exact ⟨Decidable.byContradiction e, by omega⟩
  have hl : (stN I 9).1.length = fstN I 8 + (secB I 8).length := by
    obtain ⟨_, _, h3⟩ := st_sec I (k := 8) (by decide)
    have h4 := (fst_len I 8 (by decide)).1
    simp only [Nat.reduceAdd] at h4
    omega
  have h8 : (secB I 8).length % 4096 = 0 := by
    have k : ∀ (xs : List (Nat → Nat)) (a : Nat), (layL (fun _ => tabB) a xs).length = 4096 * xs.length := fun xs => by
      induction xs with
      | nil => intro a; rfl
      | cons x xs ih => intro a; rw [layL, List.length_append, tabB_len, ih, List.length_cons]; omega
    show (layL (fun _ => tabB) 0 I.tabs).length % 4096 = 0
    rw [k]
    omega
  have hm : fstN I 8 % 4096 = 0 := (beg_mod 8 _).2 rfl
  have hlen : (encF I).length = (stN I 9).1.length := by
    rw [encF, List.length_append, hdF_len, List.length_drop]
    omega
  exact ⟨h0.1, hlen, by omega, h0.2, h9, by rw [encF, List.drop_left' (hdF_len _ _)], by rw [encF, List.take_left' (hdF_len _ _)]⟩
theorem drop_of {bs zs : List Nat} (h : bs.drop 160 = zs.drop 160) {a : Nat} (ha : 160 ≤ a) : bs.drop a = zs.drop a := by
  rw [show a = 160 + (a - 160) by omega, ← List.drop_drop, h, List.drop_drop]
theorem getD_of {bs zs : List Nat} (h : bs.drop 160 = zs.drop 160) {a : Nat} (ha : 160 ≤ a) : bs.getD a 0 = zs.getD a 0 := by
  have h9 := congrArg (fun l => l.getD 0 0) (drop_of h ha)
  simpa [List.getD_eq_getElem?_getD, List.getElem?_drop] using h9
theorem getD_zero {zs : List Nat} {e n i : Nat} (h : (zs.drop e).take n = bz n) (hi : i < n) : zs.getD (e + i) 0 = 0 := by
  have h9 := congrArg (fun l => l.getD i 0) h
  simp only [List.getD_eq_getElem?_getD, List.getElem?_take, List.getElem?_drop, if_pos hi] at h9
  rw [List.getD_eq_getElem?_getD, h9]
  simp [bz, List.getElem?_replicate, hi]
/-- the header that was laid is read back -/
theorem head_back {I : Im} (hI : ImK I) (hw : (sizeF I).2 = 0) : (hd0 (encF I)).x.base = I.base ∧ (∀ j, 1 ≤ j → j ≤ 8 → (hd0 (encF I)).E j = entI I j) ∧ headS (encF I) = fw ⟨0, 0, 0, 0, 0⟩ 160 ∧ (hq (encF I)).Z.length = 160 ∧ (∀ k, k ≤ 8 → endN (hd0 (encF I)).E (encF I).length k = (stN I (k + 1)).1.length) := by
  obtain ⟨h0, hlen, h4096, hcnt, h160, hdrop, htake⟩ := enc_parts hw
  have hN := size_why I hw
  have hzl : ∀ k, k ≤ 9 → (stN I k).1.length ≤ (stN I 9).1.length := fun k hk => stN_mono I k 9 hk
  have hE : ∀ j, 1 ≤ j → j ≤ 8 → enOk (entI I j) := fun j h1 h2 => by
    have a := fst_len I j (by omega)
    have b := hzl (j + 1) (by omega)
    have c : Pl.crc (secZ I (stN I 9).1 j) ≤ 4294967295 := crc_lt (fun z hz => sm_st I 9 z (List.mem_of_mem_drop (List.mem_of_mem_take hz)))
    refine ⟨?_, ?_, ?_, ?_, ?_⟩
    · show j < 65536; omega
    · show 0 < 65536; omega
    · show fstN I j < 4294967296; omega
    · show lenN I j < 4294967296; omega
    · show Pl.crc _ < 4294967296; omega
  have hP : ∀ i, i ≤ 8 → hdP I (stN I 9).1 i = magB ++ Pl.le 2 1 ++ Pl.le 2 8 ++ Pl.le 4 ((stN I 9).1.length / 4096) ++ Pl.le 8 I.base ++ ensB (entI I) i := fun i => by
    induction i with
    | zero => intro _; rw [hdP, ensB, List.append_nil]
    | succ i ih =>
      intro hi
      have he : entB (i + 1) (fstN I (i + 1)) (lenN I (i + 1)) (Pl.crc (secZ I (stN I 9).1 (i + 1))) = enB (entI I (i + 1)) := by
        unfold entB enB
        simp only [List.append_assoc]
        rfl
      rw [hdP, ih (by omega), ensB, he, List.append_assoc]
  have hH : (encF I).take 160 = hxB ⟨magB, 1, 8, (stN I 9).1.length / 4096, I.base, Pl.crc (hdP I (stN I 9).1 8), 0⟩ (entI I) := by
    rw [htake, hdF, hP 8 (Nat.le_refl 8)]
    unfold hxB
    simp only [List.append_assoc]
  have h152 : (encF I).take 152 = hdP I (stN I 9).1 8 := by
    have e1 : (encF I).take 152 = ((encF I).take 160).take 152 := by rw [List.take_take]; rfl
    rw [e1, htake, hdF, List.append_assoc, List.take_left' (by rw [hdP_len])]
  have hZ : (hq (encF I)).Z = hxB ⟨magB, 1, 8, (stN I 9).1.length / 4096, I.base, Pl.crc (hdP I (stN I 9).1 8), 0⟩ (entI I) := by
    rw [← hH]
    rfl
  have hZl : (hq (encF I)).Z.length = 160 := by
    rw [hZ]
    simp only [hxB, List.length_append, Pl.le_length, ensB_len]
    rfl
  have hA : Ah (hq (encF I)) ⟨0, 0, 0, 0, 0⟩ (hxB ⟨magB, 1, 8, (stN I 9).1.length / 4096, I.base, Pl.crc (hdP I (stN I 9).1 8), 0⟩ (entI I)) := ⟨rfl, by rw [← hZ]; exact Nat.le_of_eq (Nat.zero_add _), [], by rw [List.append_nil, ← hZ]; rfl⟩
  have hc8 : Pl.crc (hdP I (stN I 9).1 8) ≤ 4294967295 := crc_lt (sm_hdP I _ 8)
  obtain ⟨x1, x2, x3⟩ := hd_back hA rfl (by show (1 : Nat) < 65536; decide) (by show (8 : Nat) < 65536; decide) (by show (stN I 9).1.length / 4096 < _; omega) (by show I.base < _; have := hI.base; omega) (by show Pl.crc _ < _; omega) (by show (0 : Nat) < 4294967296; decide) hE
  have hEn : ∀ k, k ≤ 8 → endN (hd0 (encF I)).E (encF I).length k = (stN I (k + 1)).1.length := fun k => by
    induction k with
    | zero =>
      intro _
      show 160 = _
      rw [st_one, List.length_replicate]
    | succ k ih =>
      intro hk
      rw [endN]
      by_cases e : k = 7
      · rw [if_pos e, hlen]
        subst e
        rfl
      · rw [if_neg e, ih (by omega)]
        have := (x3 (k + 1) (by omega) hk)
        rw [show (hd0 (encF I)).E (k + 1) = entI I (k + 1) from this]
        show begN (k + 1) (stN I (k + 1)).1.length + lenN I (k + 1) = _
        exact (fst_len I (k + 1) (by omega)).1
  have hx : (hd0 (encF I)).x = ⟨magB, 1, 8, (stN I 9).1.length / 4096, I.base, Pl.crc (hdP I (stN I 9).1 8), 0⟩ := x1
  refine ⟨by rw [hx], x3, ?_, hZl, hEn⟩
  have hD : ∀ j, 1 ≤ j → j ≤ 8 → okD (hd0 (encF I)).E (encF I).length j = true := fun j h1 h2 => by
    obtain ⟨i, rfl⟩ : ∃ i, j = i + 1 := ⟨j - 1, by omega⟩
    unfold okD
    rw [show (hd0 (encF I)).E (i + 1) = entI I (i + 1) from x3 (i + 1) h1 h2, Nat.add_sub_cancel, hEn i (by omega), hEn (i + 1) h2, hlen, Bool.and_eq_true]
    refine ⟨decide_eq_true ⟨rfl, rfl, rfl, fun e => ?_⟩, decide_eq_true (hzl (i + 1 + 1) (by omega))⟩
    obtain rfl : i = 7 := by omega
    exact (fst_len I 8 (by decide)).1
  have hS : ∀ j, 1 ≤ j → j ≤ 8 → Pl.crc (((encF I).drop ((hd0 (encF I)).E j).f).take ((hd0 (encF I)).E j).l) = ((hd0 (encF I)).E j).c ∧ ∀ i, i < ((hd0 (encF I)).E j).f - endN (hd0 (encF I)).E (encF I).length (j - 1) → (encF I).getD (endN (hd0 (encF I)).E (encF I).length (j - 1) + i) 0 = 0 := fun j h1 h2 => by
    obtain ⟨i, rfl⟩ : ∃ i, j = i + 1 := ⟨j - 1, by omega⟩
    rw [show (hd0 (encF I)).E (i + 1) = entI I (i + 1) from x3 (i + 1) h1 h2, Nat.add_sub_cancel, hEn i (by omega)]
    have hge : 160 ≤ (stN I (i + 1)).1.length := by
      have := stN_mono I 1 (i + 1) (by omega)
      rw [st_one, List.length_replicate] at this
      exact this
    have hfg : (stN I (i + 1)).1.length ≤ fstN I (i + 1) := (beg_le _ _).2
    obtain ⟨q1, q2, q3⟩ := st_sec I (k := i + 1) (by omega)
    refine ⟨?_, fun n hn => ?_⟩
    · show Pl.crc (((encF I).drop (fstN I (i + 1))).take (lenN I (i + 1))) = Pl.crc (secZ I (stN I 9).1 (i + 1))
      rw [drop_of hdrop (by omega)]
      rfl
    · rw [getD_of hdrop (by omega)]
      exact getD_zero q2 hn
  unfold headS
  rw [asks_ok (by rw [hx]; rfl) (by rw [hx]) (by rw [hx]) (by rw [hx, h152]) (by rw [hx]) (by rw [hx]; exact hcnt) (by rw [hx, hlen]; exact h4096) (by rw [hx]; exact st_fit 9 h0 0 (by decide)), dir_ok' 8 hD, seal_ok 8 hS]
  exact x2
/-- all that was laid is read back -/
theorem back_norm {I : Im} (hI : ImK I) (hn : ∀ f ∈ I.tabs, nrm f = f) (hw : (sizeF I).2 = 0) : decA (encF I) = ⟨I, 0, 0, 0⟩ := by
  obtain ⟨h0, hlen, h4096, hcnt, h160, hdrop, htake⟩ := enc_parts hw
  obtain ⟨hb, hE, hS, hZl, hEn⟩ := head_back hI hw
  rw [dec_all (by omega)]
  have key : ∀ k, k ≤ 8 → prA (encF I) k = ⟨updA I k, 0, 0, 0⟩ := fun k => by
    induction k with
    | zero =>
      intro _
      show headA (encF I) = _
      unfold headA
      rw [end_ok (by rw [hS]; rfl) (by rw [hS, hZl]; rfl), hS, hb]
      rfl
    | succ k ih =>
      intro hk
      have hp := ih (by omega)
      rw [pr_next (by rw [hp]), hp]
      have hZ : (qOf (hd0 (encF I)).E (encF I) (k + 1)).Z = secB I (k + 1) := by
        obtain ⟨q1, q2, q3⟩ := st_sec I (k := k + 1) (by omega)
        have hge : 160 ≤ (stN I (k + 1)).1.length := by
          have := stN_mono I 1 (k + 1) (by omega)
          rw [st_one, List.length_replicate] at this
          exact this
        have hfg : (stN I (k + 1)).1.length ≤ fstN I (k + 1) := (beg_le _ _).2
        rw [qOf_Z, hE (k + 1) (by omega) hk]
        show ((encF I).drop (fstN I (k + 1))).take (lenN I (k + 1)) = _
        rw [drop_of hdrop (by omega)]
        exact q1
      have hA : Ah (qOf (hd0 (encF I)).E (encF I) (k + 1)) (startD ⟨updA I k, 0, 0, 0⟩) (secB I (k + 1)) := ⟨rfl, by rw [hZ]; exact Nat.le_of_eq (Nat.zero_add _), [], by rw [List.append_nil, hZ]; rfl⟩
      have hB := sec_back (J := updA I k) hI hn (k := k + 1) (by omega) hk (st_fit 9 h0 (k + 1) (by omega)) (s := startD ⟨updA I k, 0, 0, 0⟩) rfl rfl (fun h => upd_devs I k (by omega) (by omega)) hA (by rw [hZ])
      rw [hB]
      dsimp only
      rw [end_ok rfl (by rw [hZ]; exact Nat.zero_add _)]
      rfl
  rw [key 8 (Nat.le_refl 8), upd_all]
/-- THERE AND BACK -/
theorem back_all {I : Im} (hI : ImK I) (hw : (sizeF I).2 = 0) : ∃ J, decA (encF I) = ⟨J, 0, 0, 0⟩ ∧ alike I J ∧ ImK J := by
  have hal : alike I { I with tabs := I.tabs.map nrm } := ⟨rfl, rfl, rfl, ⟨rfl, rfl⟩, rfl, rfl, rfl, rfl, rfl, rfl, by
    rw [List.map_map]
    refine List.map_congr_left (fun f hf => ?_)
    funext j
    show f j.1 = nrm f j.1
    exact (nrm_tf (hI.tabs f hf) j.1 j.2).symm⟩
  have hK : ImK { I with tabs := I.tabs.map nrm } := ⟨hI.base, hI.rams, hI.devs, hI.regs, fun f hf => by
    obtain ⟨g, hg, rfl⟩ := List.mem_map.1 hf
    intro i hi
    rw [nrm_tf (hI.tabs g hg) i hi]
    exact hI.tabs g hg i hi⟩
  have hs : sizeF { I with tabs := I.tabs.map nrm } = sizeF I := by
    unfold sizeF
    rw [st_same hal 9]
  refine ⟨{ I with tabs := I.tabs.map nrm }, ?_, hal, hK⟩
  rw [enc_same hal]
  refine back_norm hK (fun f hf => ?_) (by rw [hs]; exact hw)
  obtain ⟨g, hg, rfl⟩ := List.mem_map.1 hf
  show numT (tb (nrm g) 512) = numT (tb g 512)
  rw [show tb (nrm g) 512 = tb g 512 from nrm_tab (hI.tabs g hg)]
end Dc
end Go.Proofs.YtnifefmfhjfbnaaGreatDoor
/- Bundle: heavy: few members, or it says so (written by parts/gen_bnhv.py). Own work. -/
namespace Go.Proofs.YtnifefmfhjfbnaaGreatDoor
open Go.RowKit Bn
set_option linter.unusedVariables false
set_option linter.unusedSimpArgs false
def rsz : List Gd → Nat
  | [] => 0
  | g :: gs => 1 + g.txt.size + rsz gs
def lsz : List (List (Int × Int)) → Nat
  | [] => 0
  | l :: ls => 1 + l.length + lsz ls
def plsz : List Sc → Nat
  | [] => 0
  | p :: ps => lsz p.lanes + plsz ps
theorem rsz_take : ∀ (xs : List Gd) (i : Nat) (h : i < xs.length), rsz (xs.take (i + 1)) = rsz (xs.take i) + (1 + xs[i].txt.size)
  | x :: xs, 0, h => by simp [rsz]
  | x :: xs, i + 1, h => by
    have := rsz_take xs i (by simpa using h)
    simp [rsz] at this ⊢
    omega
theorem lsz_take : ∀ (xs : List (List (Int × Int))) (i : Nat) (h : i < xs.length), lsz (xs.take (i + 1)) = lsz (xs.take i) + (1 + xs[i].length)
  | x :: xs, 0, h => by simp [lsz]
  | x :: xs, i + 1, h => by
    have := lsz_take xs i (by simpa using h)
    simp [lsz] at this ⊢
    omega
theorem plsz_take : ∀ (xs : List Sc) (i : Nat) (h : i < xs.length), plsz (xs.take (i + 1)) = plsz (xs.take i) + lsz xs[i].lanes
  | x :: xs, 0, h => by simp [plsz]
  | x :: xs, i + 1, h => by
    have := plsz_take xs i (by simpa using h)
    simp [plsz] at this ⊢
    omega
def memI (I : Im) : Nat := I.rams.length + I.devs.length + I.subs.length + I.ports.length + I.chs.length + I.irqs.length + I.plans.length + I.tabs.length
def cntI (I : Im) : Nat := memI I + rsz I.regs + plsz I.plans
theorem gsum_le : ∀ xs : List Gd, gsum xs ≤ 31 * rsz xs
  | [] => Nat.le_refl _
  | g :: gs => by have := gsum_le gs; rw [gsum, rsz]; omega
theorem lsum_le : ∀ xs : List (List (Int × Int)), lsum xs ≤ 8 * lsz xs
  | [] => Nat.le_refl _
  | g :: gs => by have := lsum_le gs; rw [lsum, lsz]; omega
theorem psum_le : ∀ xs : List Sc, psum xs ≤ 8 * xs.length + 8 * plsz xs
  | [] => Nat.le_refl _
  | g :: gs => by have := psum_le gs; have := lsum_le g.lanes; rw [psum, plsz, List.length_cons]; omega
theorem szI_le {I : Im} (h : cntI I < 4000000) : szI I ≤ 20000000000 := by
  have h1 := gsum_le I.regs
  have h2 := psum_le I.plans
  unfold cntI memI at h
  unfold szI
  omega
theorem rsz_mem : ∀ (xs : List Gd) (x : Gd), x ∈ xs → x.txt.size ≤ rsz xs
  | g :: gs, x, h => by
    rcases List.mem_cons.1 h with rfl | h
    · rw [rsz]; omega
    · have := rsz_mem gs x h; rw [rsz]; omega
/-- so many at most that no sum wraps -/
structure ImL (I : Im) : Prop where
  rams : I.rams.length ≤ 1125899906842624
  devs : I.devs.length ≤ 1125899906842624
  subs : I.subs.length ≤ 1125899906842624
  ports : I.ports.length ≤ 1125899906842624
  regs : I.regs.length ≤ 1125899906842624
  chs : I.chs.length ≤ 1125899906842624
  irqs : I.irqs.length ≤ 1125899906842624
  plans : I.plans.length ≤ 1125899906842624
  tabs : I.tabs.length ≤ 1125899906842624
  txt : ∀ x ∈ I.regs, x.txt.size ≤ 1125899906842624
  lanes : ∀ p ∈ I.plans, p.lanes.length ≤ 1125899906842624 ∧ ∀ l ∈ p.lanes, l.length ≤ 1125899906842624
def gdW (x : Gd) : Prop := x.ad ≤ 18446744073709551615 ∧ x.sz ≤ 18446744073709551615 ∧ x.fill ≤ 255
/-- an image that comes in, however long its texts are -/
structure ImW (w : World) (im : List Value) (I : Im) : Prop where
  base : im[0]? = some (.int .u64 (I.base : Int)) ∧ I.base ≤ 18446744073709551615
  rams : ∃ v, im[1]? = some v ∧ RowG 2 rgE w v I.rams ∧ ∀ x ∈ I.rams, rgOk x
  devs : ∃ v, im[2]? = some v ∧ RowG 2 rgE w v I.devs ∧ ∀ x ∈ I.devs, rgOk x
  subs : ∃ v, im[3]? = some v ∧ RowG 6 tnE w v I.subs ∧ ∀ x ∈ I.subs, tnOk x
  ports : ∃ v, im[4]? = some v ∧ RowG 1 poE w v I.ports ∧ ∀ x ∈ I.ports, I64R x
  regs : ∃ v, im[5]? = some v ∧ RowG 4 gdE w v I.regs ∧ ∀ x ∈ I.regs, gdW x
  chs : ∃ v, im[6]? = some v ∧ RowG 5 lkE w v I.chs ∧ ∀ x ∈ I.chs, lkOk x
  irqs : ∃ v, im[7]? = some v ∧ RowG 5 lkE w v I.irqs ∧ ∀ x ∈ I.irqs, lkOk x
  plans : ∃ v, im[8]? = some v ∧ PlG w v I.plans ∧ ∀ x ∈ I.plans, scOk x
  master : im[9]? = some (.int .i64 I.master) ∧ I64R I.master
  start : im[10]? = some (.int .i64 I.start) ∧ I64R I.start
  tabs : ∃ v, im[11]? = some v ∧ TbG w v I.tabs ∧ ∀ x ∈ I.tabs, tbOk x
  len : im.length = 12
  one : im.toArray.all (·.oneCell') = true
  short : ImL I
theorem ImW.below {w w' : World} {im : List Value} {I : Im} (h : ImW w im I) (hb : Below w.heap.size w w') : ImW w' im I := by
  obtain ⟨h1, ⟨v2, a2, b2, c2⟩, ⟨v3, a3, b3, c3⟩, ⟨v4, a4, b4, c4⟩, ⟨v5, a5, b5, c5⟩, ⟨v6, a6, b6, c6⟩, ⟨v7, a7, b7, c7⟩, ⟨v8, a8, b8, c8⟩, ⟨v9, a9, b9, c9⟩, h10, h11, ⟨v12, a12, b12, c12⟩, hl, ho, hs⟩ := h
  exact ⟨h1, ⟨v2, a2, b2.below hb, c2⟩, ⟨v3, a3, b3.below hb, c3⟩, ⟨v4, a4, b4.below hb, c4⟩, ⟨v5, a5, b5.below hb, c5⟩, ⟨v6, a6, b6.below hb, c6⟩, ⟨v7, a7, b7.below hb, c7⟩, ⟨v8, a8, b8.below hb, c8⟩, ⟨v9, a9, b9.below hb, c9⟩, h10, h11, ⟨v12, a12, b12.below hb, c12⟩, hl, ho, hs⟩
theorem ImW.a {w : World} {im : List Value} {I : Im} (h : ImW w im I) (hc : cntI I < 4000000) : ImA w im I := by
  obtain ⟨h1, h2, h3, h4, h5, ⟨v6, a6, b6, c6⟩, h7, h8, h9, h10, h11, h12, hl, ho, hs⟩ := h
  exact ⟨h1, h2, h3, h4, h5, ⟨v6, a6, b6, fun x hx => ⟨(c6 x hx).1, (c6 x hx).2.1, (c6 x hx).2.2, by have := rsz_mem I.regs x hx; unfold cntI at hc; omega⟩⟩, h7, h8, h9, h10, h11, h12, hl, ho⟩
/-- it says no: then there are few -/
def HV (I : Im) (w : World) (e : Ending) (w' : World) : Prop := ∃ r : Bool, e = .returned (.bool r) ∧ (r = false → cntI I < 4000000) ∧ Below w.heap.size w w'
theorem HV.yes {I : Im} {w w' : World} (hb : Below w.heap.size w w') : HV I w (.returned (.bool true)) w' := ⟨true, rfl, (fun h => by cases h), hb⟩
theorem HV.no {I : Im} {w w' : World} (h : cntI I < 4000000) (hb : Below w.heap.size w w') : HV I w (.returned (.bool false)) w' := ⟨false, rfl, (fun _ => h), hb⟩
set_option maxRecDepth 100000 in
set_option maxHeartbeats 8000000 in
theorem heavyX {w : World} {im : List Value} {I : Im} (h : ImW w im I) : Calls Tryz.prog 13 #[.agg im.toArray] w (HV I w) := by
  have HS := Lib.hid h.short
  obtain ⟨z0, z1, z2, z3, z4, z5, z6, z7, z8, z9, z10, z11, rfl⟩ := list12 h.len
  obtain ⟨v1, e1, R1, _⟩ := h.rams
  simp at e1
  subst e1
  obtain ⟨v2, e2, R2, _⟩ := h.devs
  simp at e2
  subst e2
  obtain ⟨v3, e3, R3, _⟩ := h.subs
  simp at e3
  subst e3
  obtain ⟨v4, e4, R4, _⟩ := h.ports
  simp at e4
  subst e4
  obtain ⟨v5, e5, R5, _⟩ := h.regs
  simp at e5
  subst e5
  have H5 := Lib.hid R5
  obtain ⟨v6, e6, R6, _⟩ := h.chs
  simp at e6
  subst e6
  obtain ⟨v7, e7, R7, _⟩ := h.irqs
  simp at e7
  subst e7
  obtain ⟨v8, e8, R8, _⟩ := h.plans
  simp at e8
  subst e8
  have H8 := Lib.hid R8
  obtain ⟨v11, e11, R11, _⟩ := h.tabs
  simp at e11
  subst e11
  clear h
  obtain ⟨a1, c1, rfl, l1, m1, _⟩ := R1
  unfold maxLen at m1
  obtain ⟨n1, q1⟩ : ∃ n, I.rams.length = n := ⟨_, rfl⟩
  have N1 := Lib.hid q1
  have b1 := HS.out.rams
  rw [q1] at b1
  rw [q1] at l1 ⊢
  clear q1 l1 m1
  obtain ⟨a2, c2, rfl, l2, m2, _⟩ := R2
  unfold maxLen at m2
  obtain ⟨n2, q2⟩ : ∃ n, I.devs.length = n := ⟨_, rfl⟩
  have N2 := Lib.hid q2
  have b2 := HS.out.devs
  rw [q2] at b2
  rw [q2] at l2 ⊢
  clear q2 l2 m2
  obtain ⟨a3, c3, rfl, l3, m3, _⟩ := R3
  unfold maxLen at m3
  obtain ⟨n3, q3⟩ : ∃ n, I.subs.length = n := ⟨_, rfl⟩
  have N3 := Lib.hid q3
  have b3 := HS.out.subs
  rw [q3] at b3
  rw [q3] at l3 ⊢
  clear q3 l3 m3
  obtain ⟨a4, c4, rfl, l4, m4, _⟩ := R4
  unfold maxLen at m4
  obtain ⟨n4, q4⟩ : ∃ n, I.ports.length = n := ⟨_, rfl⟩
  have N4 := Lib.hid q4
  have b4 := HS.out.ports
  rw [q4] at b4
  rw [q4] at l4 ⊢
  clear q4 l4 m4
  obtain ⟨a5, c5, rfl, l5, m5, _⟩ := R5
  unfold maxLen at m5
  obtain ⟨n5, q5⟩ : ∃ n, I.regs.length = n := ⟨_, rfl⟩
  have N5 := Lib.hid q5
  have b5 := HS.out.regs
  rw [q5] at b5
  rw [q5] at l5 H5 ⊢
  clear q5 l5 m5
  obtain ⟨a6, c6, rfl, l6, m6, _⟩ := R6
  unfold maxLen at m6
  obtain ⟨n6, q6⟩ : ∃ n, I.chs.length = n := ⟨_, rfl⟩
  have N6 := Lib.hid q6
  have b6 := HS.out.chs
  rw [q6] at b6
  rw [q6] at l6 ⊢
  clear q6 l6 m6
  obtain ⟨a7, c7, rfl, l7, m7, _⟩ := R7
  unfold maxLen at m7
  obtain ⟨n7, q7⟩ : ∃ n, I.irqs.length = n := ⟨_, rfl⟩
  have N7 := Lib.hid q7
  have b7 := HS.out.irqs
  rw [q7] at b7
  rw [q7] at l7 ⊢
  clear q7 l7 m7
  obtain ⟨a8, c8, rfl, l8, m8, _⟩ := R8
  unfold maxLen at m8
  obtain ⟨n8, q8⟩ : ∃ n, I.plans.length = n := ⟨_, rfl⟩
  have N8 := Lib.hid q8
  have b8 := HS.out.plans
  rw [q8] at b8
  rw [q8] at l8 H8 ⊢
  clear q8 l8 m8
  obtain ⟨a11, c11, rfl, l11, m11, _⟩ := R11
  unfold maxLen at m11
  obtain ⟨n11, q11⟩ : ∃ n, I.tabs.length = n := ⟨_, rfl⟩
  have N11 := Lib.hid q11
  have b11 := HS.out.tabs
  rw [q11] at b11
  rw [q11] at l11 ⊢
  clear q11 l11 m11
  have w1 : IntKind.i64.wrap ((n1 : Int) + (n2 : Int)) = (n1 : Int) + (n2 : Int) := by rw [IntKind.wrap_i64]; omega
  have w2 : IntKind.i64.wrap ((n1 : Int) + (n2 : Int) + (n3 : Int)) = (n1 : Int) + (n2 : Int) + (n3 : Int) := by rw [IntKind.wrap_i64]; omega
  have w3 : IntKind.i64.wrap ((n1 : Int) + (n2 : Int) + (n3 : Int) + (n4 : Int)) = (n1 : Int) + (n2 : Int) + (n3 : Int) + (n4 : Int) := by rw [IntKind.wrap_i64]; omega
  have w4 : IntKind.i64.wrap ((n1 : Int) + (n2 : Int) + (n3 : Int) + (n4 : Int) + (n6 : Int)) = (n1 : Int) + (n2 : Int) + (n3 : Int) + (n4 : Int) + (n6 : Int) := by rw [IntKind.wrap_i64]; omega
  have w5 : IntKind.i64.wrap ((n1 : Int) + (n2 : Int) + (n3 : Int) + (n4 : Int) + (n6 : Int) + (n7 : Int)) = (n1 : Int) + (n2 : Int) + (n3 : Int) + (n4 : Int) + (n6 : Int) + (n7 : Int) := by rw [IntKind.wrap_i64]; omega
  have w6 : IntKind.i64.wrap ((n1 : Int) + (n2 : Int) + (n3 : Int) + (n4 : Int) + (n6 : Int) + (n7 : Int) + (n8 : Int)) = (n1 : Int) + (n2 : Int) + (n3 : Int) + (n4 : Int) + (n6 : Int) + (n7 : Int) + (n8 : Int) := by rw [IntKind.wrap_i64]; omega
  have w7 : IntKind.i64.wrap ((n1 : Int) + (n2 : Int) + (n3 : Int) + (n4 : Int) + (n6 : Int) + (n7 : Int) + (n8 : Int) + (n11 : Int)) = (n1 : Int) + (n2 : Int) + (n3 : Int) + (n4 : Int) + (n6 : Int) + (n7 : Int) + (n8 : Int) + (n11 : Int) := by rw [IntKind.wrap_i64]; omega
  obtain ⟨m, hm⟩ : ∃ m, memI I = m := ⟨_, rfl⟩
  have hm' : m = n1 + n2 + n3 + n4 + n6 + n7 + n8 + n11 := by rw [← hm, memI, N1.out, N2.out, N3.out, N4.out, N6.out, N7.out, N8.out, N11.out]
  have HM := Lib.hid hm
  have hmi : (n1 : Int) + (n2 : Int) + (n3 : Int) + (n4 : Int) + (n6 : Int) + (n7 : Int) + (n8 : Int) + (n11 : Int) = (m : Int) := by omega
  have hmb : m ≤ 9007199254740992 := by omega
  have HCn : Hid (cntI I = m + rsz I.regs + plsz I.plans) := show _ = _ by rw [cntI, hm]
  clear hm hm'
  have HB9 : Hid (Below w.heap.size w (w.alloc (.cells #[z0, .slice a1 n1 c1, .slice a2 n2 c2, .slice a3 n3 c3, .slice a4 n4 c4, .slice a5 n5 c5, .slice a6 n6 c6, .slice a7 n7 c7, .slice a8 n8 c8, z9, z10, .slice a11 n11 c11] 37))) := (Below.refl _ _).alloc (Nat.le_refl _) _
  have d1 : (w.alloc (.cells #[z0, .slice a1 n1 c1, .slice a2 n2 c2, .slice a3 n3 c3, .slice a4 n4 c4, .slice a5 n5 c5, .slice a6 n6 c6, .slice a7 n7 c7, .slice a8 n8 c8, z9, z10, .slice a11 n11 c11] 37)).cell? ⟨w.heap.size, 1, none⟩ = some (.slice a1 n1 c1) := by simp [go_sem]
  have d2 : (w.alloc (.cells #[z0, .slice a1 n1 c1, .slice a2 n2 c2, .slice a3 n3 c3, .slice a4 n4 c4, .slice a5 n5 c5, .slice a6 n6 c6, .slice a7 n7 c7, .slice a8 n8 c8, z9, z10, .slice a11 n11 c11] 37)).cell? ⟨w.heap.size, 2, none⟩ = some (.slice a2 n2 c2) := by simp [go_sem]
  have d3 : (w.alloc (.cells #[z0, .slice a1 n1 c1, .slice a2 n2 c2, .slice a3 n3 c3, .slice a4 n4 c4, .slice a5 n5 c5, .slice a6 n6 c6, .slice a7 n7 c7, .slice a8 n8 c8, z9, z10, .slice a11 n11 c11] 37)).cell? ⟨w.heap.size, 3, none⟩ = some (.slice a3 n3 c3) := by simp [go_sem]
  have d4 : (w.alloc (.cells #[z0, .slice a1 n1 c1, .slice a2 n2 c2, .slice a3 n3 c3, .slice a4 n4 c4, .slice a5 n5 c5, .slice a6 n6 c6, .slice a7 n7 c7, .slice a8 n8 c8, z9, z10, .slice a11 n11 c11] 37)).cell? ⟨w.heap.size, 4, none⟩ = some (.slice a4 n4 c4) := by simp [go_sem]
  have d5 : (w.alloc (.cells #[z0, .slice a1 n1 c1, .slice a2 n2 c2, .slice a3 n3 c3, .slice a4 n4 c4, .slice a5 n5 c5, .slice a6 n6 c6, .slice a7 n7 c7, .slice a8 n8 c8, z9, z10, .slice a11 n11 c11] 37)).cell? ⟨w.heap.size, 5, none⟩ = some (.slice a5 n5 c5) := by simp [go_sem]
  have d6 : (w.alloc (.cells #[z0, .slice a1 n1 c1, .slice a2 n2 c2, .slice a3 n3 c3, .slice a4 n4 c4, .slice a5 n5 c5, .slice a6 n6 c6, .slice a7 n7 c7, .slice a8 n8 c8, z9, z10, .slice a11 n11 c11] 37)).cell? ⟨w.heap.size, 6, none⟩ = some (.slice a6 n6 c6) := by simp [go_sem]
  have d7 : (w.alloc (.cells #[z0, .slice a1 n1 c1, .slice a2 n2 c2, .slice a3 n3 c3, .slice a4 n4 c4, .slice a5 n5 c5, .slice a6 n6 c6, .slice a7 n7 c7, .slice a8 n8 c8, z9, z10, .slice a11 n11 c11] 37)).cell? ⟨w.heap.size, 7, none⟩ = some (.slice a7 n7 c7) := by simp [go_sem]
  have d8 : (w.alloc (.cells #[z0, .slice a1 n1 c1, .slice a2 n2 c2, .slice a3 n3 c3, .slice a4 n4 c4, .slice a5 n5 c5, .slice a6 n6 c6, .slice a7 n7 c7, .slice a8 n8 c8, z9, z10, .slice a11 n11 c11] 37)).cell? ⟨w.heap.size, 8, none⟩ = some (.slice a8 n8 c8) := by simp [go_sem]
  have d11 : (w.alloc (.cells #[z0, .slice a1 n1 c1, .slice a2 n2 c2, .slice a3 n3 c3, .slice a4 n4 c4, .slice a5 n5 c5, .slice a6 n6 c6, .slice a7 n7 c7, .slice a8 n8 c8, z9, z10, .slice a11 n11 c11] 37)).cell? ⟨w.heap.size, 11, none⟩ = some (.slice a11 n11 c11) := by simp [go_sem]
  have H5W := Lib.hid (H5.out.below HB9.out)
  have H8W := Lib.hid (H8.out.below HB9.out)
  clear H5 H8
  go_enter Tryz.func13, Tryz.ntmps13
  go_upto_region 1 with fail
  generalize (w.alloc (.cells #[z0, .slice a1 n1 c1, .slice a2 n2 c2, .slice a3 n3 c3, .slice a4 n4 c4, .slice a5 n5 c5, .slice a6 n6 c6, .slice a7 n7 c7, .slice a8 n8 c8, z9, z10, .slice a11 n11 c11] 37)) = W at *
  go_wp2_with fail
  clear w1 w2 w3 w4 w5 w6 w7
  clear d1 d2 d3 d4 d6 d7 d11
  go_loopw [3, 4] (fun nv jv wr => ∃ j N : Nat, j ≤ n5 ∧ nv = .int .i64 (N : Int) ∧ jv = .int .i64 (j : Int) ∧ Hid (N = m + rsz (I.regs.take j)) ∧ N ≤ 36028797018963968 ∧ wr = W) (fun _ jv _ => n5 - (intOf jv).toNat)
  case atStart => exact ⟨0, m, by omega, by first | rfl | rw [hmi], rfl, Lib.hid (by simp [rsz]), by omega, rfl⟩
  obtain ⟨j, N, hj, rfl, rfl, HN, hNb, hwr⟩ := hrel
  have hwr := hwr.symm
  subst hwr
  by_cases hj5 : j < n5
  case neg =>
    have jj : ¬ (j : Int) < (n5 : Int) := by omega
    have HX : Hid (N < 4000000 → N = m + rsz I.regs) := fun _ => by
      rw [HN.out, List.take_of_length_le (by rw [N5.out]; omega)]
    clear HN
    go_wp2_with fail
    clear jj
    go_loopw [3, 5] (fun nv jv wr => ∃ p M : Nat, p ≤ n8 ∧ nv = .int .i64 (M : Int) ∧ jv = .int .i64 (p : Int) ∧ Hid (M < 4000000 → M = m + rsz I.regs + plsz (I.plans.take p)) ∧ M ≤ 36028797018963968 ∧ wr = W) (fun _ jv _ => n8 - (intOf jv).toNat)
    case atStart => exact ⟨0, N, by omega, rfl, rfl, (fun h => by have := HX.out h; simp [plsz]; omega), by omega, rfl⟩
    clear HX
    obtain ⟨p, M, hp, rfl, rfl, HP, hMb, hwr⟩ := hrel
    have hwr := hwr.symm
    subst hwr
    by_cases hp8 : p < n8
    case neg =>
      have jp : ¬ (p : Int) < (n8 : Int) := by omega
      by_cases hM4 : M < 4000000
      · have jM : (M : Int) < 4000000 := by omega
        have jM' : ¬ (4000000 : Int) ≤ (M : Int) := by omega
        by_cases hR : 4000000 ≤ n5
        · have jR : (4000000 : Int) ≤ (n5 : Int) := by omega
          go_wp2_with fail
          go_ret
          exact HV.yes HB9.out
        · have jR : ¬ (4000000 : Int) ≤ (n5 : Int) := by omega
          have HZ : Hid (cntI I < 4000000) := show _ < _ by rw [HCn.out]; have := HP.out hM4; rw [List.take_of_length_le (by rw [N8.out]; omega)] at this; omega
          go_wp2_with fail
          go_ret
          exact HV.no HZ.out HB9.out
      · have jM : ¬ (M : Int) < 4000000 := by omega
        have jM' : (4000000 : Int) ≤ (M : Int) := by omega
        go_wp2_with fail
        go_ret
        exact HV.yes HB9.out
    have jp : (p : Int) < (n8 : Int) := by omega
    by_cases hM4 : M < 4000000
    case neg =>
      have jM : ¬ (M : Int) < 4000000 := by omega
      have jM' : (4000000 : Int) ≤ (M : Int) := by omega
      go_wp2_with fail
      go_ret
      exact HV.yes HB9.out
    have jM : (M : Int) < 4000000 := by omega
    have hpx : p < I.plans.length := by rw [N8.out]; exact hp8
    obtain ⟨_, _, e', _, _, hc⟩ := H8W.out
    simp only [Value.slice.injEq] at e'
    obtain ⟨rfl, e9, rfl⟩ := e'
    clear e9
    obtain ⟨b, of, u, rfl, _, cu, hL⟩ := hc p hpx
    have HT := Lib.hid (plsz_take I.plans p hpx)
    have HLs := Lib.hid (HS.out.lanes I.plans[p] (List.getElem_mem hpx))
    clear hc
    generalize I.plans[p] = X at *
    have HL := Lib.hid hL
    obtain ⟨la, lc, rfl, _, _, _⟩ := hL
    obtain ⟨L, hLn⟩ : ∃ n, X.lanes.length = n := ⟨_, rfl⟩
    have HLn := Lib.hid hLn
    have hLb := HLs.out.1
    rw [hLn] at cu hLb HL
    clear hLn
    have hw3 : IntKind.i64.wrap ((p : Int) + 1) = ((p + 1 : Nat) : Int) := by rw [IntKind.wrap_i64]; omega
    go_wp2_with fail
    go_loopw [3, 6] (fun nv kv wr => ∃ k K : Nat, k ≤ L ∧ nv = .int .i64 (K : Int) ∧ kv = .int .i64 (k : Int) ∧ Hid (K < 4000000 → K = m + rsz I.regs + plsz (I.plans.take p) + lsz (X.lanes.take k)) ∧ K ≤ 36028797018963968 ∧ wr = W) (fun _ kv _ => L - (intOf kv).toNat)
    case atStart => exact ⟨0, M, by omega, rfl, rfl, (fun h => by have := HP.out h; simp [lsz]; omega), by omega, rfl⟩
    clear HP jM
    obtain ⟨k, K, hk, rfl, rfl, HK, hKb, hwr⟩ := hrel
    have hwr := hwr.symm
    subst hwr
    by_cases hkL : k < L
    case neg =>
      have jk : ¬ (k : Int) < (L : Int) := by omega
      have HY : Hid (K < 4000000 → K = m + rsz I.regs + plsz (I.plans.take (p + 1))) := fun h => by
        have := HK.out h
        rw [show X.lanes.take k = X.lanes from List.take_of_length_le (by rw [HLn.out]; omega)] at this
        rw [HT.out]
        omega
      clear HK
      go_wp2_with fail
      go_roundw
      case rel => exact ⟨p + 1, K, by omega, rfl, by rfl, HY, by omega, by first | rfl | trivial⟩
      case measure => simp [intOf]; omega
    have jk : (k : Int) < (L : Int) := by omega
    by_cases hK4 : K < 4000000
    case neg =>
      have jK : ¬ (K : Int) < 4000000 := by omega
      have HY : Hid (K < 4000000 → K = m + rsz I.regs + plsz (I.plans.take (p + 1))) := fun h => absurd h hK4
      clear HK
      go_wp2_with fail
      go_roundw
      case rel => exact ⟨p + 1, K, by omega, rfl, by rfl, HY, by omega, by first | rfl | trivial⟩
      case measure => simp [intOf]; omega
    have jK : (K : Int) < 4000000 := by omega
    have hkx : k < X.lanes.length := by rw [HLn.out]; exact hkL
    obtain ⟨_, _, e', _, _, hc⟩ := HL.out
    simp only [Value.slice.injEq] at e'
    obtain ⟨rfl, e9, rfl⟩ := e'
    clear e9
    obtain ⟨lb, lo, u, rfl, cl, hR⟩ := hc k hkx
    have HTl := Lib.hid (lsz_take X.lanes k hkx)
    have hlb := HLs.out.2 X.lanes[k] (List.getElem_mem hkx)
    clear hc
    generalize X.lanes[k] = l at *
    obtain ⟨ra, rc, rfl, _, _, _⟩ := hR
    obtain ⟨t, hlt⟩ : ∃ t, l.length = t := ⟨_, rfl⟩
    rw [hlt] at hlb HTl cl
    clear hlt
    have hx1 : IntKind.i64.wrap ((K : Int) + 1) = (K : Int) + 1 := by rw [IntKind.wrap_i64]; omega
    have hx2 : IntKind.i64.wrap ((K : Int) + 1 + (t : Int)) = ((K + 1 + t : Nat) : Int) := by rw [IntKind.wrap_i64]; omega
    have hx3 : IntKind.i64.wrap ((k : Int) + 1) = ((k + 1 : Nat) : Int) := by rw [IntKind.wrap_i64]; omega
    go_wp2_with fail
    go_roundw
    case rel => exact ⟨k + 1, K + 1 + t, by omega, by rfl, by rfl, (fun h => by have := HK.out hK4; rw [HTl.out]; omega), by omega, by first | rfl | trivial⟩
    case measure => simp [intOf]; omega
  have jj : (j : Int) < (n5 : Int) := by omega
  by_cases hN4 : N < 4000000
  case neg =>
    have jN : ¬ (N : Int) < 4000000 := by omega
    have HX : Hid (N < 4000000 → N = m + rsz I.regs) := fun h => absurd h hN4
    clear HN
    go_wp2_with fail
    clear jj jN
    go_loopw [3, 5] (fun nv jv wr => ∃ p M : Nat, p ≤ n8 ∧ nv = .int .i64 (M : Int) ∧ jv = .int .i64 (p : Int) ∧ Hid (M < 4000000 → M = m + rsz I.regs + plsz (I.plans.take p)) ∧ M ≤ 36028797018963968 ∧ wr = W) (fun _ jv _ => n8 - (intOf jv).toNat)
    case atStart => exact ⟨0, N, by omega, rfl, rfl, (fun h => by have := HX.out h; simp [plsz]; omega), by omega, rfl⟩
    clear HX
    obtain ⟨p, M, hp, rfl, rfl, HP, hMb, hwr⟩ := hrel
    have hwr := hwr.symm
    subst hwr
    by_cases hp8 : p < n8
    case neg =>
      have jp : ¬ (p : Int) < (n8 : Int) := by omega
      by_cases hM4 : M < 4000000
      · have jM : (M : Int) < 4000000 := by omega
        have jM' : ¬ (4000000 : Int) ≤ (M : Int) := by omega
        by_cases hR : 4000000 ≤ n5
        · have jR : (4000000 : Int) ≤ (n5 : Int) := by omega
          go_wp2_with fail
          go_ret
          exact HV.yes HB9.out
        · have jR : ¬ (4000000 : Int) ≤ (n5 : Int) := by omega
          have HZ : Hid (cntI I < 4000000) := show _ < _ by rw [HCn.out]; have := HP.out hM4; rw [List.take_of_length_le (by rw [N8.out]; omega)] at this; omega
          go_wp2_with fail
          go_ret
          exact HV.no HZ.out HB9.out
      · have jM : ¬ (M : Int) < 4000000 := by omega
        have jM' : (4000000 : Int) ≤ (M : Int) := by omega
        go_wp2_with fail
        go_ret
        exact HV.yes HB9.out
    have jp : (p : Int) < (n8 : Int) := by omega
    by_cases hM4 : M < 4000000
    case neg =>
      have jM : ¬ (M : Int) < 4000000 := by omega
      have jM' : (4000000 : Int) ≤ (M : Int) := by omega
      go_wp2_with fail
      go_ret
      exact HV.yes HB9.out
    have jM : (M : Int) < 4000000 := by omega
    have hpx : p < I.plans.length := by rw [N8.out]; exact hp8
    obtain ⟨_, _, e', _, _, hc⟩ := H8W.out
    simp only [Value.slice.injEq] at e'
    obtain ⟨rfl, e9, rfl⟩ := e'
    clear e9
    obtain ⟨b, of, u, rfl, _, cu, hL⟩ := hc p hpx
    have HT := Lib.hid (plsz_take I.plans p hpx)
    have HLs := Lib.hid (HS.out.lanes I.plans[p] (List.getElem_mem hpx))
    clear hc
    generalize I.plans[p] = X at *
    have HL := Lib.hid hL
    obtain ⟨la, lc, rfl, _, _, _⟩ := hL
    obtain ⟨L, hLn⟩ : ∃ n, X.lanes.length = n := ⟨_, rfl⟩
    have HLn := Lib.hid hLn
    have hLb := HLs.out.1
    rw [hLn] at cu hLb HL
    clear hLn
    have hw3 : IntKind.i64.wrap ((p : Int) + 1) = ((p + 1 : Nat) : Int) := by rw [IntKind.wrap_i64]; omega
    go_wp2_with fail
    go_loopw [3, 6] (fun nv kv wr => ∃ k K : Nat, k ≤ L ∧ nv = .int .i64 (K : Int) ∧ kv = .int .i64 (k : Int) ∧ Hid (K < 4000000 → K = m + rsz I.regs + plsz (I.plans.take p) + lsz (X.lanes.take k)) ∧ K ≤ 36028797018963968 ∧ wr = W) (fun _ kv _ => L - (intOf kv).toNat)
    case atStart => exact ⟨0, M, by omega, rfl, rfl, (fun h => by have := HP.out h; simp [lsz]; omega), by omega, rfl⟩
    clear HP jM
    obtain ⟨k, K, hk, rfl, rfl, HK, hKb, hwr⟩ := hrel
    have hwr := hwr.symm
    subst hwr
    by_cases hkL : k < L
    case neg =>
      have jk : ¬ (k : Int) < (L : Int) := by omega
      have HY : Hid (K < 4000000 → K = m + rsz I.regs + plsz (I.plans.take (p + 1))) := fun h => by
        have := HK.out h
        rw [show X.lanes.take k = X.lanes from List.take_of_length_le (by rw [HLn.out]; omega)] at this
        rw [HT.out]
        omega
      clear HK
      go_wp2_with fail
      go_roundw
      case rel => exact ⟨p + 1, K, by omega, rfl, by rfl, HY, by omega, by first | rfl | trivial⟩
      case measure => simp [intOf]; omega
    have jk : (k : Int) < (L : Int) := by omega
    by_cases hK4 : K < 4000000
    case neg =>
      have jK : ¬ (K : Int) < 4000000 := by omega
      have HY : Hid (K < 4000000 → K = m + rsz I.regs + plsz (I.plans.take (p + 1))) := fun h => absurd h hK4
      clear HK
      go_wp2_with fail
      go_roundw
      case rel => exact ⟨p + 1, K, by omega, rfl, by rfl, HY, by omega, by first | rfl | trivial⟩
      case measure => simp [intOf]; omega
    have jK : (K : Int) < 4000000 := by omega
    have hkx : k < X.lanes.length := by rw [HLn.out]; exact hkL
    obtain ⟨_, _, e', _, _, hc⟩ := HL.out
    simp only [Value.slice.injEq] at e'
    obtain ⟨rfl, e9, rfl⟩ := e'
    clear e9
    obtain ⟨lb, lo, u, rfl, cl, hR⟩ := hc k hkx
    have HTl := Lib.hid (lsz_take X.lanes k hkx)
    have hlb := HLs.out.2 X.lanes[k] (List.getElem_mem hkx)
    clear hc
    generalize X.lanes[k] = l at *
    obtain ⟨ra, rc, rfl, _, _, _⟩ := hR
    obtain ⟨t, hlt⟩ : ∃ t, l.length = t := ⟨_, rfl⟩
    rw [hlt] at hlb HTl cl
    clear hlt
    have hx1 : IntKind.i64.wrap ((K : Int) + 1) = (K : Int) + 1 := by rw [IntKind.wrap_i64]; omega
    have hx2 : IntKind.i64.wrap ((K : Int) + 1 + (t : Int)) = ((K + 1 + t : Nat) : Int) := by rw [IntKind.wrap_i64]; omega
    have hx3 : IntKind.i64.wrap ((k : Int) + 1) = ((k + 1 : Nat) : Int) := by rw [IntKind.wrap_i64]; omega
    go_wp2_with fail
    go_roundw
    case rel => exact ⟨k + 1, K + 1 + t, by omega, by rfl, by rfl, (fun h => by have := HK.out hK4; rw [HTl.out]; omega), by omega, by first | rfl | trivial⟩
    case measure => simp [intOf]; omega
  have jN : (N : Int) < 4000000 := by omega
  have hix : j < I.regs.length := by rw [N5.out]; exact hj5
  obtain ⟨_, _, e', _, _, hc⟩ := H5W.out
  simp only [Value.slice.injEq] at e'
  obtain ⟨rfl, e9, rfl⟩ := e'
  clear e9
  obtain ⟨b, of, rfl, _, hc⟩ := hc j hix
  have hc3 := hc 3 (by decide)
  clear hc
  have HT := Lib.hid (rsz_take I.regs j hix)
  have ht := HS.out.txt I.regs[j] (List.getElem_mem hix)
  generalize I.regs[j] = g at *
  have c3 : W.cell? ⟨b, of + j * 4 + 3, none⟩ = some (.string g.txt) := hc3
  clear hc3
  obtain ⟨t, hgt⟩ : ∃ t, g.txt.size = t := ⟨_, rfl⟩
  rw [hgt] at ht HT
  have hw1 : IntKind.i64.wrap ((N : Int) + 1) = (N : Int) + 1 := by rw [IntKind.wrap_i64]; omega
  have hw2 : IntKind.i64.wrap ((N : Int) + 1 + (t : Int)) = ((N + 1 + t : Nat) : Int) := by rw [IntKind.wrap_i64]; omega
  have hw3 : IntKind.i64.wrap ((j : Int) + 1) = ((j + 1 : Nat) : Int) := by rw [IntKind.wrap_i64]; omega
  go_wp2_with fail
  go_roundw
  case rel => exact ⟨j + 1, N + 1 + t, by omega, by rfl, by rfl, by rw [HT.out, HN.out]; exact Lib.hid (by omega), by omega, by first | rfl | trivial⟩
  case measure => simp [intOf]; omega
end Go.Proofs.YtnifefmfhjfbnaaGreatDoor
