import Derived.Test.YtnifefmfhjfbnaaGreatDoorPk51
import Derived.Test.YtnifefmfhjfbnaaGreatDoorPk47
import Derived.Test.YtnifefmfhjfbnaaGreatDoorPk48
/- Bundle: the closed sentence. Own work. -/
namespace Go.Proofs.YtnifefmfhjfbnaaGreatDoor
open Go.RowKit Bn Dc
set_option linter.unusedVariables false
set_option linter.unusedSimpArgs false
theorem imz_A (w : World) : ImA w im0 zeroI := (ImD.zero w 0).imA rfl ⟨⟨Nat.zero_le _, fun _ h => (nomatch h), fun _ h => (nomatch h), fun _ h => (nomatch h), fun _ h => (nomatch h)⟩, fun _ h => (nomatch h), fun _ h => (nomatch h), fun _ h => (nomatch h), fun _ h => (nomatch h), fun _ h => (nomatch h), by show I64R 0; unfold I64R; omega, by show I64R 0; unfold I64R; omega⟩
theorem keyW (w3 : World) {k9 : Nat} (hk9 : w3.heap.size = k9) (im : List Value) (p q : Int) : ∃ W4, (((w3.alloc (.cells im0.toArray 37)).alloc (.cells (whA 0 0) 41)).setRow k9 im.toArray).setRow (k9 + 1) (whA p q) = W4 ∧ ((w3.alloc (.cells im0.toArray 37)).alloc (.cells (whA 0 0) 41)).heap[k9]? = some (.cells im0.toArray 37 (0, 0)) ∧ (((w3.alloc (.cells im0.toArray 37)).alloc (.cells (whA 0 0) 41)).setRow k9 im.toArray).heap[k9 + 1]? = some (.cells (whA 0 0) 41 (0, 0)) ∧ W4.heap[k9]? = some (.cells im.toArray 37 (0, 0)) ∧ W4.heap[k9 + 1]? = some (.cells (whA p q) 41 (0, 0)) ∧ Below w3.heap.size w3 W4 := by
 have s1 : (w3.alloc (.cells im0.toArray 37)).heap.size = k9 + 1 := by simp [hk9]
 have hA0 : (w3.alloc (.cells im0.toArray 37)).heap[k9]? = some (.cells im0.toArray 37 (0, 0)) := hk9 ▸ heap_alloc_new w3 _
 have hA1 : ((w3.alloc (.cells im0.toArray 37)).alloc (.cells (whA 0 0) 41)).heap[k9]? = some (.cells im0.toArray 37 (0, 0)) := (Below.heap_alloc _ _ k9 (by rw [s1]; omega)).trans hA0
 have hB1 : ((w3.alloc (.cells im0.toArray 37)).alloc (.cells (whA 0 0) 41)).heap[k9 + 1]? = some (.cells (whA 0 0) 41 (0, 0)) := by
  have := heap_alloc_new (w3.alloc (.cells im0.toArray 37)) (.cells (whA 0 0) 41)
  rw [s1] at this
  exact this
 have hb4 : Below w3.heap.size w3 ((w3.alloc (.cells im0.toArray 37)).alloc (.cells (whA 0 0) 41)) := ((Below.refl _ _).alloc (Nat.le_refl _) _).alloc (by rw [s1]; omega) _
 have hB2 : (((w3.alloc (.cells im0.toArray 37)).alloc (.cells (whA 0 0) 41)).setRow k9 im.toArray).heap[k9 + 1]? = some (.cells (whA 0 0) 41 (0, 0)) := by rw [row_ne (by omega) _]; exact hB1
 refine ⟨_, rfl, hA1, hB2, ?_, setRow_heap _ _ _ _ _ _ hB2, (hb4.trans (below_setRow _ _ _ _ (by omega))).trans (below_setRow _ _ _ _ (by omega))⟩
 rw [row_ne (by omega) _]
 exact setRow_heap _ _ _ _ _ _ hA1
end Go.Proofs.YtnifefmfhjfbnaaGreatDoor
/- Bundle: an image is hurt. Own work. -/
namespace Go.Proofs.YtnifefmfhjfbnaaGreatDoor
open Go.RowKit Bn Dc
set_option linter.unusedVariables false
set_option linter.unusedSimpArgs false
theorem sl_nilB (w : World) : Sl w (.slice none 0 0) [] := ⟨none, 0, rfl, by simp, by simp [maxLen], by simp, fun _ => rfl, fun i hi => by simp at hi⟩
/-- what Decode answers, whatever it is -/
theorem dec_any {w : World} {v : Value} {bs : List Nat} (hs : Sl w v bs) (ht : Tab w) : Calls Tryz.prog 9 #[v] w fun e w' => ∃ (im : List Value) (sec ad why : Int), e = .returned (.tuple #[.agg im.toArray, .agg (whA sec ad), .int .i64 why]) ∧ (why = 0 ↔ (decA bs).why = 0) ∧ (why ≠ 0 → im = im0) ∧ im.toArray.all (·.oneCell') = true ∧ im.length = 12 ∧ Below w.heap.size w w' := by
 refine (decodeX hs ht).mono ?_
 rintro e w' ⟨he, hb⟩
 rcases he with ⟨hw, im, rfl, hl, hi⟩ | ⟨hn, h⟩
 ·exact ⟨im, 0, 0, 0, rfl, ⟨fun _ => hw, fun _ => rfl⟩, fun h => absurd rfl h, hi.one hl, hl, hb⟩
 ·exact ⟨im0, _, _, _, h, Iff.rfl, fun _ => rfl, by kernel_rfl, rfl, hb⟩
set_option maxRecDepth 100000 in
set_option maxHeartbeats 16000000 in
theorem hurt_any {w : World} {ui : List Value} {I : Im} {must : Bool} {sc at_ : Int} {pat : Nat} (ht : Tab w) (hA : ImA w ui I) (hz : szI I ≤ 20000000000) (hm : must = true → (sizeF I).2 = 0) (hp : pat < 4294967296) : Calls Tryz.prog 15 #[.agg ui.toArray, .int .i64 sc, .int .i64 at_, .int .u32 (pat : Int), .bool must] w (LQ w) := by
 have HInu := Lib.hid (info_im hA.len)
 have HT := Lib.hid ht
 have HA := Lib.hid hA
 have HZ : Hid (szI I ≤ 20000000000) := hz
 have HK : Hid (ImK I) := im_ok hA
 have HP : Hid (pat < 4294967296) := hp
 obtain ⟨B0, hB0⟩ : ∃ B, w.heap.size = B := ⟨_, rfl⟩
 have HB0 : Hid (Below B0 w (w.alloc (.cells ui.toArray 37))) := hB0 ▸ ((Below.refl _ _).alloc (Nat.le_refl _) _)
 have HX0 : Hid ((w.alloc (.cells ui.toArray 37)).heap[B0]? = some (.cells ui.toArray 37 (0, 0))) := hB0 ▸ (heap_alloc_new w _)
 have HW : Hid (LQ w = fun e w' => e = .returned (.bool true) ∧ Below B0 w w') := show _ = _ by
  funext e w'
  unfold LQ
  rw [hB0]
 rw [HW.out]
 clear ht hA hz HW hp
 go_enter Tryz.func15, Tryz.ntmps15
 go_upto_region 1 with fail
 try simp only [hB0]
 generalize (w.alloc (.cells ui.toArray 37)) = W0 at *
 have HE : Hid (∀ W, Below B0 w W → Calls Tryz.prog 7 #[.agg ui.toArray] W fun e w' => (((sizeF I).2 ≠ 0 ∧ e = .returned (.tuple #[.slice none 0 0, .int .i64 (sizeF I).2])) ∨ ((sizeF I).2 = 0 ∧ ∃ g, e = .returned (.tuple #[.slice (some ⟨g, 0, none⟩) (encF I).length (encF I).length, .int .i64 0]) ∧ W.heap.size ≤ g ∧ Row w' g (encF I))) ∧ Below W.heap.size W w') := fun W hW => encodeX (HA.out.below (hB0 ▸ hW)) (HT.out.below (hB0 ▸ hW)) HZ.out
 have HHe : Hid (∀ W, Below (B0 + 1) W0 W → W.heap[B0]? = some (.cells ui.toArray 37 (0, 0)) ∧ Below B0 w W) := fun W hW => ⟨(hW.block B0 (Nat.lt_succ_self _)).trans HX0.out, HB0.out.trans (hW.mono (Nat.le_succ _))⟩
 have HSz0 : Hid (B0 + 1 ≤ W0.heap.size) := show _ ≤ _ by
  have := (Array.getElem?_eq_some_iff.1 HX0.out).1
  omega
 have HE1 := Lib.hid (HE.out W0 HB0.out)
 clear HE
 have HHx := HX0.out
 go_wp2_with (refine wpList_load_arr rfl 37 (.tmp 5) rfl (b := B0) (g := ui.toArray) rfl HX0.out Tryz.underlying37 rfl HInu.out ?_)
 refine HE1.out.mono ?_
 rintro e w1 ⟨he, hb1⟩
 have HB1 : Hid (Below (B0 + 1) W0 w1) := hb1.mono HSz0.out
 have HL1 : Hid (B0 + 1 ≤ w1.heap.size) := Nat.le_trans HSz0.out hb1.size
 clear hb1 HE1 HHx
 obtain ⟨z2, hz2⟩ : ∃ z, (sizeF I).2 = z := ⟨_, rfl⟩
 have HZ2 := Lib.hid hz2
 rw [hz2] at he hm
 clear hz2
 rcases he with ⟨hn, rfl⟩ | ⟨hn, g, rfl, hg, hr⟩
 ·have hm' : must = false := by
   cases must with
   | true => exact absurd (hm rfl) hn
   | false => rfl
  subst hm'
  clear hm
  have HD := Lib.hid (dec_any (sl_nilB w1) (HT.out.below (hB0 ▸ (HHe.out _ HB1.out).2)))
  go_wp2_with fail
  refine HD.out.mono ?_
  rintro e w2 ⟨im, sec, ad, why, rfl, _, _, ho, hl, hb2⟩
  obtain ⟨k9, hk9⟩ : ∃ k, w2.heap.size = k := ⟨_, rfl⟩
  obtain ⟨W4, hW4, hA1, hB1, hX, hW, hb4⟩ := keyW w2 hk9 im sec ad
  have HIn9 := Lib.hid (info_im hl)
  have HOn := Lib.hid ho
  have HL : Hid (im.length = 12) := hl
  have HA1 := Lib.hid hA1
  have HBb := Lib.hid hB1
  have HF : Hid (Below B0 w W4) := (HHe.out _ (HB1.out.trans ((hb2.trans (hb4.mono hb2.size)).mono HL1.out))).2
  clear hb2 hb4 hX hW hA1 hB1 hl ho HD
  go_upto_region 3 with (first | (refine wpList_store_arr rfl 37 (.tmp 13) (.tmp 30) rfl (b := k9) (Z := im0.toArray) (g := im.toArray) rfl rfl rfl HA1.out HIn9.out (by simp [HL.out, im0]) HOn.out ?_) | (refine wpList_store_arr rfl 41 (.tmp 14) (.tmp 31) rfl (b := k9 + 1) (Z := whA 0 0) (g := whA sec ad) rfl rfl rfl HBb.out (info_wh sec ad) rfl (by kernel_rfl) ?_))
  show Code.wp _ _ _ _ ((((w2.alloc (.cells im0.toArray 37)).alloc (.cells (whA 0 0) 41)).setRow k9 im.toArray).setRow (k9 + 1) (whA sec ad))
  rw [hW4]
  clear hW4 hk9 HA1 HBb
  go_wp2_with fail
  go_ret
  exact ⟨by simp [hn], HF.out⟩
 ·subst hn
  clear hm
  obtain ⟨J, hdec, _, _⟩ := back_all HK.out HZ2.out
  have hw0 : (decA (encF I)).why = 0 := by rw [hdec]
  have HW0 : Hid ((decA (encF I)).why = 0) := hw0
  have hnl : 160 ≤ (encF I).length ∧ (encF I).length ≤ 4194304 := by
   obtain ⟨p1, p2, p3, p4, p5, p6, p7⟩ := enc_parts HZ2.out
   omega
  obtain ⟨N, hN⟩ : ∃ N, (encF I).length = N := ⟨_, rfl⟩
  rw [hN] at hnl
  obtain ⟨hn1, hn2⟩ := hnl
  have HN := Lib.hid hN
  have HR := Lib.hid hr
  have HSl : Hid (∀ W, Below w1.heap.size w1 W → Sl W (.slice (some ⟨g, 0, none⟩) N N) (encF I)) := fun W hW => by
   have h9 := row_sl HR.out (sm_enc I) (enc_le HZ.out)
   rw [HN.out] at h9
   exact h9.below hW
  have HD := Lib.hid (dec_any (HSl.out w1 (Below.refl _ _)) (HT.out.below (hB0 ▸ (HHe.out _ HB1.out).2)))
  rw [hN]
  clear hdec hw0 hr hg hN
  go_wp2_with fail
  refine HD.out.mono ?_
  rintro e w2 ⟨im, sec, ad, why, rfl, hy, _, ho, hl, hb2⟩
  obtain rfl : why = 0 := hy.2 HW0.out
  clear HW0
  obtain ⟨k9, hk9⟩ : ∃ k, w2.heap.size = k := ⟨_, rfl⟩
  obtain ⟨W4, hW4, hA1, hB1, hX, hW, hb4⟩ := keyW w2 hk9 im sec ad
  have HIn9 := Lib.hid (info_im hl)
  have HOn := Lib.hid ho
  have HL : Hid (im.length = 12) := hl
  have HA1 := Lib.hid hA1
  have HBb := Lib.hid hB1
  have HB4 : Hid (Below w1.heap.size w1 W4) := hb2.trans (hb4.mono hb2.size)
  have HF : Hid (Below (B0 + 1) W0 W4) := HB1.out.trans (HB4.out.mono HL1.out)
  clear hb2 hb4 hX hW hA1 hB1 hl ho HD hy
  go_upto_region 3 with (first | (refine wpList_store_arr rfl 37 (.tmp 13) (.tmp 30) rfl (b := k9) (Z := im0.toArray) (g := im.toArray) rfl rfl rfl HA1.out HIn9.out (by simp [HL.out, im0]) HOn.out ?_) | (refine wpList_store_arr rfl 41 (.tmp 14) (.tmp 31) rfl (b := k9 + 1) (Z := whA 0 0) (g := whA sec ad) rfl rfl rfl HBb.out (info_wh sec ad) rfl (by kernel_rfl) ?_))
  show Code.wp _ _ _ _ ((((w2.alloc (.cells im0.toArray 37)).alloc (.cells (whA 0 0) 41)).setRow k9 im.toArray).setRow (k9 + 1) (whA sec ad))
  rw [hW4]
  clear hW4 hk9 HA1 HBb
  have HWi := Lib.hid (within_any sc 8 W4 (by omega) (by omega))
  go_wp2_with fail
  refine HWi.out.mono ?_
  rintro e w5 ⟨r, rfl, hr8, rfl⟩
  clear HWi
  rcases Nat.eq_zero_or_pos r with rfl | hrp
  ·clear hr8
   have HFa : Hid (Fall I 0 0 156) := fall_head HZ2.out
   have HBu := Lib.hid (burst_fall (at_ := at_) HFa.out (by decide) (HSl.out w5 HB4.out) (by rw [HN.out]; exact hn2) HP.out)
   have HT5 : Hid (Tab w5) := HT.out.below (hB0 ▸ (HHe.out _ HF.out).2)
   clear HFa
   have hn3 : (156 : Int) ≤ (N : Int) := by omega
   go_upto_region 9 with fail
   clear HIn9 HOn HL HInu HX0
   go_wp2_with fail
   have hBu := HBu.out
   refine hBu.mono ?_
   rintro e w6 ⟨v6, ys, rfl, hs6, hn6, hb6⟩
   have HD6 := Lib.hid (dec_any hs6 (HT5.out.below hb6))
   have HN6 : Hid ((decA ys).why ≠ 0) := hn6
   have HB6 : Hid (Below (B0 + 1) W0 w6) := HF.out.trans (hb6.mono (Nat.le_trans HL1.out HB4.out.size))
   have HL6 : Hid (B0 + 1 ≤ w6.heap.size) := Nat.le_trans (Nat.le_trans HL1.out HB4.out.size) hb6.size
   clear hBu HBu hs6 hn6 hb6
   go_wp2_with fail
   refine HD6.out.mono ?_
   rintro e w7 ⟨jm, sec2, ad2, why, rfl, hy, hz, ho, hl, hb7⟩
   have hwn : why ≠ 0 := fun e => HN6.out (hy.1 e)
   obtain rfl := hz hwn
   obtain ⟨k8, hk8⟩ : ∃ k, w7.heap.size = k := ⟨_, rfl⟩
   obtain ⟨W8, hW8, hA1, hB1, hX, hW, hb8⟩ := keyW w7 hk8 im0 sec2 ad2
   have HA1 := Lib.hid hA1
   have HBb := Lib.hid hB1
   have HB8 : Hid (Below (B0 + 1) W0 W8) := HB6.out.trans ((hb7.trans (hb8.mono hb7.size)).mono HL6.out)
   have HlJ := Lib.hid (ld_im hX (info_im rfl))
   have HC := Lib.hid (sameX (imz_A W8) (imz_A W8))
   clear hb7 hb8 hX hW hA1 hB1 hl ho HD6 HN6 hy hz
   go_upto_region 16 with (first | (refine wpList_store_arr rfl 37 (.tmp 19) (.tmp 97) rfl (b := k8) (Z := im0.toArray) (g := im0.toArray) rfl rfl rfl HA1.out (info_im rfl) rfl (by kernel_rfl) ?_) | (refine wpList_store_arr rfl 41 (.tmp 20) (.tmp 98) rfl (b := k8 + 1) (Z := whA 0 0) (g := whA sec2 ad2) rfl rfl rfl HBb.out (info_wh sec2 ad2) rfl (by kernel_rfl) ?_))
   show Code.wp _ _ _ _ ((((w7.alloc (.cells im0.toArray 37)).alloc (.cells (whA 0 0) 41)).setRow k8 im0.toArray).setRow (k8 + 1) (whA sec2 ad2))
   rw [hW8]
   clear hW8 hk8 HA1 HBb
   have hwb : (why != 0) = true := by simp [hwn]
   go_wp2_with (first | rw [hwb] | (refine wpList_load_tyG (by kernel_rfl) 37 (.tmp 19) rfl rfl HlJ.out ?_))
   refine HC.out.mono ?_
   rintro e w9 ⟨r, rfl, hr, hb9⟩
   have hr' := hr.2 ⟨rfl, rfl, rfl, ⟨rfl, rfl⟩, rfl, rfl, rfl, rfl, rfl, rfl, rfl⟩
   subst hr'
   have HB9 : Hid (Below B0 w w9) := (HHe.out _ (HB8.out.trans (hb9.mono (Nat.le_trans HSz0.out HB8.out.size)))).2
   clear hr hb9
   go_wp2_with fail
   go_ret
   exact ⟨rfl, HB9.out⟩
  ·obtain ⟨i, rfl⟩ : ∃ i, r = i + 1 := ⟨r - 1, by omega⟩
   have hi : i ≤ 7 := by omega
   obtain ⟨F, hF⟩ : ∃ F, fstN I (i + 1) = F := ⟨_, rfl⟩
   obtain ⟨L, hL⟩ : ∃ L, lenN I (i + 1) = L := ⟨_, rfl⟩
   have hfa := fall_sec (k := i + 1) HK.out HZ2.out (by omega) (by omega)
   have ew := enc_words I HZ2.out (k := i + 1) (by omega) (by omega)
   rw [Nat.add_sub_cancel] at ew
   rw [hF, hL] at hfa ew
   obtain ⟨hf1, hf2, hf3⟩ := fall_in hfa
   rw [HN.out] at hf2
   have HFa : Hid (Fall I (i + 1) F (F + L)) := hfa
   have HF3 : Hid (L = 0 → i + 1 = 8 ∧ I.tabs = []) := fun e => hf3 (by omega)
   have HWd1 : Hid (∀ W, Below w1.heap.size w1 W → Calls Tryz.prog 24 #[.slice (some ⟨g, 0, none⟩) N N, .int .i64 (24 + 16 * (i : Int) + 4)] W fun e w' => e = .returned (.int .i64 (F : Nat)) ∧ Below W.heap.size W w') := fun W hW => by
    have h9 := word_any (n := 24 + 16 * i + 4) (HSl.out W hW) (by rw [HN.out]; omega) (by rw [HN.out]; exact hn2)
    rw [ew.1, show ((24 + 16 * i + 4 : Nat) : Int) = 24 + 16 * (i : Int) + 4 by omega] at h9
    exact h9
   have HWd2 : Hid (∀ W, Below w1.heap.size w1 W → Calls Tryz.prog 24 #[.slice (some ⟨g, 0, none⟩) N N, .int .i64 (24 + 16 * (i : Int) + 8)] W fun e w' => e = .returned (.int .i64 (L : Nat)) ∧ Below W.heap.size W w') := fun W hW => by
    have h9 := word_any (n := 24 + 16 * i + 8) (HSl.out W hW) (by rw [HN.out]; omega) (by rw [HN.out]; exact hn2)
    rw [ew.2, show ((24 + 16 * i + 8 : Nat) : Int) = 24 + 16 * (i : Int) + 8 by omega] at h9
    exact h9
   have hfn : (F : Int) + (L : Int) ≤ (N : Int) := by omega
   clear ew hr8 hrp hf1 hf2 hf3 hfa hF hL HIn9 HOn HL
   have HW5 := Lib.hid (HWd1.out w5 HB4.out)
   go_wp2_with fail
   have hw5 := HW5.out
   refine hw5.mono ?_
   rintro e w5a ⟨rfl, hba⟩
   have HBa : Hid (Below w1.heap.size w1 w5a) := HB4.out.trans (hba.mono HB4.out.size)
   have HW6 := Lib.hid (HWd2.out w5a HBa.out)
   clear hw5 HW5 HWd1 HWd2 hba
   go_wp2_with fail
   have hw6 := HW6.out
   refine hw6.mono ?_
   rintro e w5b ⟨rfl, hbb⟩
   have HB5 : Hid (Below w1.heap.size w1 w5b) := HBa.out.trans (hbb.mono HBa.out.size)
   have HF5 : Hid (Below (B0 + 1) W0 w5b) := HB1.out.trans (HB5.out.mono HL1.out)
   clear hw6 HW6 hbb HBa
   rcases Nat.eq_zero_or_pos L with rfl | hLp
   ·obtain ⟨h7, htb⟩ := HF3.out rfl
    obtain rfl : i = 7 := by omega
    go_upto_region 13 with fail
    have hc : ∃ ao cap, w5b.cell? ⟨B0, 11, none⟩ = some (.slice ao 0 cap) := by
     obtain ⟨v, e, R, _⟩ := HA.out.tabs
     rw [htb] at R
     obtain ⟨ao, cap, rfl, _⟩ := R
     refine ⟨ao, cap, ?_⟩
     rw [cell_of_row _ _ _ _ _ _ (HHe.out _ HF5.out).1]
     simpa using e
    obtain ⟨ao, cap, hc⟩ := hc
    clear htb
    have HF9 : Hid (Below B0 w w5b) := (HHe.out _ HF5.out).2
    go_wp2_with fail
    go_ret
    exact ⟨rfl, HF9.out⟩
   ·have hBu := burst_fall (at_ := at_) HFa.out (by omega) (HSl.out w5b HB5.out) (by rw [HN.out]; exact hn2) HP.out
    rw [show ((F + L : Nat) : Int) = (F : Int) + (L : Int) by omega] at hBu
    have HBu := Lib.hid hBu
    have HT5 : Hid (Tab w5b) := HT.out.below (hB0 ▸ (HHe.out _ HF5.out).2)
    clear hBu HFa HF3 HInu HX0
    go_wp2_with fail
    have hBu := HBu.out
    refine hBu.mono ?_
    rintro e w6 ⟨v6, ys, rfl, hs6, hn6, hb6⟩
    have HD6 := Lib.hid (dec_any hs6 (HT5.out.below hb6))
    have HN6 : Hid ((decA ys).why ≠ 0) := hn6
    have HB6 : Hid (Below (B0 + 1) W0 w6) := HF5.out.trans (hb6.mono (Nat.le_trans HL1.out HB5.out.size))
    have HL6 : Hid (B0 + 1 ≤ w6.heap.size) := Nat.le_trans (Nat.le_trans HL1.out HB5.out.size) hb6.size
    clear hBu HBu hs6 hn6 hb6
    go_wp2_with fail
    refine HD6.out.mono ?_
    rintro e w7 ⟨jm, sec2, ad2, why, rfl, hy, hz, ho, hl, hb7⟩
    have hwn : why ≠ 0 := fun e => HN6.out (hy.1 e)
    obtain rfl := hz hwn
    obtain ⟨k8, hk8⟩ : ∃ k, w7.heap.size = k := ⟨_, rfl⟩
    obtain ⟨W8, hW8, hA1, hB1, hX, hW, hb8⟩ := keyW w7 hk8 im0 sec2 ad2
    have HA1 := Lib.hid hA1
    have HBb := Lib.hid hB1
    have HB8 : Hid (Below (B0 + 1) W0 W8) := HB6.out.trans ((hb7.trans (hb8.mono hb7.size)).mono HL6.out)
    have HlJ := Lib.hid (ld_im hX (info_im rfl))
    have HC := Lib.hid (sameX (imz_A W8) (imz_A W8))
    clear hb7 hb8 hX hW hA1 hB1 hl ho HD6 HN6 hy hz
    go_upto_region 16 with (first | (refine wpList_store_arr rfl 37 (.tmp 19) (.tmp 97) rfl (b := k8) (Z := im0.toArray) (g := im0.toArray) rfl rfl rfl HA1.out (info_im rfl) rfl (by kernel_rfl) ?_) | (refine wpList_store_arr rfl 41 (.tmp 20) (.tmp 98) rfl (b := k8 + 1) (Z := whA 0 0) (g := whA sec2 ad2) rfl rfl rfl HBb.out (info_wh sec2 ad2) rfl (by kernel_rfl) ?_))
    show Code.wp _ _ _ _ ((((w7.alloc (.cells im0.toArray 37)).alloc (.cells (whA 0 0) 41)).setRow k8 im0.toArray).setRow (k8 + 1) (whA sec2 ad2))
    rw [hW8]
    clear hW8 hk8 HA1 HBb
    have hwb : (why != 0) = true := by simp [hwn]
    go_wp2_with (first | rw [hwb] | (refine wpList_load_tyG (by kernel_rfl) 37 (.tmp 19) rfl rfl HlJ.out ?_))
    refine HC.out.mono ?_
    rintro e w9 ⟨r, rfl, hr, hb9⟩
    have hr' := hr.2 ⟨rfl, rfl, rfl, ⟨rfl, rfl⟩, rfl, rfl, rfl, rfl, rfl, rfl, rfl⟩
    subst hr'
    have HB9 : Hid (Below B0 w w9) := (HHe.out _ (HB8.out.trans (hb9.mono (Nat.le_trans HSz0.out HB8.out.size)))).2
    clear hr hb9
    go_wp2_with fail
    go_ret
    exact ⟨rfl, HB9.out⟩
end Go.Proofs.YtnifefmfhjfbnaaGreatDoor
