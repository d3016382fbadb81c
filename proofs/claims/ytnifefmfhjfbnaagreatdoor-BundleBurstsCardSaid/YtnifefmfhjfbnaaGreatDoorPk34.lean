import Derived.Test.YtnifefmfhjfbnaaGreatDoorPk33
/- Bundle: zeros and sums of all sections. Own work. -/
namespace Go.Proofs.YtnifefmfhjfbnaaGreatDoor
open Go.RowKit Bn Dc
set_option linter.unusedVariables false
set_option linter.unusedSimpArgs false
namespace Dc
/-- zeros ahead of a section, byte by byte -/
def zsS (bs : List Nat) (k e0 : Nat) : Nat → D → D
 | 0, s => s
 | j + 1, s => askD (decide (bs.getD (e0 + j) 0 = 0)) 5 (k : Int) ((e0 + j : Nat) : Int) (zsS bs k e0 j s)
def sealS (E : Nat → En) (bs : List Nat) : Nat → D → D
 | 0, s => s
 | k + 1, s => askD (decide (Pl.crc ((bs.drop (E (k + 1)).f).take (E (k + 1)).l) = (E (k + 1)).c)) 11 ((k + 1 : Nat) : Int) ((E (k + 1)).f : Int) (zsS bs (k + 1) (endN E bs.length k) ((E (k + 1)).f - endN E bs.length k) (sealS E bs k s))
theorem zsS_why {bs : List Nat} {k e0 : Nat} {s : D} (h : s.why ≠ 0) : ∀ j, zsS bs k e0 j s = s
 | 0 => rfl
 | j + 1 => by rw [zsS, zsS_why h j, ask_why h]
theorem sealS_stop {E : Nat → En} {bs : List Nat} {s : D} {k : Nat} (h : (sealS E bs k s).why ≠ 0) (m : Nat) (hm : k ≤ m) : sealS E bs m s = sealS E bs k s := by
 induction m with
 | zero => rw [show k = 0 by omega]
 | succ m ih =>
  by_cases e : k = m + 1
  ·rw [e]
  ·rw [sealS, ih (by omega), zsS_why h, ask_why h]
theorem zs_zero {bs : List Nat} {k e0 : Nat} {s : D} : ∀ j, (zsS bs k e0 j s).why = 0 → s.why = 0 ∧ ∀ i, i < j → bs.getD (e0 + i) 0 = 0
 | 0, h => ⟨h, fun i hi => by omega⟩
 | j + 1, h => by
  rw [zsS] at h
  obtain ⟨h1, h2⟩ := ask_zero' (by decide) h
  obtain ⟨h3, h4⟩ := zs_zero j h2
  refine ⟨h3, fun i hi => ?_⟩
  by_cases e : i = j
  ·rw [e]; exact of_decide_eq_true h1
  ·exact h4 i (by omega)
theorem seal_zero {E : Nat → En} {bs : List Nat} {s : D} : ∀ k, (sealS E bs k s).why = 0 → s.why = 0
 | 0, h => h
 | k + 1, h => by
  rw [sealS] at h
  exact seal_zero k (zs_zero _ (ask_zero' (by decide) h).2).1
end Dc
theorem ok_end {E : Nat → En} {N k : Nat} (h1 : 1 ≤ k) (h8 : k ≤ 8) (h : okD E N k = true) : (E k).a = k ∧ (E k).b = 0 ∧ (E k).f = begN k (endN E N (k - 1)) ∧ endN E N k = (E k).f + (E k).l ∧ endN E N k ≤ N := by
 unfold okD at h
 rw [Bool.and_eq_true] at h
 have ha := of_decide_eq_true h.1
 have hb := of_decide_eq_true h.2
 refine ⟨ha.1, ha.2.1, ha.2.2.1, ?_, hb⟩
 obtain ⟨j, rfl⟩ : ∃ j, k = j + 1 := ⟨k - 1, by omega⟩
 rw [endN]
 by_cases e : j = 7
 ·rw [if_pos e]; subst e; exact (ha.2.2.2 rfl).symm
 ·rw [if_neg e, ha.2.2.1]; rfl
section
variable {B kb : Nat} {im en : List Value} {q : Pt} {p g : Nat} {w0 : World} {s : D} {w w' : World}
set_option maxRecDepth 100000 in
set_option maxHeartbeats 8000000 in
theorem sealsX {E : Nat → En} {bs : List Nat} {rb ro cap : Nat} (h : Dt B kb (.slice (some ⟨rb, ro, none⟩) bs.length cap) im en q p g w0 s w) (he : EnR en E) (hE : enSm E) (hraw : ∀ W, Fd B w0 W → Sl W (.slice (some ⟨rb, ro, none⟩) bs.length cap) bs) (ht : ∀ W, Fd B w0 W → Tab W) (hok : s.why = 0 → bs.length ≤ 4194304 ∧ ∀ j, 1 ≤ j → j ≤ 8 → okD E bs.length j = true) : Calls Tryz.prog 86 #[.pointer (some ⟨kb, 0, none⟩)] w fun e w' => e = .returned (.tuple #[]) ∧ Dt B kb (.slice (some ⟨rb, ro, none⟩) bs.length cap) im en q p g w0 (sealS E bs 8 s) w' := by
 have H0 : Hid (Dt B kb (.slice (some ⟨rb, ro, none⟩) bs.length cap) im en q p g w0 (sealS E bs 0 s) w) := h
 have HE : Hid (EnR en E) := he
 have HEs : Hid (enSm E) := hE
 have HOk : Hid (s.why = 0 → bs.length ≤ 4194304 ∧ ∀ j, 1 ≤ j → j ≤ 8 → okD E bs.length j = true) := hok
 have HRw : Hid (∀ W, Fd B w0 W → Sl W (.slice (some ⟨rb, ro, none⟩) bs.length cap) bs) := hraw
 have HTb : Hid (∀ W, Fd B w0 W → Tab W) := ht
 clear h he hE hok hraw ht
 go_enter Tryz.func86, Tryz.ntmps86
 go_wp2_with fail
 go_loopw [2, 3] (fun ev kv wr => ∃ k : Nat, 1 ≤ k ∧ k ≤ 9 ∧ kv = .int .i64 (k : Int) ∧ ev = .int .i64 ((endN E bs.length (k - 1) : Nat) : Int) ∧ Hid (Dt B kb (.slice (some ⟨rb, ro, none⟩) bs.length cap) im en q p g w0 (sealS E bs (k - 1) s) wr)) (fun _ kv _ => 9 - (intOf kv).toNat)
 case atStart => exact ⟨1, by decide, by decide, rfl, rfl, H0⟩
 case round =>
  clear H0
  obtain ⟨k, hk1, hk9, rfl, rfl, HI⟩ := hrel
  obtain ⟨wq, hwq⟩ : ∃ x, x = wr := ⟨_, rfl⟩
  subst hwq
  by_cases hk : k = 9
  ·subst hk
   go_wp2_with fail
   go_end0
   exact ⟨rfl, HI.out⟩
  ·have hk8 : k ≤ 8 := by omega
   have jk : (k : Int) < 9 := by omega
   have jk0 : (0 : Int) ≤ (k : Int) := by omega
   have hwk : IntKind.i64.wrap ((k : Int) + 1) = ((k + 1 : Nat) : Int) := by rw [IntKind.wrap_i64]; omega
   have c62 := HI.out.c62
   by_cases hy : (sealS E bs (k - 1) s).why = 0
   ·rw [hy] at c62
    obtain ⟨hN4, hok⟩ := HOk.out (seal_zero _ hy)
    obtain ⟨o1, o2, o3, o4, o5⟩ := ok_end hk1 hk8 (hok k hk1 hk8)
    have hF := (beg_le k (endN E bs.length (k - 1))).2
    obtain ⟨d0, d1, d2, d3, d4⟩ := HI.out.c5 HE.out hk1 hk8
    have hsS : sealS E bs k s = askD (decide (Pl.crc ((bs.drop (E k).f).take (E k).l) = (E k).c)) 11 ((k : Nat) : Int) ((E k).f : Int) (zsS bs k (endN E bs.length (k - 1)) ((E k).f - endN E bs.length (k - 1)) (sealS E bs (k - 1) s)) := by
     obtain ⟨j, rfl⟩ : ∃ j, k = j + 1 := ⟨k - 1, by omega⟩
     rfl
    have HN4 := Lib.hid hN4
    obtain ⟨⟨xa, xb, f, l, c⟩, hx⟩ : ∃ x, E k = x := ⟨_, rfl⟩
    rw [hx] at o1 o2 o3 o4 hsS d0 d1 d2 d3 d4
    dsimp only at o1 o2 o3 o4 hsS d0 d1 d2 d3 d4
    have o1' := o1.symm
    subst o1'
    subst o2
    obtain ⟨e0, he0⟩ : ∃ e, endN E bs.length (k - 1) = e := ⟨_, rfl⟩
    rw [he0] at hF o3 hsS
    rw [← o3] at hF
    obtain ⟨t1, ht1⟩ : ∃ t, sealS E bs (k - 1) s = t := ⟨_, rfl⟩
    rw [ht1] at hsS HI hy
    have HEK : Hid (endN E bs.length k = f + l) := o4
    have HSS := Lib.hid hsS
    have hfl : f + l ≤ bs.length := by omega
    rw [he0]
    clear hok o3 o4 o5 he0 ht1 hsS hx HOk
    obtain ⟨h1, hf1, hb1, hl1⟩ := HI.out.boxed (.cells (entA k f l c) 58)
    have HF1 : Hid (Fd B w0 (wq.alloc (.cells (entA k f l c) 58))) := hf1
    have HBx : Hid (∀ W t, Dt B kb (.slice (some ⟨rb, ro, none⟩) bs.length cap) im en q p g (wq.alloc (.cells (entA k f l c) 58)) t W → W.heap[wq.heap.size]? = some (.cells (entA k f l c) 58 (0, 0))) := fun W t hW => hW.box hb1 (by decide) (by decide)
    have HCs : Hid (∀ W t, Dt B kb (.slice (some ⟨rb, ro, none⟩) bs.length cap) im en q p g (wq.alloc (.cells (entA k f l c) 58)) t W → (W.cell? ⟨wq.heap.size, 0, none⟩ = some (.int .i64 (k : Int)) ∧ W.cell? ⟨wq.heap.size, 1, none⟩ = some (.int .i64 0) ∧ W.cell? ⟨wq.heap.size, 2, none⟩ = some (.int .i64 (f : Int)) ∧ W.cell? ⟨wq.heap.size, 3, none⟩ = some (.int .i64 (l : Int)) ∧ W.cell? ⟨wq.heap.size, 4, none⟩ = some (.int .u32 (c : Int))) ∧ W.cell? ⟨kb, 0, none⟩ = some (.slice (some ⟨rb, ro, none⟩) bs.length cap)) := fun W t hW => by
     have h9 := HBx.out _ _ hW
     refine ⟨⟨?_, ?_, ?_, ?_, ?_⟩, (hW.cell 0).trans rdC_raw⟩ <;> (rw [cell_of_row _ _ _ _ _ _ h9]; rfl)
    have HSl : Hid (∀ W t, Dt B kb (.slice (some ⟨rb, ro, none⟩) bs.length cap) im en q p g (wq.alloc (.cells (entA k f l c) 58)) t W → Sl W (.slice (some ⟨rb, ro, none⟩) bs.length cap) bs) := fun W t hW => HRw.out _ (HF1.out.trans hW.fr)
    have HZ : Hid (∀ W j, Dt B kb (.slice (some ⟨rb, ro, none⟩) bs.length cap) im en q p g (wq.alloc (.cells (entA k f l c) 58)) (zsS bs k e0 j t1) W → Calls Tryz.prog 79 #[.pointer (some ⟨kb, 0, none⟩), .bool (decide (bs.getD (e0 + j) 0 = 0)), .int .i64 5, .int .i64 (k : Int), .int .i64 ((e0 + j : Nat) : Int)] W fun e w' => e = .returned (.tuple #[]) ∧ Dt B kb (.slice (some ⟨rb, ro, none⟩) bs.length cap) im en q p g (wq.alloc (.cells (entA k f l c) 58)) (zsS bs k e0 (j + 1) t1) w') := fun W j hW => daskX hW _ 5 (k : Int) ((e0 + j : Nat) : Int)
    have HOf : Hid (∀ W t, Dt B kb (.slice (some ⟨rb, ro, none⟩) bs.length cap) im en q p g (wq.alloc (.cells (entA k f l c) 58)) t W → Calls Tryz.prog 43 #[.agg (entA k f l c), (.slice (some ⟨rb, ro, none⟩) bs.length cap)] W fun e w' => ∃ v', e = .returned v' ∧ Sl w' v' ((bs.drop f).take l) ∧ Dt B kb (.slice (some ⟨rb, ro, none⟩) bs.length cap) im en q p g (wq.alloc (.cells (entA k f l c) 58)) t w') := fun W t hW => (ofS (HSl.out _ _ hW) hfl (by omega)).mono (fun e w' ⟨v, he, hs, hb⟩ => ⟨v, he, hs, hW.below hb⟩)
    have HCr : Hid (∀ W t v, Dt B kb (.slice (some ⟨rb, ro, none⟩) bs.length cap) im en q p g (wq.alloc (.cells (entA k f l c) 58)) t W → Sl W v ((bs.drop f).take l) → Calls Tryz.prog 42 #[v] W fun e w' => e = .returned (.int .u32 (Pl.crc ((bs.drop f).take l) : Nat)) ∧ w' = W) := fun W t v hW hv => crc_any (HTb.out _ (HF1.out.trans hW.fr)) hv
    have HAc : Hid (∀ W, Dt B kb (.slice (some ⟨rb, ro, none⟩) bs.length cap) im en q p g (wq.alloc (.cells (entA k f l c) 58)) (zsS bs k e0 (f - e0) t1) W → Calls Tryz.prog 79 #[.pointer (some ⟨kb, 0, none⟩), .bool (decide (Pl.crc ((bs.drop f).take l) = c)), .int .i64 11, .int .i64 (k : Int), .int .i64 (f : Int)] W fun e w' => e = .returned (.tuple #[]) ∧ Dt B kb (.slice (some ⟨rb, ro, none⟩) bs.length cap) im en q p g (wq.alloc (.cells (entA k f l c) 58)) (sealS E bs k s) w') := fun W hW => by
     have h9 := daskX hW (decide (Pl.crc ((bs.drop f).take l) = c)) 11 (k : Int) (f : Int)
     rw [← HSS.out] at h9
     exact h9
    have HEn : Hid (∀ W, Dt B kb (.slice (some ⟨rb, ro, none⟩) bs.length cap) im en q p g (wq.alloc (.cells (entA k f l c) 58)) (sealS E bs k s) W → Calls Tryz.prog 77 #[.agg (entA k f l c)] W fun e w' => e = .returned (.int .i64 ((f + l : Nat) : Int)) ∧ Dt B kb (.slice (some ⟨rb, ro, none⟩) bs.length cap) im en q p g (wq.alloc (.cells (entA k f l c) 58)) (sealS E bs k s) w') := fun W hW => (endX (by omega) (by omega) W).mono (fun e w' h => ⟨h.1, hW.below h.2⟩)
    have H1 : Hid (Dt B kb (.slice (some ⟨rb, ro, none⟩) bs.length cap) im en q p g (wq.alloc (.cells (entA k f l c) 58)) (zsS bs k e0 0 t1) (wq.alloc (.cells (entA k f l c) 58))) := h1
    have HFl := Lib.hid hfl
    have hfe : f ≤ 4194304 := by omega
    have hcap : bs.length ≤ cap := by
     obtain ⟨ao, cp, e9, h9, _⟩ := HSl.out _ _ h1
     cases e9
     exact h9
    have hcm : cap ≤ 9223372036854775807 := by
     obtain ⟨ao, cp, e9, h9, h8, _⟩ := HSl.out _ _ h1
     cases e9
     unfold maxLen at h8
     exact h8
    clear h1 hf1 hb1 hl1 HI HSS hy hfl
    unfold entA at *
    go_wp2_with fail
    go_loopw [5] (fun av wx => ∃ j : Nat, j ≤ f - e0 ∧ av = .int .i64 ((e0 + j : Nat) : Int) ∧ Hid (Dt B kb (.slice (some ⟨rb, ro, none⟩) bs.length cap) im en q p g (wq.alloc (.cells #[.int .i64 (k : Int), .int .i64 0, .int .i64 (f : Int), .int .i64 (l : Int), .int .u32 (c : Int)] 58)) (zsS bs k e0 j t1) wx)) (fun av _ => f - (intOf av).toNat)
    case atStart => exact ⟨0, Nat.zero_le _, by first | rfl | simp, H1⟩
    case round =>
     clear H1
     obtain ⟨j, hj, rfl, HJ⟩ := hrel
     obtain ⟨⟨x0, x1, x2, x3, x4⟩, x5⟩ := HCs.out _ _ HJ.out
     by_cases hjn : j < f - e0
     ·have jj : ((e0 + j : Nat) : Int) < (f : Int) := by omega
      have jb : ((e0 + j : Nat) : Int) < (bs.length : Int) := by have := HFl.out; omega
      have j0 : (0 : Int) ≤ ((e0 + j : Nat) : Int) := by omega
      have hwj : IntKind.i64.wrap (((e0 + j : Nat) : Int) + 1) = ((e0 + (j + 1) : Nat) : Int) := by rw [IntKind.wrap_i64]; omega
      obtain ⟨b9, o9, cp9, e9, _, _, hz9, hc9⟩ := (HSl.out _ _ HJ.out).pos (by omega)
      cases e9
      have hcj := hc9 (e0 + j) (by omega)
      have HK := Lib.hid (HZ.out _ _ HJ.out)
      have HMj : Hid (e0 + j < f) := show _ < _ by omega
      generalize bs.getD (e0 + j) 0 = xx at hcj HK
      obtain ⟨at_, hat⟩ : ∃ a, e0 + j = a := ⟨_, rfl⟩
      have hat2 : e0 + (j + 1) = at_ + 1 := by omega
      rw [hat] at jj jb j0 hwj hcj HK HMj ⊢
      rw [hat2] at hwj
      have HAt := Lib.hid hat2
      clear hz9 hc9 HJ hat hat2
      by_cases hx0 : xx = 0
      ·subst hx0
       simp only [decide_true] at HK
       go_wp2_with fail
       refine HK.out.mono ?_
       rintro e w5 ⟨rfl, h5⟩
       have H5 := Lib.hid h5
       clear h5 HK x0 x1 x2 x3 x4 x5
       go_wp2_with fail
       go_roundw
       case rel => exact ⟨j + 1, by omega, (by first | (rw [HAt.out]; done) | (rw [HAt.out]; simp)), H5⟩
       case measure => have := HMj.out; simp [intOf]; omega
      ·have hxi : ¬ (xx : Int) = 0 := by omega
       have hxb : ((xx : Int) == 0) = false := by simp [hx0]
       simp only [hx0, decide_false] at HK
       go_wp2_with fail
       refine HK.out.mono ?_
       rintro e w5 ⟨rfl, h5⟩
       have H5 := Lib.hid h5
       clear h5 HK x0 x1 x2 x3 x4 x5
       go_wp2_with fail
       go_roundw
       case rel => exact ⟨j + 1, by omega, (by first | (rw [HAt.out]; done) | (rw [HAt.out]; simp)), H5⟩
       case measure => have := HMj.out; simp [intOf]; omega
     ·obtain rfl : j = f - e0 := by omega
      have jj : ¬ ((e0 + (f - e0) : Nat) : Int) < (f : Int) := by omega
      have HJd := Lib.hid HJ.out.drew
      have HCz := HCs.out _ _ HJd.out
      generalize ((e0 + (f - e0) : Nat) : Int) = at_ at jj ⊢
      generalize Pl.crc ((bs.drop f).take l) = cr at HCr HAc
      clear HZ HSl HJ
      by_cases hcr : cr = c
      ·subst hcr
       simp only [decide_true] at HAc
       go_wp2_with fail
       go_region_held3 (fun W => (W.cell? ⟨wq.heap.size, 0, none⟩ = some (.int .i64 (k : Int)) ∧ W.cell? ⟨wq.heap.size, 1, none⟩ = some (.int .i64 0) ∧ W.cell? ⟨wq.heap.size, 2, none⟩ = some (.int .i64 (f : Int)) ∧ W.cell? ⟨wq.heap.size, 3, none⟩ = some (.int .i64 (l : Int)) ∧ W.cell? ⟨wq.heap.size, 4, none⟩ = some (.int .u32 (cr : Int))) ∧ W.cell? ⟨kb, 0, none⟩ = some (.slice (some ⟨rb, ro, none⟩) bs.length cap)) (first | assumption | exact ⟨by assumption, by assumption⟩ | go_keep) (first | (go_at_call 43; refine (HOf.out _ _ HJd.out).mono ?_; rintro e w3 ⟨v3, rfl, hs3, h3⟩; have HS3 := Lib.hid hs3; have H3 := Lib.hid h3; obtain ⟨y1, y5⟩ := HCs.out _ _ h3; clear hs3 h3 HJd HOf) | (go_at_call 42; refine (HCr.out _ _ _ H3.out HS3.out).mono ?_; rintro e w4 ⟨rfl, h9⟩; subst h9; clear HCr) | (go_at_call 79; refine (HAc.out _ H3.out).mono ?_; rintro e w6 ⟨rfl, h6⟩; have H6 := Lib.hid h6; obtain ⟨z1, z5⟩ := HCs.out _ _ h6; clear h6 H3 HAc))
       all_goals
        obtain ⟨z1, z2, z3, z4, z6⟩ := z1
        go_wp2_with fail
        refine (HEn.out _ H6.out).mono ?_
        rintro e w7 ⟨rfl, h7⟩
        have H7 := Lib.hid (h7.since HF1.out)
        clear h7 H6 HEn
        go_wp2_with fail
        go_roundw
        case rel => exact ⟨k + 1, by omega, by omega, rfl, (by first | (rw [Nat.add_sub_cancel, HEK.out]; done) | (rw [Nat.add_sub_cancel, HEK.out]; simp)), by rw [Nat.add_sub_cancel]; exact H7⟩
        case measure => simp [intOf] <;> omega
      ·have hci : ¬ (cr : Int) = (c : Int) := by omega
       have hcb : ((cr : Int) == (c : Int)) = false := by simp [hci]
       simp only [hcr, decide_false] at HAc
       go_wp2_with fail
       go_region_held3 (fun W => (W.cell? ⟨wq.heap.size, 0, none⟩ = some (.int .i64 (k : Int)) ∧ W.cell? ⟨wq.heap.size, 1, none⟩ = some (.int .i64 0) ∧ W.cell? ⟨wq.heap.size, 2, none⟩ = some (.int .i64 (f : Int)) ∧ W.cell? ⟨wq.heap.size, 3, none⟩ = some (.int .i64 (l : Int)) ∧ W.cell? ⟨wq.heap.size, 4, none⟩ = some (.int .u32 (c : Int))) ∧ W.cell? ⟨kb, 0, none⟩ = some (.slice (some ⟨rb, ro, none⟩) bs.length cap)) (first | assumption | exact ⟨by assumption, by assumption⟩ | go_keep) (first | (go_at_call 43; refine (HOf.out _ _ HJd.out).mono ?_; rintro e w3 ⟨v3, rfl, hs3, h3⟩; have HS3 := Lib.hid hs3; have H3 := Lib.hid h3; obtain ⟨y1, y5⟩ := HCs.out _ _ h3; clear hs3 h3 HJd HOf) | (go_at_call 42; refine (HCr.out _ _ _ H3.out HS3.out).mono ?_; rintro e w4 ⟨rfl, h9⟩; subst h9; clear HCr) | (go_at_call 79; refine (HAc.out _ H3.out).mono ?_; rintro e w6 ⟨rfl, h6⟩; have H6 := Lib.hid h6; obtain ⟨z1, z5⟩ := HCs.out _ _ h6; clear h6 H3 HAc))
       all_goals
        obtain ⟨z1, z2, z3, z4, z6⟩ := z1
        go_wp2_with fail
        refine (HEn.out _ H6.out).mono ?_
        rintro e w7 ⟨rfl, h7⟩
        have H7 := Lib.hid (h7.since HF1.out)
        clear h7 H6 HEn
        go_wp2_with fail
        go_roundw
        case rel => exact ⟨k + 1, by omega, by omega, rfl, (by first | (rw [Nat.add_sub_cancel, HEK.out]; done) | (rw [Nat.add_sub_cancel, HEK.out]; simp)), by rw [Nat.add_sub_cancel]; exact H7⟩
        case measure => simp [intOf] <;> omega
   ·have hyb : ((sealS E bs (k - 1) s).why == 0) = false := by simpa using hy
    have HS : Hid (sealS E bs 8 s = sealS E bs (k - 1) s) := sealS_stop hy 8 (by omega)
    go_wp2_with fail
    go_end0
    rw [HS.out]
    exact ⟨rfl, HI.out⟩
end
end Go.Proofs.YtnifefmfhjfbnaaGreatDoor
/- Bundle: the header (written by parts/gen_dchdr.py). Own work. -/
namespace Go.Proofs.YtnifefmfhjfbnaaGreatDoor
open Go.RowKit Bn Dc
set_option linter.unusedVariables false
set_option linter.unusedSimpArgs false
namespace Dc
structure Hd where
 T : List Nat
 n1 : Nat
 n2 : Nat
 cnt : Nat
 base : Nat
 sm : Nat
 zr : Nat
def mg : List Nat := [66, 85, 76, 75, 72, 69, 65, 68]
def asksD (bs : List Nat) (x : Hd) (s : D) : D :=
 askD (decide (x.base % 4096 = 0)) 132 0 16 (askD (decide (bs.length ≤ x.cnt * 4096)) 12 0 ((x.cnt * 4096 : Nat) : Int) (askD (decide (x.cnt * 4096 ≤ bs.length)) 10 0 (bs.length : Int) (askD (decide (x.cnt ≤ 1024)) 4 0 12 (askD (decide (x.zr = 0)) 5 0 156 (askD (decide (x.sm = Pl.crc (bs.take 152))) 11 0 152 (askD (decide (x.n2 = 8)) 5 0 10 (askD (decide (x.n1 = 1)) 131 0 8 (askD (decide (x.T = mg)) 130 0 0 s))))))))
def entS (q : Pt) (s : D) : Nat → D
 | 0 => s
 | k + 1 => (entD q (entS q s k)).2
def entE (q : Pt) (s : D) (k : Nat) : En := (entD q (entS q s (k - 1))).1
structure HdR where
 x : Hd
 E : Nat → En
 s : D
def hdD (q : Pt) (s : D) : HdR :=
 let a := bytesD q 8 s
 let b := takeD q 2 a.2
 let c := takeD q 2 b.2
 let d := takeD q 4 c.2
 let e := takeD q 8 d.2
 let f := takeD q 4 (entS q e.2 8)
 let g := takeD q 4 f.2
 ⟨⟨a.1, b.1, c.1, d.1, e.1, f.1, g.1⟩, entE q e.2, g.2⟩
theorem asks_zero {bs : List Nat} {x : Hd} {s : D} (h : (asksD bs x s).why = 0) : s.why = 0 ∧ x.T = mg ∧ x.n1 = 1 ∧ x.n2 = 8 ∧ x.sm = Pl.crc (bs.take 152) ∧ x.zr = 0 ∧ x.cnt ≤ 1024 ∧ x.cnt * 4096 = bs.length ∧ x.base % 4096 = 0 := by
 unfold asksD at h
 obtain ⟨a9, h⟩ := ask_zero' (by decide) h
 obtain ⟨a8, h⟩ := ask_zero' (by decide) h
 obtain ⟨a7, h⟩ := ask_zero' (by decide) h
 obtain ⟨a6, h⟩ := ask_zero' (by decide) h
 obtain ⟨a5, h⟩ := ask_zero' (by decide) h
 obtain ⟨a4, h⟩ := ask_zero' (by decide) h
 obtain ⟨a3, h⟩ := ask_zero' (by decide) h
 obtain ⟨a2, h⟩ := ask_zero' (by decide) h
 obtain ⟨a1, h⟩ := ask_zero' (by decide) h
 have b7 := of_decide_eq_true a7
 have b8 := of_decide_eq_true a8
 exact ⟨h, of_decide_eq_true a1, of_decide_eq_true a2, of_decide_eq_true a3, of_decide_eq_true a4, of_decide_eq_true a5, of_decide_eq_true a6, by omega, of_decide_eq_true a9⟩
end Dc
/-- the entries that were read so far -/
def EnP (en : List Value) (E : Nat → En) (m : Nat) : Prop := ∀ k, 1 ≤ k → k ≤ m → en[5 * k]? = some (.int .i64 ((E k).a : Int)) ∧ en[5 * k + 1]? = some (.int .i64 ((E k).b : Int)) ∧ en[5 * k + 2]? = some (.int .i64 ((E k).f : Int)) ∧ en[5 * k + 3]? = some (.int .i64 ((E k).l : Int)) ∧ en[5 * k + 4]? = some (.int .u32 ((E k).c : Int))
def en5 (en : List Value) (k : Nat) (x : En) : List Value := ((((en.set (5 * k) (.int .i64 (x.a : Int))).set (5 * k + 1) (.int .i64 (x.b : Int))).set (5 * k + 2) (.int .i64 (x.f : Int))).set (5 * k + 3) (.int .i64 (x.l : Int))).set (5 * k + 4) (.int .u32 (x.c : Int))
theorem EnP.next {en : List Value} {E : Nat → En} {k : Nat} (h : EnP en E (k - 1)) (hk : 1 ≤ k) (hk8 : k ≤ 8) (hl : en.length = 45) : EnP (en5 en k (E k)) E k := fun j h1 h2 => by
 unfold en5
 by_cases e : j = k
 ·subst e
  refine ⟨?_, ?_, ?_, ?_, ?_⟩ <;> simp [List.getElem?_set, hl] <;> omega
 ·obtain ⟨a, b, c, d, f⟩ := h j h1 (by omega)
  refine ⟨?_, ?_, ?_, ?_, ?_⟩
  ·rw [List.getElem?_set_ne (by omega), List.getElem?_set_ne (by omega), List.getElem?_set_ne (by omega), List.getElem?_set_ne (by omega), List.getElem?_set_ne (by omega)]; exact a
  ·rw [List.getElem?_set_ne (by omega), List.getElem?_set_ne (by omega), List.getElem?_set_ne (by omega), List.getElem?_set_ne (by omega), List.getElem?_set_ne (by omega)]; exact b
  ·rw [List.getElem?_set_ne (by omega), List.getElem?_set_ne (by omega), List.getElem?_set_ne (by omega), List.getElem?_set_ne (by omega), List.getElem?_set_ne (by omega)]; exact c
  ·rw [List.getElem?_set_ne (by omega), List.getElem?_set_ne (by omega), List.getElem?_set_ne (by omega), List.getElem?_set_ne (by omega), List.getElem?_set_ne (by omega)]; exact d
  ·rw [List.getElem?_set_ne (by omega), List.getElem?_set_ne (by omega), List.getElem?_set_ne (by omega), List.getElem?_set_ne (by omega), List.getElem?_set_ne (by omega)]; exact f
theorem mkS_list (T : List Nat) : (mkS T).toList = T.map UInt8.ofNat := by
 rw [ByteArray.toList_eq]
 simp [mkS]
theorem mg_eq {T : List Nat} (h : ∀ z ∈ T, z < 256) : ((mkS T).toList == [66, 85, 76, 75, 72, 69, 65, 68]) = decide (T = mg) := by
 rw [mkS_list]
 by_cases e : T = mg
 ·subst e
  decide
 ·rw [decide_eq_false e]
  refine beq_eq_false_iff_ne.2 (fun e2 => e ?_)
  have e3 := congrArg (List.map UInt8.toNat) e2
  rw [List.map_map] at e3
  have e4 : T.map (UInt8.toNat ∘ UInt8.ofNat) = T := by
   conv => rhs; rw [← List.map_id T]
   refine List.map_congr_left (fun z hz => ?_)
   simp [Nat.mod_eq_of_lt (h z hz)]
  rw [e4] at e3
  exact e3
theorem conv_run {oo : Oper} {a : Act} {w : World} {x : Operand} (ho : oo.op = .convert 22 9 x) {v : Value} {zs : List Nat} (hx : a.eval x = v) (hs : Sl w v zs) : (execOp a.eval oo).run Tryz.prog w = .ok (.value (.string (mkS zs))) w := by
 unfold execOp
 simp only [ho, Sem.run_bind, Sem.run_pure, Result.andThen_ok, hx, conv_str hs]
section
variable {B kb : Nat} {raw : Value} {im en : List Value} {q : Pt} {p g : Nat} {w0 : World} {s : D} {w w' : World}
theorem Dt.setEn (h : Dt B kb raw im en q p g w0 s w) {i : Nat} (hi : i < 45) (hn : i ≠ 5 * q.pt + 2) (u : Value) : Dt B kb raw im (en.set i u) q p g w0 s (w.setCell ⟨kb, 13 + i, none⟩ u) := by
 refine ⟨?_, h.him, by rw [List.length_set]; exact h.hen, h.hpt, ?_, h.hlen, h.rd.keeps (Keeps.setCell w kb (13 + i) u) h.ne h.ne', h.hB, h.fr.trans (Keeps.mono (Keeps.setCell w kb (13 + i) u) (fun k _ e => by subst e; exact ⟨h.hB.1, .inl ⟨_, h.blk⟩⟩))⟩
 ·rw [← rdC_setEn h.him h.hen hi u]
  simp [World.setCell, Array.getElem?_modify, h.blk]
 ·rw [List.getElem?_set_ne hn]
  exact h.hfi
/-- an entry is stored -/
theorem Dt.setEn5 (h : Dt B kb raw im en q p g w0 s w) {k : Nat} (hk : 1 ≤ k) (hk8 : k ≤ 8) (hp : q.pt = 0) (x : En) : Dt B kb raw im (en5 en k x) q p g w0 s (((((w.setCell ⟨kb, 13 + k * 5, none⟩ (.int .i64 (x.a : Int))).setCell ⟨kb, 13 + k * 5 + 1, none⟩ (.int .i64 (x.b : Int))).setCell ⟨kb, 13 + k * 5 + 2, none⟩ (.int .i64 (x.f : Int))).setCell ⟨kb, 13 + k * 5 + 3, none⟩ (.int .i64 (x.l : Int))).setCell ⟨kb, 13 + k * 5 + 4, none⟩ (.int .u32 (x.c : Int))) := by
 have h1 := h.setEn (i := 5 * k) (by omega) (by omega) (.int .i64 (x.a : Int))
 have h2 := h1.setEn (i := 5 * k + 1) (by omega) (by omega) (.int .i64 (x.b : Int))
 have h3 := h2.setEn (i := 5 * k + 2) (by omega) (by omega) (.int .i64 (x.f : Int))
 have h4 := h3.setEn (i := 5 * k + 3) (by omega) (by omega) (.int .i64 (x.l : Int))
 have h5 := h4.setEn (i := 5 * k + 4) (by omega) (by omega) (.int .u32 (x.c : Int))
 rw [show 13 + k * 5 = 13 + 5 * k by omega, show 13 + 5 * k + 1 = 13 + (5 * k + 1) by omega, show 13 + 5 * k + 2 = 13 + (5 * k + 2) by omega, show 13 + 5 * k + 3 = 13 + (5 * k + 3) by omega, show 13 + 5 * k + 4 = 13 + (5 * k + 4) by omega]
 exact h5
theorem Dt.cEn (h : Dt B kb raw im en q p g w0 s w) {k i : Nat} (hk8 : k ≤ 8) (hi : i < 5) : ∃ u, w.cell? ⟨kb, 13 + k * 5 + i, none⟩ = some u := by
 have hl : 5 * k + i < en.length := by rw [h.hen]; omega
 refine ⟨en[5 * k + i], ?_⟩
 rw [show 13 + k * 5 + i = 13 + (5 * k + i) by omega, h.dn.ce (by omega), List.getElem?_eq_getElem hl]
set_option maxRecDepth 100000 in
set_option maxHeartbeats 4000000 in
theorem headShortX {ao : Option Addr} {N cap : Nat} (h : Dt B kb (.slice ao N cap) im en q p g w0 s w) (hN : N < 160) : Calls Tryz.prog 46 #[.pointer (some ⟨kb, 0, none⟩)] w fun e w' => e = .returned (.tuple #[]) ∧ Dt B kb (.slice ao N cap) im en q p g w0 (askD false 10 0 (N : Int) s) w' := by
 have x0 : w.cell? ⟨kb, 0, none⟩ = some (.slice ao N cap) := (h.cell 0).trans rdC_raw
 have HA := Lib.hid (daskX h false 10 0 (N : Int))
 have hi : (N : Int) < 160 := by omega
 clear h
 go_enter Tryz.func46, Tryz.ntmps46
 go_wp2_with fail
 refine HA.out.mono ?_
 rintro e w1 ⟨rfl, h1⟩
 have H1 := Lib.hid h1
 clear h1 HA
 go_wp2_with fail
 first | go_end0 | skip
 first | exact ⟨rfl, H1.out⟩ | (refine bodyPost_ret (results_none rfl _ _ _) rfl ?_; exact ⟨rfl, H1.out⟩)
end
end Go.Proofs.YtnifefmfhjfbnaaGreatDoor
