import Derived.Test.YtmfkggngjeolcaaGreatDoorPk39
import Derived.Test.YtmfkggngjeolcaaGreatDoorPk40
import Derived.Test.YtmfkggngjeolcaaGreatDoorPk41
import Derived.Test.YtmfkggngjeolcaaGreatDoorPk17
import Derived.Test.YtmfkggngjeolcaaGreatDoorPk37
import Derived.Test.YtmfkggngjeolcaaGreatDoorPk25
import Derived.Test.YtmfkggngjeolcaaGreatDoorPk05
set_option linter.unusedSimpArgs false
set_option linter.unusedVariables false
set_option maxHeartbeats 32000000
set_option maxRecDepth 100000
namespace Go.Proofs.YtmfkggngjeolcaaGreatDoor
open Go.RowKit Bn Dc
theorem SmA.below {w w' : World} {B : Nat} {m : Bool} (h : SmA w B m) (hb : Below w.heap.size w w') : SmA w' B m := by
 have k : ∀ {i : Nat} {o : Obj}, w.heap[i]? = some o → w'.heap[i]? = some o := fun {i o} hi => (hb.block i (Array.getElem?_eq_some_iff.1 hi).1).trans hi;exact ⟨k h.h1, k h.h2, k h.h3, k h.h4, k h.h5, k h.h6, k h.h7, k h.h8, k h.h9, k h.h10, k h.h11⟩
theorem sl_bytes {w : World} {v : Value} {zs : List Nat} (h : Sl w v zs) : RowG 1 ubE w v zs := by
 obtain ⟨ao, cap, rfl, h1, h2, h3, h4, h5⟩ := h;refine ⟨ao, cap, rfl, h1, h2, fun i hi => ?_⟩;obtain ⟨b, o, rfl, hc⟩ := h5 i hi;refine ⟨b, o, rfl, World.block_lt_of_cell? w _ hc, fun j hj => ?_⟩;have h0 : j = 0 := by omega
 subst h0;rw [show o + i * 1 + 0 = o + i by omega, hc];simp [ubE, List.getD_eq_getElem?_getD, List.getElem?_eq_getElem hi]
theorem ld_im {w : World} {b : Nat} {im : List Value} (h : w.heap[b]? = some (.cells im.toArray 33 (0, 0))) (hi : (Tryz.prog.info? 33).map (·.size) = some im.toArray.size) : (Instr.loadAt 33 (.pointer (some ⟨b, 0, none⟩))).run Tryz.prog w = .ok (.agg im.toArray) w := by
 have := run_loadAt_mid (P := Tryz.prog) w b 0 33 im _ (fun j v hv => by
  rw [cell_of_row _ _ _ _ _ _ h, Nat.zero_add]
  simpa using hv) Tryz.underlying33 rfl (by simpa using hi)
 exact this
theorem ld_wh {w : World} {b : Nat} {sec ad : Int} (h : w.heap[b]? = some (.cells (whA sec ad) 94 (0, 0))) : (Instr.loadAt 94 (.pointer (some ⟨b, 0, none⟩))).run Tryz.prog w = .ok (.agg (whA sec ad)) w := by
 have := run_loadAt_mid (P := Tryz.prog) w b 0 94 [.int .i64 sec, .int .i64 ad] _ (fun j v hv => by
  rw [cell_of_row _ _ _ _ _ _ h, Nat.zero_add]
  simpa [whA] using hv) Tryz.underlying94 rfl (by kernel_rfl)
 exact this
theorem row_sl {w : World} {g : Nat} {zs : List Nat} (h : Row w g zs) (hz : ∀ z ∈ zs, z < 256) (hm : zs.length ≤ maxLen) : Sl w (.slice (some ⟨g, 0, none⟩) zs.length zs.length) zs := by
 have h9 := sl_of_row (f := 0) (l := zs.length) (c := zs.length) (ad := 0) h hz (by omega) (Nat.le_refl _) hm (.inl rfl);rw [List.drop_zero, List.take_of_length_le (Nat.le_refl _)] at h9;exact h9
theorem wh_equal (a b c d : Int) (w : World) : (Op.equalIn 10000 94 (.agg (whA a b)) (.agg (whA c d))).run Tryz.prog w = .ok (decide (a = c ∧ b = d)) w := by
 have u0 := Tryz.underlying3;have a0 := Tryz.isAgg3;have z0 := Tryz.sizeOf3;have hS : Tryz.prog.underlying 94 = some (.struct (Tryz.prog.fieldsOf 94)) := by kernel_rfl
 have hp : Tryz.prog.stoodInHeld 94 = false := by kernel_rfl
 unfold whA;rw [show (10000 : Nat) = 9999 + 1 from rfl, run_equalIn_agg w 9999 94 _ _ hS hp];simp only [Program.fieldsOf, Tryz.underlying94];go_simp
 by_cases h0 : a = c
 ·by_cases h1 : b = d
  ·simp [h0, h1]
  ·simp [h0, h1]
 ·simp [h0]
theorem wh_guard : Tryz.prog.eqGuardType Tryz.prog.depth 94 = false := by kernel_rfl
namespace Dc
end Dc
def LQ (w : World) (e : Ending) (w' : World) : Prop := e = .returned (.bool true) ∧ Below w.heap.size w w'
end Go.Proofs.YtmfkggngjeolcaaGreatDoor
namespace Go.Proofs.YtmfkggngjeolcaaGreatDoor
open Go.RowKit Bn Dd
open Dc
theorem alike_refl (I : Im) : alike I I := ⟨rfl, rfl, rfl, ⟨rfl, rfl⟩, rfl, rfl, rfl, rfl, rfl, rfl, rfl⟩
theorem imJ_zero : ImJ zeroI := ⟨⟨Nat.zero_le _, fun _ h => (nomatch h), fun _ h => (nomatch h), fun _ h => (nomatch h), fun _ h => (nomatch h)⟩, fun _ h => (nomatch h), fun _ h => (nomatch h), fun _ h => (nomatch h), fun _ h => (nomatch h), fun _ h => (nomatch h), by show I64R 0; unfold I64R; omega, by show I64R 0; unfold I64R; omega⟩
noncomputable def outJ (bs : List Nat) : Im := if (decA bs).why = 0 then (decA bs).J else zeroI
noncomputable def outS (bs : List Nat) : Int := if (decA bs).why = 0 then 0 else (decA bs).sec
noncomputable def outA (bs : List Nat) : Int := if (decA bs).why = 0 then 0 else (decA bs).ad
theorem DecQ.one {Z : Nat} {bs : List Nat} {e : Ending} {w : World} (h : DecQ Z bs e w) : ∃ im, e = .returned (.tuple #[.agg im.toArray, .agg (whA (outS bs) (outA bs)), .int .i64 (decA bs).why]) ∧ im.length = 12 ∧ ImD Z w im (outJ bs) := by
 unfold outJ outS outA;rcases h with ⟨h1, im, h2, h3, h4⟩ | ⟨h1, h2⟩
 ·rw [if_pos h1, if_pos h1, if_pos h1, h1];exact ⟨im, h2, h3, h4⟩
 ·rw [if_neg h1, if_neg h1, if_neg h1];exact ⟨im0, h2, rfl, ImD.zero Z w 0⟩
theorem outJ_im {bs : List Nat} (hb : ∀ z ∈ bs, z < 256) : ImJ (outJ bs) := by
 unfold outJ
 split
 ·rename_i h
  exact dec_imJ hb h
 ·exact imJ_zero
theorem ImD.kz {Z : Nat} {S : Nat → Prop} {w w' : World} {im : List Value} {J : Im} (h : ImD Z w im J) (hf : Keeps S w w') (hn : ∀ k, Z ≤ k → k < w.heap.size → ¬ S k) : ImD Z w' im J := by
 have key : ∀ {β : Type} {t : TypeId} {k : Nat} {enc : β → List Value} {v : Value} {xs : List β}, OwnG t k enc w Z v xs → OwnG t k enc w' Z v xs := fun ho => by
  obtain ⟨_, _, _, _, _, hj⟩ := ho.form;exact ho.keeps hf (fun j e => hn j (hj j e).1 (hj j e).2.1)
 obtain ⟨h0, ⟨v1, a1, b1⟩, ⟨v2, a2, b2⟩, ⟨v3, a3, b3⟩, ⟨v4, a4, b4⟩, ⟨v5, a5, b5⟩, ⟨v6, a6, b6⟩, ⟨v7, a7, b7⟩, ⟨v8, a8, us, b8, c8⟩, h9, h10, ⟨v11, a11, b11⟩⟩ := h;exact ⟨h0, ⟨v1, a1, key b1⟩, ⟨v2, a2, key b2⟩, ⟨v3, a3, key b3⟩, ⟨v4, a4, key b4⟩, ⟨v5, a5, key b5⟩, ⟨v6, a6, key b6⟩, ⟨v7, a7, key b7⟩, ⟨v8, a8, us, key b8, c8.imp (fun x y ⟨e, vs, o, t⟩ => ⟨e, vs, key o, t.imp (fun _ _ q => key q)⟩)⟩, h9, h10, ⟨v11, a11, key b11⟩⟩
theorem two_laid (w3 : World) {k9 : Nat} (hk9 : w3.heap.size = k9) (im : List Value) (p q : Int) : ∃ W4, (((w3.alloc (.cells im0.toArray 33)).alloc (.cells (whA 0 0) 94)).setRow k9 im.toArray).setRow (k9 + 1) (whA p q) = W4 ∧ ((w3.alloc (.cells im0.toArray 33)).alloc (.cells (whA 0 0) 94)).heap[k9]? = some (.cells im0.toArray 33 (0, 0)) ∧ (((w3.alloc (.cells im0.toArray 33)).alloc (.cells (whA 0 0) 94)).setRow k9 im.toArray).heap[k9 + 1]? = some (.cells (whA 0 0) 94 (0, 0)) ∧ W4.heap[k9]? = some (.cells im.toArray 33 (0, 0)) ∧ W4.heap[k9 + 1]? = some (.cells (whA p q) 94 (0, 0)) ∧ Below w3.heap.size w3 W4 := by
 have s1 : (w3.alloc (.cells im0.toArray 33)).heap.size = k9 + 1 := by simp [hk9]
 have hA0 : (w3.alloc (.cells im0.toArray 33)).heap[k9]? = some (.cells im0.toArray 33 (0, 0)) := hk9 ▸ heap_alloc_new w3 _;have hA1 : ((w3.alloc (.cells im0.toArray 33)).alloc (.cells (whA 0 0) 94)).heap[k9]? = some (.cells im0.toArray 33 (0, 0)) := (Below.heap_alloc _ _ k9 (by rw [s1]; omega)).trans hA0
 have hB1 : ((w3.alloc (.cells im0.toArray 33)).alloc (.cells (whA 0 0) 94)).heap[k9 + 1]? = some (.cells (whA 0 0) 94 (0, 0)) := by
  have := heap_alloc_new (w3.alloc (.cells im0.toArray 33)) (.cells (whA 0 0) 94);rw [s1] at this;exact this
 have hb4 : Below w3.heap.size w3 ((w3.alloc (.cells im0.toArray 33)).alloc (.cells (whA 0 0) 94)) := ((Below.refl _ _).alloc (Nat.le_refl _) _).alloc (by rw [s1]; omega) _;have hB2 : (((w3.alloc (.cells im0.toArray 33)).alloc (.cells (whA 0 0) 94)).setRow k9 im.toArray).heap[k9 + 1]? = some (.cells (whA 0 0) 94 (0, 0)) := by rw [row_ne (by omega) _]; exact hB1
 refine ⟨_, rfl, hA1, hB2, ?_, setRow_heap _ _ _ _ _ _ hB2, (hb4.trans (below_setRow _ _ _ _ (by omega))).trans (below_setRow _ _ _ _ (by omega))⟩;rw [row_ne (by omega) _];exact setRow_heap _ _ _ _ _ _ hA1
theorem wpList_neq_wh {w : World} {ops : Array Oper} {rest : List Oper} {o : Oper} {a : Act} {Q : Exit → Act → World → Prop} (hw : Region.wanted o (yielded ops a.tmps) = true) (x y : Operand) {t' : TypeId} (ho : o.op = .binOp .neq 94 x y t') {p q : Int} (hx : a.eval x = .agg (whA p q)) (hy : a.eval y = .agg (whA p q))
  (hK : wpList Tryz.prog ops Q rest (a.put o.dst (.bool false)) w) : wpList Tryz.prog ops Q (o :: rest) a w := by
 refine wpList_step fun K' hK' => ?_;rw [if_pos hw];unfold Oper.wp execOp;have hg : (eqGuard .neq 94 x y (.agg (whA p q)) (.agg (whA p q))).run Tryz.prog w = .ok () w := run_eqGuard_agg w _ _ _ _ _ _ wh_guard
 have he : (binOp .neq 94 (.agg (whA p q)) (.agg (whA p q))).run Tryz.prog w = .ok (.bool false) w := by
  rw [run_neq_struct, wh_equal];simp [Result.andThen]
 simp only [ho, hx, hy, Sem.run_bind, Sem.run_pure, Result.andThen_ok, hg, he];exact hK' _ _ hK
theorem decodedX {w : World} {v : Value} {zs : List Nat} {n : Nat} (ht : Tab w) (hs : Sl w v zs) (hn : n ≤ zs.length) (hl : zs.length ≤ 17179869184) : Calls Tryz.prog 12 #[v, .int .i64 (n : Int)] w (LQ w) := by
 obtain ⟨ao, cap, hv, hlc, hcm, hsm, _⟩ := id hs;subst hv;have hsm2 : ∀ z ∈ zs.take n, z < 256 := fun z hz => hsm z (List.mem_of_mem_take hz);have hbl : (zs.take n).length = n := by rw [List.length_take]; omega
 have HJ := Lib.hid (outJ_im hsm2);have HSm := Lib.hid hsm;have HFu : Hid (∀ W, Below w.heap.size w W → Calls Tryz.prog 27 #[.slice ao n cap] W fun e w' => DecQ (W.heap.size + 2) (zs.take n) e w' ∧ Below W.heap.size W w') := fun W hW => decodeX (sl_front (hs.below hW) hn) (ht.below hW);have HSl : Hid (∀ W, Below w.heap.size w W → Sl W (.slice ao zs.length cap) zs) := fun W hW => hs.below hW;have HHn : Hid (n ≤ zs.length ∧ zs.length ≤ 17179869184) := ⟨hn, hl⟩
 have hnc : n ≤ cap := by omega
 have HQ1 : Hid (∀ Z e w', DecQ Z (zs.take n) e w' → ∃ im, e = .returned (.tuple #[.agg im.toArray, .agg (whA (outS (zs.take n)) (outA (zs.take n))), .int .i64 (decA (zs.take n)).why]) ∧ im.length = 12 ∧ ImD Z w' im (outJ (zs.take n))) := fun Z e w' h => h.one;clear hs ht hsm hsm2;obtain ⟨y, hy⟩ : ∃ y, (decA (zs.take n)).why = y := ⟨_, rfl⟩
 obtain ⟨sec, hsec⟩ : ∃ y, outS (zs.take n) = y := ⟨_, rfl⟩
 obtain ⟨ad, had⟩ : ∃ y, outA (zs.take n) = y := ⟨_, rfl⟩
 obtain ⟨J, hJ⟩ : ∃ y, outJ (zs.take n) = y := ⟨_, rfl⟩
 rw [hJ] at HJ;rw [hy, hsec, had, hJ] at HQ1;clear hy hsec had hJ;have hH := HHn.out;have HOn : Hid (Own w w.heap.size (.slice none 0 0) []) := own_nil w _;have HS0 := Lib.hid (HSl.out w (Below.refl _ _));go_enter Tryz.func12, Tryz.ntmps12
 go_wp2_with (refine wpList_append_sl (.const (.slice none 0 0)) (.tmp 15) (by kernel_rfl) rfl (base := w.heap.size) rfl HOn.out rfl HS0.out (by simp; omega) (Nat.le_refl _) ?_)
 intro v1 w1 ho1 hg1 _;have ho1 : Own w1 w.heap.size v1 zs := ho1;have hb1 : Below w.heap.size w w1 := (Below.refl _ _).grown hg1 (Nat.le_refl _) (fun k e => by cases e);have hsw := ho1.sl HSm.out;obtain ⟨va, vc, hv1, hvl, hvm, _, _⟩ := id hsw;subst hv1;have HB1 := Lib.hid hb1;have HSw := Lib.hid hsw;have hnv : n ≤ vc := by omega
 have HRd := Lib.hid (rdecodeQ (sl_front hsw hn) (by rw [List.length_take]; omega));clear ho1 hg1 hb1 hsw HOn HS0;have Hw1w := HB1;go_wp2_with fail
 refine HRd.out.mono ?_;rintro e cR ⟨hq, hbc⟩;obtain ⟨imR, rfl, hlR, hdR⟩ := HQ1.out _ _ _ hq;have HCR : Hid (Below w1.heap.size w1 cR) := hbc;have HLR : Hid (imR.length = 12) := hlR;have HDR := Lib.hid hdR;have HIR := Lib.hid (info_im hlR);have HNR : Hid (imR.toArray.all (·.oneCell') = true) := hdR.one hlR;obtain ⟨kR, hkR⟩ : ∃ k, cR.heap.size = k := ⟨_, rfl⟩
 obtain ⟨WR, hW, hA, hB, hX, hY, hb⟩ := two_laid cR hkR imR sec ad;have HXR := Lib.hid hX;have HYR := Lib.hid hY;have HWR : Hid (Below cR.heap.size cR WR) := hb;have HA := Lib.hid hA;have HB := Lib.hid hB;have HKR : Hid (cR.heap.size = kR) := hkR;have HTR : Hid (Below w.heap.size w WR) := Hw1w.out.trans ((HCR.out.trans (HWR.out.mono HCR.out.size)).mono Hw1w.out.size);have HWRw := HTR;clear hq hbc hX hY hb hA hB hlR hdR;go_upto_region 3 with (first | (refine wpList_store_arr rfl 33 (.tmp 6) (.tmp 22) rfl (b := kR) (Z := im0.toArray) (g := imR.toArray) rfl rfl rfl HA.out HIR.out (by simp [HLR.out, im0]) HNR.out ?_) | (refine wpList_store_arr rfl 94 (.tmp 7) (.tmp 23) rfl (b := kR + 1) (Z := whA 0 0) (g := whA sec ad) rfl rfl rfl HB.out (info_wh sec ad) rfl (by kernel_rfl) ?_))
 show Code.wp _ _ _ _ ((((cR.alloc (.cells im0.toArray 33)).alloc (.cells (whA 0 0) 94)).setRow kR imR.toArray).setRow (kR + 1) (whA sec ad))
 rw [hW];clear hW hkR HA HB;have HF1 := Lib.hid (HFu.out WR HWRw.out);go_wp2_with fail
 refine HF1.out.mono ?_;rintro e cF ⟨hq, hbc⟩;obtain ⟨imF, rfl, hlF, hdF⟩ := HQ1.out _ _ _ hq;have HCF : Hid (Below WR.heap.size WR cF) := hbc;have HLF : Hid (imF.length = 12) := hlF;have HDF := Lib.hid hdF;have HIF := Lib.hid (info_im hlF);have HNF : Hid (imF.toArray.all (·.oneCell') = true) := hdF.one hlF;obtain ⟨kF, hkF⟩ : ∃ k, cF.heap.size = k := ⟨_, rfl⟩
 obtain ⟨WF, hW, hA, hB, hX, hY, hb⟩ := two_laid cF hkF imF sec ad;have HXF := Lib.hid hX;have HYF := Lib.hid hY;have HWF : Hid (Below cF.heap.size cF WF) := hb;have HA := Lib.hid hA;have HB := Lib.hid hB;have HKF : Hid (cF.heap.size = kF) := hkF;have HTF : Hid (Below w.heap.size w WF) := HWRw.out.trans ((HCF.out.trans (HWF.out.mono HCF.out.size)).mono HWRw.out.size);have HWFw := HTF;clear hq hbc hX hY hb hA hB hlF hdF;go_upto_region 4 with (first | (refine wpList_store_arr rfl 33 (.tmp 9) (.tmp 30) rfl (b := kF) (Z := im0.toArray) (g := imF.toArray) rfl rfl rfl HA.out HIF.out (by simp [HLF.out, im0]) HNF.out ?_) | (refine wpList_store_arr rfl 94 (.tmp 10) (.tmp 31) rfl (b := kF + 1) (Z := whA 0 0) (g := whA sec ad) rfl rfl rfl HB.out (info_wh sec ad) rfl (by kernel_rfl) ?_))
 show Code.wp _ _ _ _ ((((cF.alloc (.cells im0.toArray 33)).alloc (.cells (whA 0 0) 94)).setRow kF imF.toArray).setRow (kF + 1) (whA sec ad))
 rw [hW];clear hW hkF HA HB;have HF2 := Lib.hid (HFu.out WF HWFw.out);clear HF1 HRd;go_wp2_with fail
 refine HF2.out.mono ?_;rintro e cG ⟨hq, hbc⟩;obtain ⟨imG, rfl, hlG, hdG⟩ := HQ1.out _ _ _ hq;have HCG : Hid (Below WF.heap.size WF cG) := hbc;have HLG : Hid (imG.length = 12) := hlG;have HDG := Lib.hid hdG;have HIG := Lib.hid (info_im hlG);have HNG : Hid (imG.toArray.all (·.oneCell') = true) := hdG.one hlG;obtain ⟨kG, hkG⟩ : ∃ k, cG.heap.size = k := ⟨_, rfl⟩
 obtain ⟨WG, hW, hA, hB, hX, hY, hb⟩ := two_laid cG hkG imG sec ad;have HXG := Lib.hid hX;have HYG := Lib.hid hY;have HWG : Hid (Below cG.heap.size cG WG) := hb;have HA := Lib.hid hA;have HB := Lib.hid hB;have HKG : Hid (cG.heap.size = kG) := hkG;have HTG : Hid (Below w.heap.size w WG) := HWFw.out.trans ((HCG.out.trans (HWG.out.mono HCG.out.size)).mono HWFw.out.size);have HWGw := HTG;clear hq hbc hX hY hb hA hB hlG hdG;go_upto_region 5 with (first | (refine wpList_store_arr rfl 33 (.tmp 12) (.tmp 38) rfl (b := kG) (Z := im0.toArray) (g := imG.toArray) rfl rfl rfl HA.out HIG.out (by simp [HLG.out, im0]) HNG.out ?_) | (refine wpList_store_arr rfl 94 (.tmp 13) (.tmp 39) rfl (b := kG + 1) (Z := whA 0 0) (g := whA sec ad) rfl rfl rfl HB.out (info_wh sec ad) rfl (by kernel_rfl) ?_))
 show Code.wp _ _ _ _ ((((cG.alloc (.cells im0.toArray 33)).alloc (.cells (whA 0 0) 94)).setRow kG imG.toArray).setRow (kG + 1) (whA sec ad))
 rw [hW];clear hW hkG HA HB;clear HF2 HFu HQ1
 skip
 have bRG : Below WR.heap.size WR WG := HCF.out.trans ((HWF.out.trans ((HCG.out.trans (HWG.out.mono HCG.out.size)).mono HWF.out.size)).mono HCF.out.size);have bFG : Below WF.heap.size WF WG := HCG.out.trans (HWG.out.mono HCG.out.size);have xR : WG.heap[kR]? = some (.cells imR.toArray 33 (0, 0)) := (bRG.block kR (Array.getElem?_eq_some_iff.1 HXR.out).1).trans HXR.out;have yR : WG.heap[kR + 1]? = some (.cells (whA sec ad) 94 (0, 0)) := (bRG.block (kR + 1) (Array.getElem?_eq_some_iff.1 HYR.out).1).trans HYR.out;have xF : WG.heap[kF]? = some (.cells imF.toArray 33 (0, 0)) := (bFG.block kF (Array.getElem?_eq_some_iff.1 HXF.out).1).trans HXF.out;have yF : WG.heap[kF + 1]? = some (.cells (whA sec ad) 94 (0, 0)) := (bFG.block (kF + 1) (Array.getElem?_eq_some_iff.1 HYF.out).1).trans HYF.out;have cRG : Below cR.heap.size cR WG := HWR.out.trans (bRG.mono HWR.out.size);have cFG : Below cF.heap.size cF WG := HWF.out.trans (bFG.mono HWF.out.size);have HDR2 : Hid (ImD w1.heap.size WG imR J) := HDR.out.kz (Keeps.of_below (S := fun _ => False) cRG) (fun _ _ _ e => e);have HDF2 : Hid (ImD (WR.heap.size + 2) WG imF J) := HDF.out.kz (Keeps.of_below (S := fun _ => False) cFG) (fun _ _ _ e => e);have HDG2 : Hid (ImD (WF.heap.size + 2) WG imG J) := HDG.out.kz (Keeps.of_below (S := fun _ => False) HWG.out) (fun _ _ _ e => e);have HBx : Hid (∀ W, Below WG.heap.size WG W → W.heap[kR]? = some (.cells imR.toArray 33 (0, 0)) ∧ W.heap[kF]? = some (.cells imF.toArray 33 (0, 0)) ∧ W.heap[kG]? = some (.cells imG.toArray 33 (0, 0))) := fun W hW => ⟨(hW.block kR (Array.getElem?_eq_some_iff.1 xR).1).trans xR, (hW.block kF (Array.getElem?_eq_some_iff.1 xF).1).trans xF, (hW.block kG (Array.getElem?_eq_some_iff.1 HXG.out).1).trans HXG.out⟩
 have HLdR : Hid (∀ W, Below WG.heap.size WG W → (Instr.loadAt 33 (.pointer (some ⟨kR, 0, none⟩))).run Tryz.prog W = .ok (.agg imR.toArray) W) := fun W hW => ld_im (HBx.out W hW).1 HIR.out;have HLdF : Hid (∀ W, Below WG.heap.size WG W → (Instr.loadAt 33 (.pointer (some ⟨kF, 0, none⟩))).run Tryz.prog W = .ok (.agg imF.toArray) W) := fun W hW => ld_im (HBx.out W hW).2.1 HIF.out;have HLdG : Hid (∀ W, Below WG.heap.size WG W → (Instr.loadAt 33 (.pointer (some ⟨kG, 0, none⟩))).run Tryz.prog W = .ok (.agg imG.toArray) W) := fun W hW => ld_im (HBx.out W hW).2.2 HIG.out;have HSa : Hid (∀ W, Below WG.heap.size WG W → Calls Tryz.prog 20 #[.agg imF.toArray, .agg imR.toArray] W (YN (alike J J) W)) := fun W hW => sameX ((HDF2.out.imA HLF.out HJ.out).below hW) ((HDR2.out.imA HLR.out HJ.out).below hW);have HSb : Hid (∀ W, Below WG.heap.size WG W → Calls Tryz.prog 20 #[.agg imG.toArray, .agg imR.toArray] W (YN (alike J J) W)) := fun W hW => sameX ((HDG2.out.imA HLG.out HJ.out).below hW) ((HDR2.out.imA HLR.out HJ.out).below hW);have HSc : Hid (∀ W, Below WG.heap.size WG W → Calls Tryz.prog 19 #[.slice ao zs.length cap, .slice va zs.length vc] W (YN (zs = zs) W)) := fun W hW => sameBytesX (sl_bytes (HSl.out W (HWGw.out.trans (hW.mono HWGw.out.size)))) (sl_bytes (HSw.out.below ((HCR.out.trans (cRG.mono HCR.out.size)).trans (hW.mono (HCR.out.trans (cRG.mono HCR.out.size)).size))));have HlYR := Lib.hid (ld_wh yR);have HlYF := Lib.hid (ld_wh yF);have HlYG := Lib.hid (ld_wh HYG.out);have HlXR := Lib.hid (HLdR.out WG (Below.refl _ _));have HlXF := Lib.hid (HLdF.out WG (Below.refl _ _));have sR : w1.heap.size ≤ cR.heap.size := HCR.out.size;have sR2 : cR.heap.size ≤ WR.heap.size := HWR.out.size;have sF : WR.heap.size ≤ cF.heap.size := HCF.out.size;have sF2 : cF.heap.size ≤ WF.heap.size := HWF.out.size;have sG : WF.heap.size ≤ cG.heap.size := HCG.out.size;have sG2 : cG.heap.size ≤ WG.heap.size := HWG.out.size;have s1 : w.heap.size ≤ w1.heap.size := HB1.out.size;have lR := (Array.getElem?_eq_some_iff.1 HXR.out).1;have eF := HKF.out;have eG := HKG.out;have HSp : Hid (∀ W, Below WG.heap.size WG W → Calls Tryz.prog 28 #[.agg imF.toArray] W fun e w' => e = .returned (.tuple #[]) ∧ Keeps (fun k => WR.heap.size + 2 ≤ k ∧ k < cF.heap.size) W w') := fun W hW => spoilX HDF.out HLF.out (cFG.trans (hW.mono (Nat.le_trans sF2 (Nat.le_trans sG sG2))))
 have HFin : Hid (∀ W W', Below WG.heap.size WG W → Keeps (fun k => WR.heap.size + 2 ≤ k ∧ k < cF.heap.size) W W' → ((Instr.loadAt 33 (.pointer (some ⟨kG, 0, none⟩))).run Tryz.prog W' = .ok (.agg imG.toArray) W' ∧ (Instr.loadAt 33 (.pointer (some ⟨kR, 0, none⟩))).run Tryz.prog W' = .ok (.agg imR.toArray) W') ∧ Calls Tryz.prog 20 #[.agg imG.toArray, .agg imR.toArray] W' (YN (alike J J) W') ∧ Below w.heap.size w W') := fun W W' hW hk => by
  have h1 := HBx.out W hW;have g1 := (hk.block kG (Array.getElem?_eq_some_iff.1 h1.2.2).1 (fun e => by omega)).trans h1.2.2;have g2 := (hk.block kR (Array.getElem?_eq_some_iff.1 h1.1).1 (fun e => by omega)).trans h1.1;have kR9 : Keeps (fun k => WR.heap.size + 2 ≤ k ∧ k < cF.heap.size) cR W' := (Keeps.of_below (S := fun k => WR.heap.size + 2 ≤ k ∧ k < cF.heap.size) (cRG.trans (hW.mono (Nat.le_trans sR2 (Nat.le_trans sF (Nat.le_trans sF2 (Nat.le_trans sG sG2))))))).trans hk (fun _ _ e => e);have kG9 : Keeps (fun k => WR.heap.size + 2 ≤ k ∧ k < cF.heap.size) cG W' := (Keeps.of_below (S := fun k => WR.heap.size + 2 ≤ k ∧ k < cF.heap.size) (HWG.out.trans (hW.mono sG2))).trans hk (fun _ _ e => e);have d1 := HDR.out.kz kR9 (fun k h1 h2 e => by omega);have d2 := HDG.out.kz kG9 (fun k h1 h2 e => by omega);have hb9 : Below w.heap.size w W := HWGw.out.trans (hW.mono HWGw.out.size);exact ⟨⟨ld_im g1 HIG.out, ld_im g2 HIR.out⟩, sameX (d2.imA HLG.out HJ.out) (d1.imA HLR.out HJ.out), hb9.trans (hk.below hb9.size (fun i _ e => by omega))⟩
 clear xR yR xF yF cRG cFG bRG bFG sR sR2 sF sF2 sG sG2 s1 lR eF eG;clear HXR HYR HWR HIR HNR HLR HDR HKR HCR HTR HXF HYF HWF HIF HNF HLF HDF HKF HCF HTF HXG HYG HWG HIG HNG HLG HDG HKG HCG HTG HDR2 HDF2 HDG2 HWRw HWFw HWGw HSl HSw HBx HSm HJ Hw1w HB1;go_wp2_with (first | (refine wpList_load_tyG (by kernel_rfl) 94 (.tmp 10) rfl rfl HlYF.out ?_) | (refine wpList_load_tyG (by kernel_rfl) 94 (.tmp 7) rfl rfl HlYR.out ?_) | (refine wpList_load_tyG (by kernel_rfl) 94 (.tmp 13) rfl rfl HlYG.out ?_) | (refine wpList_neq_wh (by kernel_rfl) (.tmp 50) (.tmp 51) rfl (p := sec) (q := ad) rfl rfl ?_) | (refine wpList_neq_wh (by kernel_rfl) (.tmp 55) (.tmp 56) rfl (p := sec) (q := ad) rfl rfl ?_) | (refine wpList_load_tyG (by kernel_rfl) 33 (.tmp 9) rfl rfl HlXF.out ?_) | (refine wpList_load_tyG (by kernel_rfl) 33 (.tmp 6) rfl rfl HlXR.out ?_))
 refine (HSa.out WG (Below.refl _ _)).mono ?_;rintro e w6 ⟨r, rfl, hr, hb6⟩
 cases r with
 | false => exact absurd (hr.2 (alike_refl _)) (by decide)
 | true =>
 have HB6 := Lib.hid hb6;clear hr hb6 HSa HlYR HlYF HlYG HlXR HlXF;have HlG := Lib.hid (HLdG.out w6 HB6.out);have HlR := Lib.hid (HLdR.out w6 HB6.out);go_wp2_with (first | (refine wpList_load_tyG (by kernel_rfl) 33 (.tmp 12) rfl rfl HlG.out ?_) | (refine wpList_load_tyG (by kernel_rfl) 33 (.tmp 6) rfl rfl HlR.out ?_))
 refine (HSb.out w6 HB6.out).mono ?_;rintro e w7 ⟨r, rfl, hr, hb7⟩
 cases r with
 | false => exact absurd (hr.2 (alike_refl _)) (by decide)
 | true =>
 have HB7 : Hid (Below WG.heap.size WG w7) := HB6.out.trans (hb7.mono HB6.out.size);clear hr hb7 HSb HlG HlR HB6;go_wp2_with fail
 refine (HSc.out w7 HB7.out).mono ?_;rintro e w8 ⟨r, rfl, hr, hb8⟩
 cases r with
 | false => exact absurd (hr.2 (by first | exact rfl | trivial)) (by decide)
 | true =>
 have HB8 : Hid (Below WG.heap.size WG w8) := HB7.out.trans (hb8.mono HB7.out.size);clear hr hb8 HSc HB7;have HlF := Lib.hid (HLdF.out w8 HB8.out);go_wp2_with (refine wpList_load_tyG (by kernel_rfl) 33 (.tmp 9) rfl rfl HlF.out ?_)
 refine (HSp.out w8 HB8.out).mono ?_;rintro e w9 ⟨rfl, hk9⟩;have HE := Lib.hid (HFin.out w8 w9 HB8.out hk9);clear hk9 HFin HSp HlF HB8 HLdR HLdF HLdG;go_wp2_with (first | (refine wpList_load_tyG (by kernel_rfl) 33 (.tmp 12) rfl rfl HE.out.1.1 ?_) | (refine wpList_load_tyG (by kernel_rfl) 33 (.tmp 6) rfl rfl HE.out.1.2 ?_))
 refine HE.out.2.1.mono ?_;rintro e w10 ⟨r, rfl, hr, hb10⟩
 cases r with
 | false => exact absurd (hr.2 (alike_refl _)) (by decide)
 | true =>
 have HB10 : Hid (Below w.heap.size w w10) := HE.out.2.2.trans (hb10.mono HE.out.2.2.size);clear hr hb10 HE;go_wp2_with fail
 go_ret
 exact ⟨rfl, HB10.out⟩
end Go.Proofs.YtmfkggngjeolcaaGreatDoor
namespace Go.Proofs.YtmfkggngjeolcaaGreatDoor
namespace Pl
end Pl
end Go.Proofs.YtmfkggngjeolcaaGreatDoor
