import Derived.Test.YtmfkggngjeolcaaGreatDoorPk36
import Derived.Test.YtmfkggngjeolcaaGreatDoorPk39
import Derived.Deep.CutRange
import Derived.Deep.CutBlock
set_option linter.unusedSimpArgs false
set_option linter.unusedVariables false
set_option maxHeartbeats 64000000
set_option maxRecDepth 100000
namespace Go.Proofs.YtmfkggngjeolcaaGreatDoor
open Go.RowKit Bn Dd
open Dc
theorem rdec_results {T : Array Value} {W : World} {b1 b2 : Nat} {im : List Value} {sec ad : Int} {y : Value} (h2 : T[2]?.getD undef = .pointer (some ⟨b1, 0, none⟩)) (h3 : T[3]?.getD undef = .pointer (some ⟨b2, 0, none⟩)) (h4 : T[4]?.getD undef = y) (k1 : W.heap[b1]? = some (.cells im.toArray 33 (0, 0))) (hl : im.length = 12) (k2 : W.heap[b2]? = some (.cells (whA sec ad) 94 (0, 0))) : (results Tryz.f26 T).run Tryz.prog W = .ok (.tuple #[.agg im.toArray, .agg (whA sec ad), y]) W := by
 have l1 : (loadVar 33 ⟨b1, 0, none⟩).run Tryz.prog W = .ok (.agg im.toArray) W := run_loadVar_row _ _ _ _ _ _ _ k1 Tryz.underlying33 rfl (info_im hl);have l2 : (loadVar 94 ⟨b2, 0, none⟩).run Tryz.prog W = .ok (.agg (whA sec ad)) W := run_loadVar_row _ _ _ _ _ _ _ k2 Tryz.underlying94 rfl (info_wh sec ad);simp only [results, Tryz.results26];simp [Sem.run_bind, Result.andThen, h2, h3, h4, asAddr, l1, l2]
theorem dheadSQ {w : World} {v : Value} {bs : List Nat} (hs : Sl w v bs) (h160 : bs.length < 160) : Calls Tryz.prog 67 #[v] w fun e w' => e = .returned (.tuple #[.int .i64 10, .int .i64 (bs.length : Int)]) ∧ Below w.heap.size w w' := by
 obtain ⟨ao, cap, rfl, q1, q2, q3, q4, q5⟩ := id hs;have jl : (bs.length : Int) < 160 := by omega
 have HB := Lib.hid (Below.refl w.heap.size w);clear hs q1 q2 q3 q4 q5 h160;go_enter Tryz.func67, Tryz.ntmps67
 go_wp2_with fail
 go_ret2
 exact ⟨rfl, HB.out⟩
def hdG (bs : List Nat) : Int × Int := if bs.length < 160 then (10, (bs.length : Int)) else headF bs
theorem dhead2Q {w : World} {v : Value} {bs : List Nat} (hs : Sl w v bs) (hsz : bs.length ≤ 1099511627776) : Calls Tryz.prog 67 #[v] w fun e w' => e = .returned (.tuple #[.int .i64 (hdG bs).1, .int .i64 (hdG bs).2]) ∧ Below w.heap.size w w' := by
 unfold hdG
 by_cases h : bs.length < 160
 ·rw [if_pos h];exact dheadSQ hs h
 ·rw [if_neg h];exact dheadQ hs (by omega) hsz
theorem dec_hd {bs : List Nat} (h : (hdG bs).1 ≠ 0) : ∃ J, decA bs = ⟨J, (hdG bs).1, 0, (hdG bs).2⟩ := by
 unfold hdG at h ⊢
 by_cases e : bs.length < 160
 ·rw [if_pos e];exact ⟨_, head_short e⟩
 ·rw [if_neg e] at h ⊢;exact ⟨_, dec_head (by omega) h⟩
theorem dec_hd0 {bs : List Nat} (h : (hdG bs).1 = 0) : 160 ≤ bs.length ∧ (headF bs).1 = 0 := by
 unfold hdG at h
 by_cases e : bs.length < 160
 ·rw [if_pos e] at h;exact absurd h (show ¬ (10 : Int) = 0 by decide)
 ·rw [if_neg e] at h;exact ⟨by omega, h⟩
theorem decQ_no {Z : Nat} {bs : List Nat} {why sec ad : Int} {w' : World} (h1 : (decA bs).why = why) (h2 : (decA bs).sec = sec) (h3 : (decA bs).ad = ad) (hw : why ≠ 0) : DecQ Z bs (.returned (.tuple #[.agg im0.toArray, .agg (whA sec ad), .int .i64 why])) w' := by
 subst h1 h2 h3;exact .inr ⟨hw, rfl⟩
structure Bxs (b : Nat) (w W : World) : Prop where
 k1 : W.heap[b]? = some (.cells im0.toArray 33 (0, 0))
 k2 : W.heap[b + 1]? = some (.cells (whA 0 0) 94 (0, 0))
 bl : Below b w W
theorem Bxs.below {b : Nat} {w W W' : World} (h : Bxs b w W) (hb : Below (b + 2) W W') : Bxs b w W' := ⟨(hb.block b (by omega)).trans h.k1, (hb.block (b + 1) (by omega)).trans h.k2, h.bl.trans (hb.mono (by omega))⟩
theorem Bxs.set {b : Nat} {w W : World} (h : Bxs b w W) (im : List Value) : (W.setRow b im.toArray).heap[b + 1]? = some (.cells (whA 0 0) 94 (0, 0)) := by rw [row_ne (by omega) _]; exact h.k2
theorem Bxs.end {b : Nat} {w W : World} (h : Bxs b w W) (im : List Value) (sec ad : Int) : ((W.setRow b im.toArray).setRow (b + 1) (whA sec ad)).heap[b]? = some (.cells im.toArray 33 (0, 0)) ∧ ((W.setRow b im.toArray).setRow (b + 1) (whA sec ad)).heap[b + 1]? = some (.cells (whA sec ad) 94 (0, 0)) ∧ Below b w ((W.setRow b im.toArray).setRow (b + 1) (whA sec ad)) :=
 ⟨by rw [row_ne (by omega) _]; exact setRow_heap _ _ _ _ _ _ h.k1, setRow_heap _ _ _ _ _ _ (h.set im), h.bl.trans ((below_setRow _ _ _ _ (Nat.le_refl _)).trans (below_setRow _ _ _ _ (by omega)))⟩
theorem Bxs.sto {b : Nat} {w W : World} (h : Bxs b w W) (sec ad : Int) : ((stoD b (b + 1) sec ad W).heap[b]? = some (.cells im0.toArray 33 (0, 0)) ∧ (stoD b (b + 1) sec ad W).heap[b + 1]? = some (.cells (whA sec ad) 94 (0, 0))) ∧ Below b w (stoD b (b + 1) sec ad W) := ⟨sto_heap (by omega) h.k1 h.k2, sto_below h.bl (Nat.le_refl _) (by omega)⟩
theorem Bxs.drew {b : Nat} {w W : World} (h : Bxs b w W) : Bxs b w W.drew := ⟨h.k1, h.k2, h.bl.trans ⟨rfl, rfl, rfl, Nat.le_refl _, fun _ _ => rfl⟩⟩
theorem Bxs.facts {b : Nat} {w W : World} (h : Bxs b w W) : W.cell? ⟨b, 0, none⟩ = some (.int .u64 0) ∧ W.frozen? ⟨b, 0, none⟩ = false ∧ W.cell? ⟨b, 1, none⟩ = some (.slice none 0 0) ∧ W.frozen? ⟨b, 1, none⟩ = false ∧ W.cell? ⟨b, 2, none⟩ = some (.slice none 0 0) ∧ W.frozen? ⟨b, 2, none⟩ = false ∧ W.cell? ⟨b, 3, none⟩ = some (.slice none 0 0) ∧ W.frozen? ⟨b, 3, none⟩ = false ∧ W.cell? ⟨b, 4, none⟩ = some (.slice none 0 0) ∧ W.frozen? ⟨b, 4, none⟩ = false ∧ W.cell? ⟨b, 5, none⟩ = some (.slice none 0 0) ∧ W.frozen? ⟨b, 5, none⟩ = false ∧ W.cell? ⟨b, 6, none⟩ = some (.slice none 0 0) ∧ W.frozen? ⟨b, 6, none⟩ = false ∧ W.cell? ⟨b, 7, none⟩ = some (.slice none 0 0) ∧ W.frozen? ⟨b, 7, none⟩ = false ∧ W.cell? ⟨b, 8, none⟩ = some (.slice none 0 0) ∧ W.frozen? ⟨b, 8, none⟩ = false ∧ W.cell? ⟨b, 9, none⟩ = some (.int .i64 0) ∧ W.frozen? ⟨b, 9, none⟩ = false ∧ W.cell? ⟨b, 10, none⟩ = some (.int .i64 0) ∧ W.frozen? ⟨b, 10, none⟩ = false ∧ W.cell? ⟨b, 11, none⟩ = some (.slice none 0 0) ∧ W.frozen? ⟨b, 11, none⟩ = false ∧ W.cell? ⟨b + 1, 0, none⟩ = some (.int .i64 0) ∧ W.frozen? ⟨b + 1, 0, none⟩ = false ∧ W.cell? ⟨b + 1, 1, none⟩ = some (.int .i64 0) ∧ W.frozen? ⟨b + 1, 1, none⟩ = false := by
 refine ⟨?_, box_free h.k1 _, ?_, box_free h.k1 _, ?_, box_free h.k1 _, ?_, box_free h.k1 _, ?_, box_free h.k1 _, ?_, box_free h.k1 _, ?_, box_free h.k1 _, ?_, box_free h.k1 _, ?_, box_free h.k1 _, ?_, box_free h.k1 _, ?_, box_free h.k1 _, ?_, box_free h.k1 _, ?_, box_free h.k2 _, ?_, box_free h.k2 _⟩ <;> first | (rw [cell_of_row _ _ _ _ _ _ h.k1]; rfl) | (rw [cell_of_row _ _ _ _ _ _ h.k2]; rfl)
theorem ints8_at {wd : World} {ao : Option Addr} {c : Nat} {xs : List Nat} (hl : xs.length = 8) (h : ∀ W, Below wd.heap.size wd W → RowG 1 Ek.ntE W (.slice ao 8 c) xs) : ∃ b o, (ao = some ⟨b, o, none⟩ ∧ 8 ≤ c) ∧ ∀ W, Below wd.heap.size wd W → ∀ j, (hj : j < 8) → W.cell? ⟨b, o + j, none⟩ = some (.int .i64 ((xs[j]'(by omega)) : Nat)) := by
 obtain ⟨a0, c0, e0, g1, _, g3⟩ := h wd (Below.refl _ _);simp only [Value.slice.injEq] at e0;obtain ⟨rfl, _, rfl⟩ := e0;obtain ⟨b, o, rfl, _⟩ := g3 0 (by omega);refine ⟨b, o, ⟨rfl, by omega⟩, fun W hW j hj => ?_⟩;obtain ⟨a2, c2, e2, _, _, k3⟩ := h W hW;simp only [Value.slice.injEq] at e2;obtain ⟨rfl, _, rfl⟩ := e2;obtain ⟨b', o', e, _, hc⟩ := k3 j (by omega)
 cases e
 have := hc 0 (by decide);rw [Nat.mul_one, Nat.add_zero] at this;exact this.trans rfl
theorem rdecodeQ {w : World} {v : Value} {bs : List Nat} (hs : Sl w v bs) (hsz : bs.length ≤ 17179869184) : Calls Tryz.prog 26 #[v] w fun e w' => DecQ w.heap.size bs e w' ∧ Below w.heap.size w w' := by
 obtain ⟨ao, cap, rfl, q1, q2, q3, q4, q5⟩ := id hs;clear q3 q4 q5;unfold maxLen at q2;obtain ⟨W1, hW1⟩ : ∃ W, w.alloc (.cells im0.toArray 33) = W := ⟨_, rfl⟩
 obtain ⟨W2, hW2⟩ : ∃ W, W1.alloc (.cells (whA 0 0) 94) = W := ⟨_, rfl⟩
 have s1 : W1.heap.size = w.heap.size + 1 := by rw [← hW1]; simp
 have s2 : W2.heap.size = w.heap.size + 2 := by rw [← hW2]; simp [s1]
 have b1 : Below w.heap.size w W1 := by rw [← hW1]; exact (Below.refl _ _).alloc (Nat.le_refl _) _
 have b2 : Below W1.heap.size W1 W2 := by rw [← hW2]; exact (Below.refl _ _).alloc (Nat.le_refl _) _
 have HB2 : Hid (Bxs w.heap.size w W2) := ⟨(b2.block w.heap.size (by omega)).trans (by rw [← hW1]; exact heap_alloc_new w _), by rw [← hW2, ← s1]; exact heap_alloc_new W1 _, b1.trans (b2.mono (by omega))⟩
 have HSz2 : Hid (W2.heap.size = w.heap.size + 2) := s2;have HSl : Hid (∀ W, Below w.heap.size w W → Sl W (.slice ao bs.length cap) bs) := fun W hW => hs.below hW;have HRl : Hid (0 < bs.length → ∀ k, (Value.slice ao bs.length cap).ownBlock = some k → k < w.heap.size) := fun hp => raw_lt hs hp;have HSm : Hid (∀ z ∈ bs, z < 256) := hs.small;have HLen : Hid (bs.length ≤ 17179869184) := hsz;have HH := Lib.hid (dhead2Q (HSl.out W2 HB2.out.bl) (by omega));have HDr : Hid (∀ W, Below w.heap.size w W → 160 ≤ bs.length → Calls Tryz.prog 68 #[.slice ao bs.length cap] W (DirQ W bs)) := fun W hW hl => ddirQ (HSl.out W hW) hl (by omega);have HNo := Lib.hid (fun h => dec_hd (bs := bs) h);have HYes := Lib.hid (fun h => dec_hd0 (bs := bs) h);clear hs b1 b2 s1 s2 hsz;obtain ⟨⟨no, px⟩, hhd⟩ : ∃ z, hdG bs = z := ⟨_, rfl⟩
 rw [hhd] at HH HNo HYes;clear hhd;go_enter Tryz.func26, Tryz.ntmps26
 go_wp2_with fail
 subst hW2 hW1;refine HH.out.mono ?_;rintro e w1 ⟨rfl, hb1⟩;have HBw := Lib.hid (HB2.out.below (by rw [← HSz2.out]; exact hb1));have HSz1 : Hid (w.heap.size + 2 ≤ w1.heap.size) := show _ ≤ _ by have := hb1.size; have := HSz2.out; omega
 clear hb1 HH HB2 HSz2
 by_cases hno : no = 0
 case neg =>
  have d0 : (no != 0) = true := by simpa using hno
  obtain ⟨J9, hJ9⟩ := HNo.out hno;have HJ9 := Lib.hid hJ9;clear hJ9 HNo HYes;have HK1 := Lib.hid HBw.out.k1;have HK2 := Lib.hid (HBw.out.set im0);have HE9 := Lib.hid (HBw.out.end im0 (0) (px));go_wp2_with (first | (refine wpList_store_arr rfl 33 (.tmp 2) (.tmp 23) rfl (b := w.heap.size) (Z := im0.toArray) (g := im0.toArray) rfl rfl rfl HK1.out (info_im (im := im0) rfl) rfl (by kernel_rfl) ?_) | (refine wpList_store_arr rfl 94 (.tmp 3) (.tmp 25) rfl (b := w.heap.size + 1) (Z := whA 0 0) (g := whA (0) (px)) rfl rfl rfl HK2.out (info_wh _ _) rfl (by kernel_rfl) ?_))
  refine bodyPost_ret (rdec_results rfl rfl rfl HE9.out.1 rfl HE9.out.2.1) rfl ?_;exact ⟨decQ_no (by rw [HJ9.out]) (by rw [HJ9.out]) (by rw [HJ9.out]) hno, HE9.out.2.2⟩
 subst hno;obtain ⟨h160, hh0⟩ := HYes.out rfl;have HD1 := Lib.hid (HDr.out w1 HBw.out.bl h160);have HP : Hid (160 ≤ bs.length ∧ (headF bs).1 = 0) := ⟨h160, hh0⟩
 clear HNo HYes h160 hh0 HDr;go_wp2_with fail
 refine HD1.out.mono ?_;rintro e wd hd;clear HD1;rcases hd with ⟨j, hj, hok, hn, rfl, hbd⟩ | ⟨hok, a1, c1, a2, c2, a3, c3, rfl, hd3⟩
 case inl =>
  have HBd := Lib.hid (HBw.out.below (hbd.mono HSz1.out));have HJ9 := Lib.hid (dec_dir HP.out.1 HP.out.2 hj hok hn);clear hbd hok hn;have d1 : ¬ ((24 : Int) + 16 * (j : Int)) < 0 := by omega
  have d2 : decide ((24 : Int) + 16 * (j : Int) ≥ 0) = true := decide_eq_true (by omega);simp only [show ((24 + 16 * j : Nat) : Int) = 24 + 16 * (j : Int) by omega] at HJ9 ⊢;have HK1 := Lib.hid HBd.out.k1;have HK2 := Lib.hid (HBd.out.set im0);have HE9 := Lib.hid (HBd.out.end im0 (0) (24 + 16 * (j : Int)));go_wp2_with (first | (refine wpList_store_arr rfl 33 (.tmp 2) (.tmp 36) rfl (b := w.heap.size) (Z := im0.toArray) (g := im0.toArray) rfl rfl rfl HK1.out (info_im (im := im0) rfl) rfl (by kernel_rfl) ?_) | (refine wpList_store_arr rfl 94 (.tmp 3) (.tmp 38) rfl (b := w.heap.size + 1) (Z := whA 0 0) (g := whA (0) (24 + 16 * (j : Int))) rfl rfl rfl HK2.out (info_wh _ _) rfl (by kernel_rfl) ?_))
  refine bodyPost_ret (rdec_results rfl rfl rfl HE9.out.1 rfl HE9.out.2.1) rfl ?_;exact ⟨decQ_no (by rw [HJ9.out]) (by rw [HJ9.out]) (by rw [HJ9.out]) (by decide), HE9.out.2.2⟩
 have HBd := Lib.hid (HBw.out.below (hd3.bl.mono HSz1.out));have HSzd : Hid (w1.heap.size ≤ wd.heap.size) := hd3.bl.size;have HOk := Lib.hid hok;have HR1 : Hid (∀ W, Below wd.heap.size wd W → RowG 1 Ek.ntE W (.slice a1 8 c1) (X1 bs 8)) := fun W hW => (hd3.o1.below hW).rowG Ek.nt_ok;have HR2 : Hid (∀ W, Below wd.heap.size wd W → RowG 1 Ek.ntE W (.slice a2 8 c2) (X2 bs 8)) := fun W hW => (hd3.o2.below hW).rowG Ek.nt_ok;have HR3 : Hid (∀ W, Below wd.heap.size wd W → RowG 1 Ek.ntE W (.slice a3 8 c3) (X3 bs 8)) := fun W hW => (hd3.o3.below hW).rowG Ek.nt_ok
 have HTg : Hid (∀ k, (Value.slice a1 8 c1).ownBlock = some k ∨ (Value.slice a2 8 c2).ownBlock = some k → w1.heap.size ≤ k ∧ k < wd.heap.size) := fun k e => by
  obtain ⟨_, _, _, _, _, g1⟩ := hd3.o1.form;obtain ⟨_, _, _, _, _, g2⟩ := hd3.o2.form;rcases e with e | e
  ·exact ⟨(g1 k e).1, (g1 k e).2.1⟩
  ·exact ⟨(g2 k e).1, (g2 k e).2.1⟩
 obtain ⟨ba, oa, e1, H1a⟩ := ints8_at (X1_len bs 8) (fun W hW => HR1.out W hW);obtain ⟨bb, ob, e2, H2a⟩ := ints8_at (X2_len bs 8) (fun W hW => HR2.out W hW);obtain ⟨bc, oc, e3, H3a⟩ := ints8_at (X3_len bs 8) (fun W hW => HR3.out W hW);obtain ⟨rfl, hc1⟩ := e1;obtain ⟨rfl, hc2⟩ := e2;obtain ⟨rfl, hc3⟩ := e3;have H1 : Hid (∀ W, Below wd.heap.size wd W → ∀ j, j < 8 → W.cell? ⟨ba, oa + j, none⟩ = some (.int .i64 ((entN bs j).f : Nat))) := fun W hW j hj => (H1a W hW j hj).trans (by simp [X1]);have H2 : Hid (∀ W, Below wd.heap.size wd W → ∀ j, j < 8 → W.cell? ⟨bb, ob + j, none⟩ = some (.int .i64 ((entN bs j).l : Nat))) := fun W hW j hj => (H2a W hW j hj).trans (by simp [X2]);have H3 : Hid (∀ W, Below wd.heap.size wd W → ∀ j, j < 8 → W.cell? ⟨bc, oc + j, none⟩ = some (.int .i64 ((entN bs j).c : Nat))) := fun W hW j hj => (H3a W hW j hj).trans (by simp [X3]);have HNe1 : Hid (w.heap.size + 2 ≤ ba) := show _ ≤ _ from Nat.le_trans HSz1.out (HTg.out ba (.inl (by first | rfl | (simp [Value.ownBlock]; omega)))).1
 clear hd3 hok HR1 HR2 HR3 H1a H2a H3a HBw;obtain ⟨rbk, rof, cap0, e0, _⟩ := (HSl.out wd HBd.out.bl).pos (by have := HP.out.1; omega);simp only [Value.slice.injEq] at e0;obtain ⟨rfl, _, rfl⟩ := e0
 have HByte : Hid (∀ W, Below w.heap.size w W → ∀ i, i < bs.length → W.cell? ⟨rbk, rof + i, none⟩ = some (.int .u8 (bs.getD i 0 : Nat))) := fun W hW i hi => by
  obtain ⟨_, _, e, _, _, _, _, h5⟩ := HSl.out W hW;simp only [Value.slice.injEq] at e;obtain ⟨rfl, _, rfl⟩ := e;obtain ⟨b, o, e, hc⟩ := h5 i hi
  cases e
  exact hc
 have HBel : Hid (∀ W, Below wd.heap.size wd W → Bxs w.heap.size w W) := fun W hW => HBd.out.below (hW.mono (Nat.le_trans HSz1.out HSzd.out));go_wp2_with fail
 go_loopw [11, 12] (fun ev jv wr => ∃ j : Nat, j ≤ 8 ∧ jv = .int .i64 (j : Int) ∧ ev = .int .i64 (nextF bs j : Int) ∧ Hid (∀ i, i < j → sealF bs i) ∧ Hid (Below wd.heap.size wd wr)) (fun _ jv _ => 8 - (intOf jv).toNat)
 case atStart => exact ⟨0, Nat.zero_le _, rfl, rfl, Lib.hid (fun i hi => by omega), Lib.hid (Below.refl _ _)⟩
 case round =>
  obtain ⟨j, hj, rfl, rfl, HSe, HW⟩ := hrel
  by_cases hj8 : j < 8
  case pos =>
   have jj : (j : Int) < 8 := by omega
   have hw1 : IntKind.i64.wrap ((j : Int) + 1) = ((j + 1 : Nat) : Int) := by rw [IntKind.wrap_i64]; omega
   have HOkj := Lib.hid (HOk.out j hj8);have hnf : nextF bs j ≤ (entN bs j).f := by rw [HOkj.out.2.2.1]; exact (Ek.begD_le j (nextF bs j)).2
   have hfl : (entN bs j).f + (entN bs j).l ≤ bs.length := HOkj.out.2.2.2.1;have hln := HLen.out;have K1 : Hid (∀ W, Below wd.heap.size wd W → W.cell? ⟨ba, oa + j, none⟩ = some (.int .i64 ((entN bs j).f : Nat))) := fun W hW => H1.out W hW j hj8;have K2 : Hid (∀ W, Below wd.heap.size wd W → W.cell? ⟨bb, ob + j, none⟩ = some (.int .i64 ((entN bs j).l : Nat))) := fun W hW => H2.out W hW j hj8;have K3 : Hid (∀ W, Below wd.heap.size wd W → W.cell? ⟨bc, oc + j, none⟩ = some (.int .i64 ((entN bs j).c : Nat))) := fun W hW => H3.out W hW j hj8;have HNx1 : Hid (nextF bs (j + 1) = (entN bs j).f + (entN bs j).l) := rfl;have HZ1 : Hid (∀ m, nextF bs j + m < (entN bs j).f → (∀ e, nextF bs j ≤ e → e < nextF bs j + m → bs.getD e 0 = 0) → bs.getD (nextF bs j + m) 0 ≠ 0 → (decA bs).why = 5 ∧ (decA bs).sec = (j : Int) + 1 ∧ (decA bs).ad = ((nextF bs j + m : Nat) : Int)) := fun m h1 h2 h3 => by have h9 := dec_zero HP.out.1 HP.out.2 HOk.out hj8 HSe.out h1 h2 h3; rw [h9]; exact ⟨rfl, by show ((j + 1 : Nat) : Int) = _; omega, rfl⟩
   have HZ2 : Hid ((∀ e, nextF bs j ≤ e → e < (entN bs j).f → bs.getD e 0 = 0) → Pl.crc ((bs.drop (entN bs j).f).take (entN bs j).l) ≠ (entN bs j).c → (decA bs).why = 11 ∧ (decA bs).sec = (j : Int) + 1 ∧ (decA bs).ad = ((entN bs j).f : Int)) := fun h2 h3 => by have h9 := dec_sum HP.out.1 HP.out.2 HOk.out hj8 HSe.out h2 h3; rw [h9]; exact ⟨rfl, by show ((j + 1 : Nat) : Int) = _; omega, rfl⟩
   have HZ3 : Hid ((∀ e, nextF bs j ≤ e → e < (entN bs j).f → bs.getD e 0 = 0) → Pl.crc ((bs.drop (entN bs j).f).take (entN bs j).l) = (entN bs j).c → ∀ i, i < j + 1 → sealF bs i) := fun h2 h3 i hi => by
    by_cases e : i = j
    ·subst e; exact ⟨h2, h3⟩
    ·exact HSe.out i (by omega)
   have hcc : (entN bs j).c < 4294967296 := Pl.acc_lt (fun z hz => HSm.out z (List.mem_of_mem_drop hz)) 0 4;have hcr : Pl.crc ((bs.drop (entN bs j).f).take (entN bs j).l) < 4294967296 := Pl.more_lt (s := 0) (by decide) (fun z hz => HSm.out z (List.mem_of_mem_drop (List.mem_of_mem_take hz)));have HCr : Hid (∀ W, Below w.heap.size w W → ∀ u, Sl W u ((bs.drop (entN bs j).f).take (entN bs j).l) → Calls Tryz.prog 43 #[u] W fun e w' => ∃ v, e = .returned v ∧ (v = .int .u32 (Pl.crc ((bs.drop (entN bs j).f).take (entN bs j).l) : Nat) ∧ w' = W)) := fun W hW u hu => (refcrc_any hu).mono (fun e w' h => ⟨_, h.1, rfl, h.2⟩);have HTx : Hid (∀ W, Below w.heap.size w W → Sl W (.slice (if cap = (entN bs j).f then some (⟨rbk, rof, none⟩ : Addr) else Option.map (fun x : Addr => x.add (entN bs j).f) (some (⟨rbk, rof, none⟩ : Addr))) ((entN bs j).f + (entN bs j).l - (entN bs j).f) (cap - (entN bs j).f)) ((bs.drop (entN bs j).f).take (entN bs j).l)) := fun W hW => text_sl (HSl.out W hW) hfl;clear HOkj HSe;generalize Pl.crc ((bs.drop (entN bs j).f).take (entN bs j).l) = cr at *;generalize (bs.drop (entN bs j).f).take (entN bs j).l = tx at *;generalize nextF bs j = nx at *;generalize (entN bs j).f = kf at *;generalize (entN bs j).l = kl at *;generalize (entN bs j).c = kc at *;have hs1 : IntKind.i64.wrap ((kf : Int) + (kl : Int)) = ((kf + kl : Nat) : Int) := by rw [IntKind.wrap_i64]; omega
   go_wp2_with fail
   go_loopw [11] (fun ev wi => ∃ m : Nat, nx + m ≤ kf ∧ ev = .int .i64 ((nx + m : Nat) : Int) ∧ Hid (∀ e, nx ≤ e → e < nx + m → bs.getD e 0 = 0) ∧ Hid (Below wd.heap.size wd wi)) (fun ev _ => kf - (intOf ev).toNat)
   case atStart => exact ⟨0, by omega, rfl, Lib.hid (fun e h1 h2 => by omega), HW⟩
   case round =>
    clear HW;obtain ⟨m, hm, rfl, HZe, HW⟩ := hrel;have k1 := K1.out _ HW.out
    by_cases hmf : nx + m < kf
    case pos =>
     have jm : ((nx + m : Nat) : Int) < (kf : Int) := by omega
     have hmi : nx + m < bs.length := by omega
     have kb := HByte.out _ (HBel.out _ HW.out).bl (nx + m) hmi;have hz := HSm.out;have hw4 : IntKind.i64.wrap (((nx + m : Nat) : Int) + 1) = ((nx + m + 1 : Nat) : Int) := by rw [IntKind.wrap_i64]; omega
     by_cases hz0 : bs.getD (nx + m) 0 = 0
     case pos =>
      rw [hz0] at kb
      have HZ5 : Hid (∀ e, nx ≤ e → e < nx + (m + 1) → bs.getD e 0 = 0) := fun e h1 h2 => by
       by_cases e9 : e = nx + m
       ·rw [e9]; exact hz0
       ·exact HZe.out e h1 (by omega)
      obtain ⟨ee, hee⟩ : ∃ ee, nx + m = ee := ⟨_, rfl⟩
      simp only [hee] at kb hw4 jm hmi hmf ⊢;clear HZe;go_wp2_with fail
      go_roundw
      case rel => exact ⟨m + 1, by omega, by subst hee; rfl, HZ5, HW⟩
      case measure => simp [intOf]; omega
     case neg =>
      have HJ := Lib.hid (HZ1.out m hmf HZe.out hz0);obtain ⟨zz, hzz⟩ : ∃ zz, bs.getD (nx + m) 0 = zz := ⟨_, rfl⟩
      rw [hzz] at kb hz0;have dz : ((zz : Int) != 0) = true := by simp; omega
      have HBx := Lib.hid (HBel.out _ HW.out);obtain ⟨ee, hee⟩ : ∃ ee, nx + m = ee := ⟨_, rfl⟩
      simp only [hee] at kb hw4 jm hmi hmf HJ ⊢;clear HZe hzz hz hee;have HK1 := Lib.hid HBx.out.k1;have HK2 := Lib.hid (HBx.out.set im0);have HE9 := Lib.hid (HBx.out.end im0 ((j : Int) + 1) ((ee : Int)));go_wp2_with (first | (refine wpList_store_arr rfl 33 (.tmp 2) (.tmp 56) rfl (b := w.heap.size) (Z := im0.toArray) (g := im0.toArray) rfl rfl rfl HK1.out (info_im (im := im0) rfl) rfl (by kernel_rfl) ?_) | (refine wpList_store_arr rfl 94 (.tmp 3) (.tmp 60) rfl (b := w.heap.size + 1) (Z := whA 0 0) (g := whA ((j : Int) + 1) ((ee : Int))) rfl rfl rfl HK2.out (info_wh _ _) rfl (by kernel_rfl) ?_))
      refine bodyPost_ret (rdec_results rfl rfl rfl HE9.out.1 rfl HE9.out.2.1) rfl ?_;exact ⟨decQ_no HJ.out.1 HJ.out.2.1 HJ.out.2.2 (by decide), HE9.out.2.2⟩
    case neg =>
     have hmk : nx + m = kf := by omega
     rw [hmk] at HZe ⊢;have jm : ¬ (kf : Int) < (kf : Int) := by omega
     have k2 := K2.out _ HW.out
     skip
     go_wp2_with fail
     go_quiet (fail)
     have HW5 : Hid (Below wd.heap.size wd (wr.drewN nq)) := Lib.hid (HW.out.trans ⟨rfl, rfl, rfl, Nat.le_refl _, fun _ _ => rfl⟩);generalize wr.drewN nq = W5 at *;clear k1 k2 HW;have hqb : ∀ W n, Below wd.heap.size wd W → Below wd.heap.size wd (World.drewN W n) := fun W n h => h.trans ⟨rfl, rfl, rfl, Nat.le_refl _, fun _ _ => rfl⟩
     have HCa : Hid (∀ n, Calls Tryz.prog 43 #[.slice (if cap = kf then some (⟨rbk, rof, none⟩ : Addr) else some (⟨rbk, rof + kf, none⟩ : Addr)) kl (cap - kf)] (World.drewN W5 n) fun e w' => e = .returned (.int .u32 (cr : Nat)) ∧ w' = World.drewN W5 n) := fun n => by
      have hb9 := (HBel.out _ (hqb _ n HW5.out)).bl;have h9 := HTx.out _ hb9;rw [Nat.add_sub_cancel_left] at h9
      refine (HCr.out _ hb9 _ (by
                    by_cases e : cap = kf
                    ·rw [if_pos e] at h9 ⊢; exact h9
                    ·rw [if_neg e] at h9 ⊢; rw [← show (if kf = 0 then (⟨rbk, rof, none⟩ : Addr) else ⟨rbk, rof + kf, none⟩) = ⟨rbk, rof + kf, none⟩ from by split <;> simp_all]; simpa [Addr.add] using h9)).mono (fun e w9 h => ?_)
      obtain ⟨v, e1, e2, e3⟩ := h;exact ⟨by rw [e1, e2], e3⟩
     have k1 := K1.out _ HW5.out;have k3 := K3.out _ HW5.out;have hwu : IntKind.u32.wrap (kc : Int) = (kc : Int) := by rw [IntKind.wrap_u32]; omega
     have hle1 : kf + kl ≤ cap := by omega
     have hle2 : kf ≤ kf + kl := by omega
     have HQ5 := Lib.hid (fun n => hqb _ n HW5.out);clear hqb;go_wp2_with fail
     skip
     by_cases hcp : cap = kf
     case pos =>
      rw [if_pos hcp, show cap - kf = 0 by omega] at HCa;go_quiet ((go_at_call 43; exact Calls.quiet_of_same (HCa.out _)))
      have HW6 := Lib.hid (HQ5.out nq);generalize World.drewN W5 nq = W6 at *;clear k1 k3 HCa HW5 HQ5 HCr HTx;have HBx := Lib.hid (HBel.out _ HW6.out)
      by_cases hkc : kc = cr
      case pos =>
       have d9 : ((kc : Int) != (cr : Int)) = false := by rw [hkc]; simp
       have HSn := Lib.hid (HZ3.out HZe.out hkc.symm);clear HZ1 HZ2 HZ3 HZe;go_wp2_with fail
       go_roundw
       case rel => exact ⟨j + 1, by omega, rfl, by rw [HNx1.out, Int.natCast_add], HSn, HW6⟩
       case measure => simp [intOf]; omega
      case neg =>
       have d9 : ((kc : Int) != (cr : Int)) = true := by simp; omega
       have HJ := Lib.hid (HZ2.out HZe.out (fun e => hkc e.symm));have k1 : World.cell? W6 ⟨ba, oa + j, none⟩ = some (.int .i64 (kf : Nat)) := K1.out _ HW6.out;have n1 : ¬ w.heap.size = ba := by have := HNe1.out; omega
       have n2 : ¬ w.heap.size + 1 = ba := by have := HNe1.out; omega
       have n3 : ¬ ba = w.heap.size := by have := HNe1.out; omega
       have n4 : ¬ ba = w.heap.size + 1 := by have := HNe1.out; omega
       have k1d : World.cell? W6.drew ⟨ba, oa + j, none⟩ = some (.int .i64 (kf : Nat)) := k1;clear HZ1 HZ2 HZ3 HZe;obtain ⟨y0, yf0, y1, yf1, y2, yf2, y3, yf3, y4, yf4, y5, yf5, y6, yf6, y7, yf7, y8, yf8, y9, yf9, y10, yf10, y11, yf11, yw0, ywf0, yw1, ywf1⟩ := HBx.out.drew.facts;obtain ⟨x0, xf0, x1, xf1, x2, xf2, x3, xf3, x4, xf4, x5, xf5, x6, xf6, x7, xf7, x8, xf8, x9, xf9, x10, xf10, x11, xf11, xw0, xwf0, xw1, xwf1⟩ := HBx.out.facts;have HS9 := Lib.hid (HBx.out.sto ((j : Int) + 1) ((kf : Int)));go_upto_region 17 with fail
       go_cut [4] from 61 to 91 (fun y4 wx => y4 = .int .i64 (11) ∧ wx = stoD w.heap.size (w.heap.size + 1) ((j : Int) + 1) ((kf : Int)) (W6))
       case first =>
        go_region
        all_goals
         go_wp2_with fail
         go_meet
         exact ⟨rfl, by kernel_rfl⟩
       case rest =>
        obtain ⟨rfl, hw9⟩ := hcut;rw [← hw9] at HS9;clear y0 yf0 y1 yf1 y2 yf2 y3 yf3 y4 yf4 y5 yf5 y6 yf6 y7 yf7 y8 yf8 y9 yf9 y10 yf10 y11 yf11 x0 xf0 x1 xf1 x2 xf2 x3 xf3 x4 xf4 x5 xf5 x6 xf6 x7 xf7 x8 xf8 x9 xf9 x10 xf10 x11 xf11 yw0 ywf0 yw1 ywf1 xw0 xwf0 xw1 xwf1;clear hw9 k1 k1d n1 n2 n3 n4;go_wp2_with fail
        refine bodyPost_ret (rdec_results rfl rfl rfl HS9.out.1.1 rfl HS9.out.1.2) rfl ?_;exact ⟨decQ_no HJ.out.1 HJ.out.2.1 HJ.out.2.2 (by decide), HS9.out.2⟩
     case neg =>
      rw [if_neg hcp] at HCa;go_quiet ((go_at_call 43; exact Calls.quiet_of_same (HCa.out _)))
      have HW6 := Lib.hid (HQ5.out nq);generalize World.drewN W5 nq = W6 at *;clear k1 k3 HCa HW5 HQ5 HCr HTx;have HBx := Lib.hid (HBel.out _ HW6.out)
      by_cases hkc : kc = cr
      case pos =>
       have d9 : ((kc : Int) != (cr : Int)) = false := by rw [hkc]; simp
       have HSn := Lib.hid (HZ3.out HZe.out hkc.symm);clear HZ1 HZ2 HZ3 HZe;go_wp2_with fail
       go_roundw
       case rel => exact ⟨j + 1, by omega, rfl, by rw [HNx1.out, Int.natCast_add], HSn, HW6⟩
       case measure => simp [intOf]; omega
      case neg =>
       have d9 : ((kc : Int) != (cr : Int)) = true := by simp; omega
       have HJ := Lib.hid (HZ2.out HZe.out (fun e => hkc e.symm));have k1 : World.cell? W6 ⟨ba, oa + j, none⟩ = some (.int .i64 (kf : Nat)) := K1.out _ HW6.out;have n1 : ¬ w.heap.size = ba := by have := HNe1.out; omega
       have n2 : ¬ w.heap.size + 1 = ba := by have := HNe1.out; omega
       have n3 : ¬ ba = w.heap.size := by have := HNe1.out; omega
       have n4 : ¬ ba = w.heap.size + 1 := by have := HNe1.out; omega
       have k1d : World.cell? W6.drew ⟨ba, oa + j, none⟩ = some (.int .i64 (kf : Nat)) := k1;clear HZ1 HZ2 HZ3 HZe;obtain ⟨y0, yf0, y1, yf1, y2, yf2, y3, yf3, y4, yf4, y5, yf5, y6, yf6, y7, yf7, y8, yf8, y9, yf9, y10, yf10, y11, yf11, yw0, ywf0, yw1, ywf1⟩ := HBx.out.drew.facts;obtain ⟨x0, xf0, x1, xf1, x2, xf2, x3, xf3, x4, xf4, x5, xf5, x6, xf6, x7, xf7, x8, xf8, x9, xf9, x10, xf10, x11, xf11, xw0, xwf0, xw1, xwf1⟩ := HBx.out.facts;have HS9 := Lib.hid (HBx.out.sto ((j : Int) + 1) ((kf : Int)));go_upto_region 17 with fail
       go_cut [4] from 61 to 91 (fun y4 wx => y4 = .int .i64 (11) ∧ wx = stoD w.heap.size (w.heap.size + 1) ((j : Int) + 1) ((kf : Int)) (W6))
       case first =>
        go_region
        all_goals
         go_wp2_with fail
         go_meet
         exact ⟨rfl, by kernel_rfl⟩
       case rest =>
        obtain ⟨rfl, hw9⟩ := hcut;rw [← hw9] at HS9;clear y0 yf0 y1 yf1 y2 yf2 y3 yf3 y4 yf4 y5 yf5 y6 yf6 y7 yf7 y8 yf8 y9 yf9 y10 yf10 y11 yf11 x0 xf0 x1 xf1 x2 xf2 x3 xf3 x4 xf4 x5 xf5 x6 xf6 x7 xf7 x8 xf8 x9 xf9 x10 xf10 x11 xf11 yw0 ywf0 yw1 ywf1 xw0 xwf0 xw1 xwf1;clear hw9 k1 k1d n1 n2 n3 n4;go_wp2_with fail
        refine bodyPost_ret (rdec_results rfl rfl rfl HS9.out.1.1 rfl HS9.out.1.2) rfl ?_;exact ⟨decQ_no HJ.out.1 HJ.out.2.1 HJ.out.2.2 (by decide), HS9.out.2⟩
  case neg =>
   obtain rfl : j = 8 := by omega
   have jj : ¬ ((8 : Nat) : Int) < 8 := by decide
   have hln := HLen.out;have hlp := HP.out.1;obtain ⟨W3, hW3⟩ : ∃ W, wr.alloc (.cells im0.toArray 33) = W := ⟨_, rfl⟩
   have b3 : Below wr.heap.size wr W3 := by rw [← hW3]; exact (Below.refl _ _).alloc (Nat.le_refl _) _
   have k3 : Hid (W3.heap[wr.heap.size]? = some (.cells im0.toArray 33 (0, 0))) := by rw [← hW3]; exact heap_alloc_new wr _
   have k4 : W3.heap[wr.heap.size]? = some (.cells im0.toArray 33 (0, 0)) := k3.out;have hsz : wd.heap.size ≤ wr.heap.size := HW.out.size;have HB4 : Hid (Below wd.heap.size wd W3) := HW.out.trans (b3.mono hsz);have c4 : W3.cell? ⟨wr.heap.size, 0, none⟩ = some (.int .u64 0) := by rw [cell_of_row _ _ 0 _ _ _ k4]; rfl
   have f4 : W3.frozen? ⟨wr.heap.size, 0, none⟩ = false := box_free k4 _;have HNu : Hid (Calls Tryz.prog 69 #[.slice (some (⟨rbk, rof + 16, none⟩ : Addr)) (bs.length - 16) (cap - 16), .int .i64 8] W3 fun e w' => e = .returned (.tuple #[.int .u64 (Pl.num 8 (bs.drop 16) : Nat), .bool true]) ∧ w' = W3) := rNumber_yes (s := 8) (by decide) ((HSl.out W3 (HBel.out _ HB4.out).bl).cut (fr := 16) (by omega)) (by rw [List.length_drop]; omega) (by decide);have HIm : Hid (ImS bs w.heap.size wr.heap.size 0 (im0.set 0 (.int .u64 (Pl.num 8 (bs.drop 16) : Nat))) (wr.alloc (.cells (im0.set 0 (.int .u64 (Pl.num 8 (bs.drop 16) : Nat))).toArray 33))) := ⟨heap_alloc_new wr _, rfl, ⟨rfl, ⟨_, rfl, OwnG.nil _ _ _ _ _⟩, ⟨_, rfl, OwnG.nil _ _ _ _ _⟩, ⟨_, rfl, OwnG.nil _ _ _ _ _⟩, ⟨_, rfl, OwnG.nil _ _ _ _ _⟩, ⟨_, rfl, OwnG.nil _ _ _ _ _⟩, ⟨_, rfl, OwnG.nil _ _ _ _ _⟩, ⟨_, rfl, OwnG.nil _ _ _ _ _⟩, ⟨_, rfl, [], OwnG.nil _ _ _ _ _, .nil⟩, rfl, rfl, ⟨_, rfl, OwnG.nil _ _ _ _ _⟩⟩, fun i hi => by simp only [nilL, List.mem_cons, List.not_mem_nil, or_false] at hi; rcases hi with rfl | rfl | rfl | rfl | rfl | rfl | rfl | rfl | rfl <;> rfl⟩
   have HB5 : Hid (Below wd.heap.size wd (wr.alloc (.cells (im0.set 0 (.int .u64 (Pl.num 8 (bs.drop 16) : Nat))).toArray 33))) := HW.out.trans (((Below.refl _ _).alloc (Nat.le_refl _) _).mono hsz);have hc16 : cap ≠ 16 := by omega
   have hl16 : 16 ≤ cap := by omega
   have hl17 : 16 ≤ bs.length := by omega
   have HSz : Hid (wd.heap.size ≤ wr.heap.size) := hsz;clear b3 k4 k3 hsz;generalize Pl.num 8 (bs.drop 16) = bse at *;go_wp2_with fail
   subst hW3;refine HNu.out.mono ?_;rintro e w9 ⟨rfl, hw9⟩;subst hw9;clear HNu;go_wp2_with fail
   have HRn : Hid (∀ k, (Value.slice (some (⟨rbk, rof, none⟩ : Addr)) bs.length cap).ownBlock = some k → k < w.heap.size) := HRl.out (by omega);obtain ⟨ib, hib⟩ : ∃ ib, wr.heap.size = ib := ⟨_, rfl⟩
   rw [hib] at HSz HIm;simp only [hib]
   skip
   have HIL : Hid (w.heap.size + 2 ≤ ib ∧ w.heap.size ≤ wd.heap.size) := ⟨by have := HSz.out; have := HSz1.out; have := HSzd.out; omega, by have := HSz1.out; have := HSzd.out; omega⟩
   clear hib c4 f4 HW;go_loopw [14] (fun jv wq => ∃ j : Nat, j ≤ 8 ∧ jv = .int .i64 (j : Int) ∧ Hid (∀ i, i < j → (prE bs i).bad < 0) ∧ ∃ im, Hid (ImS bs w.heap.size ib j im wq) ∧ Hid (Below wd.heap.size wd wq)) (fun jv _ => 8 - (intOf jv).toNat)
   case atStart => exact ⟨0, Nat.zero_le _, rfl, Lib.hid (fun i hi => by omega), _, HIm, HB5⟩
   case round =>
    clear HIm HB5;obtain ⟨j, hj, rfl, HPr, im, HI, HW⟩ := hrel
    by_cases hj8 : j < 8
    case pos =>
     have jj : (j : Int) < 8 := by omega
     have hw1 : IntKind.i64.wrap ((j : Int) + 1) = ((j + 1 : Nat) : Int) := by rw [IntKind.wrap_i64]; omega
     have HOkj := Lib.hid (HOk.out j hj8);have hfl : (entN bs j).f + (entN bs j).l ≤ bs.length := HOkj.out.2.2.2.1;have hln := HLen.out;have hlp := HP.out.1;have HRk : Hid (Rk wr.heap.size (.slice (some (⟨rbk, rof, none⟩ : Addr)) bs.length cap) (pOf bs j) (wr.alloc (.cells (rdV (.slice (some (⟨rbk, rof, none⟩ : Addr)) bs.length cap) (pOf bs j) ⟨(entN bs j).f, -1⟩) 138)) ⟨(entN bs j).f, -1⟩ (wr.alloc (.cells (rdV (.slice (some (⟨rbk, rof, none⟩ : Addr)) bs.length cap) (pOf bs j) ⟨(entN bs j).f, -1⟩) 138))) := rk_new (HSl.out _ (HBel.out _ HW.out).bl) (by omega) (by omega) (Nat.le_add_right _ _) hfl;obtain ⟨XR, hXR⟩ : ∃ Z, (secR (j + 1) (pOf bs j) (prJ bs j) ⟨(entN bs j).f, -1⟩).2 = Z := ⟨_, rfl⟩
     have HPE : Hid (prE bs j = endR (pOf bs j) XR) := by show prE bs j = _; unfold prE; rw [hXR]
     have HSc : Hid (∀ W, Below wd.heap.size wd W → ∀ rb, rb ≠ ib → Rk rb (.slice (some (⟨rbk, rof, none⟩ : Addr)) bs.length cap) (pOf bs j) W ⟨(entN bs j).f, -1⟩ W → ImS bs w.heap.size ib j im W → ∀ (W' : World), SecX bs w.heap.size rb ib (.slice (some (⟨rbk, rof, none⟩ : Addr)) bs.length cap) W j W' → ∃ im', Rk rb (.slice (some (⟨rbk, rof, none⟩ : Addr)) bs.length cap) (pOf bs j) W' XR W' ∧ ImS bs w.heap.size ib (j + 1) im' W' ∧ Keeps (fun k => k = rb ∨ k = ib) W W') := fun W _ rb _ _ _ W' hx => by rw [← hXR]; exact hx
     clear hXR;have k1 := H1.out _ HW.out j hj8;have k2 := H2.out _ HW.out j hj8;have hs1 : IntKind.i64.wrap (((entN bs j).f : Int) + ((entN bs j).l : Int)) = (((entN bs j).f + (entN bs j).l : Nat) : Int) := by rw [IntKind.wrap_i64]; omega
     go_upto_region 23 with fail
     go_cut [15] from 100 to 119 (fun y wx => y = .pointer (some ⟨wr.heap.size, 0, none⟩) ∧ Hid (Rk wr.heap.size (.slice (some (⟨rbk, rof, none⟩ : Addr)) bs.length cap) (pOf bs j) wx ⟨(entN bs j).f, -1⟩ wx) ∧ Hid (Below wr.heap.size wr wx))
     case first =>
      have hdr : ∀ W : World, Below W.heap.size W W.drew := fun W => ⟨rfl, rfl, rfl, Nat.le_refl _, fun _ _ => rfl⟩
      have HRd : Hid (Rk wr.heap.size (.slice (some (⟨rbk, rof, none⟩ : Addr)) bs.length cap) (pOf bs j) (wr.alloc (.cells (rdV (.slice (some (⟨rbk, rof, none⟩ : Addr)) bs.length cap) (pOf bs j) ⟨(entN bs j).f, -1⟩) 138)).drew ⟨(entN bs j).f, -1⟩ (wr.alloc (.cells (rdV (.slice (some (⟨rbk, rof, none⟩ : Addr)) bs.length cap) (pOf bs j) ⟨(entN bs j).f, -1⟩) 138)).drew) := (HRk.out.below (hdr _)).here;have HBd9 : Hid (Below wr.heap.size wr (wr.alloc (.cells (rdV (.slice (some (⟨rbk, rof, none⟩ : Addr)) bs.length cap) (pOf bs j) ⟨(entN bs j).f, -1⟩) 138)).drew) := ((Below.refl _ _).alloc (Nat.le_refl _) _).trans ⟨rfl, rfl, rfl, Nat.le_refl _, fun _ _ => rfl⟩;clear HRk hdr;go_region
      all_goals
       go_wp2_with fail
       go_meet
       exact ⟨rfl, HRd, HBd9⟩
     case rest =>
      obtain ⟨rfl, HK, HBw⟩ := hcut;generalize wc = wb at *;clear k1 k2 hs1 HRk hw1;have HIw : Hid (ImS bs w.heap.size ib j im wb) := ⟨(HBw.out.block ib (Array.getElem?_eq_some_iff.1 HI.out.blk).1).trans HI.out.blk, HI.out.len, HI.out.dt.kg (Keeps.of_below (S := fun _ => False) HBw.out) (fun _ _ _ _ _ e => e), HI.out.nl⟩
      have HLt : Hid (ib < wr.heap.size ∧ wd.heap.size ≤ wr.heap.size) := ⟨(Array.getElem?_eq_some_iff.1 HI.out.blk).1, HW.out.size⟩
      have HWc : Hid (Below wd.heap.size wd wb) := HW.out.trans (HBw.out.mono HLt.out.2);have HZl : Hid (w.heap.size ≤ wb.heap.size) := Nat.le_trans HIL.out.2 HWc.out.size;clear HI HW HBw;generalize wr.heap.size = rb at *;go_upto_block 6 with fail
      go_cut [] from 100 to 186 (fun wx => Hid (SecX bs w.heap.size rb ib (.slice (some (⟨rbk, rof, none⟩ : Addr)) bs.length cap) wb j wx))
      case first =>
       have hne : ib ≠ rb := Nat.ne_of_lt HLt.out.1;have hrw : ∀ k, (Value.slice (some (⟨rbk, rof, none⟩ : Addr)) bs.length cap).ownBlock = some k → k < wb.heap.size := fun k e => Nat.lt_of_lt_of_le (HRn.out k e) HZl.out;have hrn : (Value.slice (some (⟨rbk, rof, none⟩ : Addr)) bs.length cap).ownBlock ≠ some ib := fun e => by have h8 := HRn.out ib e; have h9 := HIL.out.1; omega
       have hcp9 : j = 7 → (pOf bs 7).en ≤ 17179869184 := fun e => by subst e; exact Nat.le_trans hfl hln
       clear hfl hln hlp jj;have h8 : j = 0 ∨ j = 1 ∨ j = 2 ∨ j = 3 ∨ j = 4 ∨ j = 5 ∨ j = 6 ∨ j = 7 := by omega
       rcases h8 with rfl | rfl | rfl | rfl | rfl | rfl | rfl | rfl
       ·have HC := Lib.hid (sec0S HK.out HIw.out hne hrw hrn HZl.out);clear hne hrw hrn hcp9;go_wp2_with fail
        refine HC.out.mono ?_;rintro e w9 ⟨rfl, hx⟩;clear HC;go_wp2_with fail
        go_meet
        exact Lib.hid hx
       ·have HC := Lib.hid (sec1S HK.out HIw.out hne hrw hrn HZl.out);clear hne hrw hrn hcp9;go_wp2_with fail
        refine HC.out.mono ?_;rintro e w9 ⟨rfl, hx⟩;clear HC;go_wp2_with fail
        go_meet
        exact Lib.hid hx
       ·have HC := Lib.hid (sec2S HK.out HIw.out hne hrw hrn HZl.out);clear hne hrw hrn hcp9;go_wp2_with fail
        refine HC.out.mono ?_;rintro e w9 ⟨rfl, hx⟩;clear HC;go_wp2_with fail
        go_meet
        exact Lib.hid hx
       ·have HC := Lib.hid (sec3S HK.out HIw.out hne hrw hrn HZl.out);clear hne hrw hrn hcp9;go_wp2_with fail
        refine HC.out.mono ?_;rintro e w9 ⟨rfl, hx⟩;clear HC;go_wp2_with fail
        go_meet
        exact Lib.hid hx
       ·have HC := Lib.hid (sec4S HK.out HIw.out hne hrw hrn HZl.out);clear hne hrw hrn hcp9;go_wp2_with fail
        refine HC.out.mono ?_;rintro e w9 ⟨rfl, hx⟩;clear HC;go_wp2_with fail
        go_meet
        exact Lib.hid hx
       ·have HC := Lib.hid (sec5S HK.out HIw.out hne hrw hrn HZl.out);clear hne hrw hrn hcp9;go_wp2_with fail
        refine HC.out.mono ?_;rintro e w9 ⟨rfl, hx⟩;clear HC;go_wp2_with fail
        go_meet
        exact Lib.hid hx
       ·have HC := Lib.hid (sec6S HK.out HIw.out hne hrw hrn HZl.out);clear hne hrw hrn hcp9;go_wp2_with fail
        refine HC.out.mono ?_;rintro e w9 ⟨rfl, hx⟩;clear HC;go_wp2_with fail
        go_meet
        exact Lib.hid hx
       ·have HC := Lib.hid (sec7S HK.out HIw.out hne hrw hrn HZl.out (hcp9 rfl));clear hne hrw hrn hcp9;go_wp2_with fail
        refine HC.out.mono ?_;rintro e w9 ⟨rfl, hx⟩;clear HC;go_wp2_with fail
        go_meet
        exact Lib.hid hx
      case rest =>
       obtain ⟨im2, hk2, hi2, hf2⟩ := HSc.out wb HWc.out rb (Nat.ne_of_gt HLt.out.1) HK.out HIw.out wc hcut.out;have HK2 := Lib.hid hk2;have HI2 := Lib.hid hi2;have HW2 : Hid (Below wd.heap.size wd wc) := HWc.out.trans (Keeps.below hf2 HWc.out.size (fun k _ e => by have h8 := HLt.out; have h9 := HSz.out; rcases e with e | e <;> omega));clear hk2 hi2 hf2 hcut HSc HK HIw HWc HZl;have c3 := HK2.out.cell3;have c1 := HK2.out.cell1;have c2 := HK2.out.cell2;have hbd := HK2.out.b2;have hb1 := HK2.out.b1;have hps := HK2.out.le
       by_cases hb : XR.bad < 0
       case pos =>
        have d1 : decide (XR.bad < 0) = true := decide_eq_true hb
        by_cases hl : XR.ps < (pOf bs j).en
        case pos =>
         have d2 : decide ((XR.ps : Int) < ((pOf bs j).en : Int)) = true := decide_eq_true (by omega);have HPJ : Hid (prE bs j = ⟨XR.ps, (XR.ps : Int)⟩) := by show _ = _; rw [HPE.out, endR, if_pos ⟨hb, hl⟩]
         have hpz : (XR.ps : Int) ≤ 1099511627776 := by have h8 := HK2.out.en; have h9 := HK2.out.sz; omega
         go_wp2_with fail
         go_quiet (fail)
         have HK3 : Hid (Rk rb (.slice (some (⟨rbk, rof, none⟩ : Addr)) bs.length cap) (pOf bs j) _ XR _) := HK2.out.below (w' := World.drewN wc nq) ⟨rfl, rfl, rfl, Nat.le_refl _, fun _ _ => rfl⟩ |>.here
         have HW3 : Hid (Below wd.heap.size wd (World.drewN wc nq)) := HW2.out.trans ⟨rfl, rfl, rfl, Nat.le_refl _, fun _ _ => rfl⟩;have HI3 : Hid (ImS bs w.heap.size ib (j + 1) im2 (World.drewN wc nq)) := ⟨HI2.out.blk, HI2.out.len, HI2.out.dt.kg (Keeps.of_below (S := fun _ => False) ⟨rfl, rfl, rfl, Nat.le_refl _, fun _ _ => rfl⟩) (fun _ _ _ _ _ e => e), HI2.out.nl⟩
         clear HK2 HW2 HI2 c1 c2 c3;generalize World.drewN wc nq = W7 at *;have c3 := HK3.out.cell3;have c1 := HK3.out.cell1;have f3 := HK3.out.free 3;have HK4 := Lib.hid (HK3.out.setBad (b := (XR.ps : Int)) (by omega) hpz);have HW4 : Hid (Below wd.heap.size wd (W7.setCell ⟨rb, 3, none⟩ (.int .i64 (XR.ps : Int)))) := HW3.out.setCell HLt.out.2 _;clear HK3 HW3 HI3;have c5 := HK4.out.cell3;have j9 : (XR.ps : Int) ≥ 0 := by omega
         have HNo := Lib.hid (dec_sec HP.out.1 HP.out.2 HOk.out HSe.out hj8 HPr.out (by rw [HPJ.out]; show ¬ ((XR.ps : Int) < 0); omega));rw [HPJ.out] at HNo;dsimp only at HNo;generalize (XR.ps : Int) = bd at *;go_upto_region 43 with fail
         have c6 : World.cell? (World.setCell W7 ⟨rb, 3, none⟩ (.int .i64 bd)) ⟨rb, 3, none⟩ = some (.int .i64 bd) := c5;clear c1 c3 f3 c5;generalize World.setCell W7 ⟨rb, 3, none⟩ (.int .i64 bd) = W8 at *;have HBx := Lib.hid (HBel.out _ HW4.out);have c6d : World.cell? (World.drew W8) ⟨rb, 3, none⟩ = some (.int .i64 bd) := c6;have n1 : ¬ w.heap.size = rb := by have h8 := HLt.out; have h9 := HIL.out; omega
         have n2 : ¬ w.heap.size + 1 = rb := by have h8 := HLt.out; have h9 := HIL.out; omega
         have n3 : ¬ rb = w.heap.size := by have h8 := HLt.out; have h9 := HIL.out; omega
         have n4 : ¬ rb = w.heap.size + 1 := by have h8 := HLt.out; have h9 := HIL.out; omega
         have hw1 : IntKind.i64.wrap ((j : Int) + 1) = (j : Int) + 1 := by rw [IntKind.wrap_i64]; omega
         skip
         obtain ⟨y0, yf0, y1, yf1, y2, yf2, y3, yf3, y4, yf4, y5, yf5, y6, yf6, y7, yf7, y8, yf8, y9, yf9, y10, yf10, y11, yf11, yw0, ywf0, yw1, ywf1⟩ := HBx.out.drew.facts;obtain ⟨x0, xf0, x1, xf1, x2, xf2, x3, xf3, x4, xf4, x5, xf5, x6, xf6, x7, xf7, x8, xf8, x9, xf9, x10, xf10, x11, xf11, xw0, xwf0, xw1, xwf1⟩ := HBx.out.facts;have HS9 := Lib.hid (HBx.out.sto ((j : Int) + 1) (bd));go_upto_region 43 with fail
         go_cut [4] from 100 to 186 (fun y4 wx => y4 = .int .i64 (5) ∧ wx = stoD w.heap.size (w.heap.size + 1) ((j : Int) + 1) (bd) (W8))
         case first =>
          go_region
          all_goals
           go_wp2_with fail
           go_meet
           exact ⟨rfl, by kernel_rfl⟩
         case rest =>
          obtain ⟨rfl, hw9⟩ := hcut;rw [← hw9] at HS9;clear y0 yf0 y1 yf1 y2 yf2 y3 yf3 y4 yf4 y5 yf5 y6 yf6 y7 yf7 y8 yf8 y9 yf9 y10 yf10 y11 yf11 x0 xf0 x1 xf1 x2 xf2 x3 xf3 x4 xf4 x5 xf5 x6 xf6 x7 xf7 x8 xf8 x9 xf9 x10 xf10 x11 xf11 yw0 ywf0 yw1 ywf1 xw0 xwf0 xw1 xwf1;clear hw9 c6 c6d n1 n2 n3 n4;go_wp2_with fail
          refine bodyPost_ret (rdec_results rfl rfl rfl HS9.out.1.1 rfl HS9.out.1.2) rfl ?_;exact ⟨decQ_no HNo.out.1 (HNo.out.2.1.trans (by omega)) HNo.out.2.2 (by decide), HS9.out.2⟩
        case neg =>
         have d2 : decide ((XR.ps : Int) < ((pOf bs j).en : Int)) = false := decide_eq_false (by omega);have HPJ : Hid (prE bs j = XR) := by show _ = _; rw [HPE.out, endR, if_neg (fun e => hl e.2)]
         go_wp2_with fail
         go_quiet (fail)
         have HK3 : Hid (Rk rb (.slice (some (⟨rbk, rof, none⟩ : Addr)) bs.length cap) (pOf bs j) _ XR _) := HK2.out.below (w' := World.drewN wc nq) ⟨rfl, rfl, rfl, Nat.le_refl _, fun _ _ => rfl⟩ |>.here
         have HW3 : Hid (Below wd.heap.size wd (World.drewN wc nq)) := HW2.out.trans ⟨rfl, rfl, rfl, Nat.le_refl _, fun _ _ => rfl⟩;have HI3 : Hid (ImS bs w.heap.size ib (j + 1) im2 (World.drewN wc nq)) := ⟨HI2.out.blk, HI2.out.len, HI2.out.dt.kg (Keeps.of_below (S := fun _ => False) ⟨rfl, rfl, rfl, Nat.le_refl _, fun _ _ => rfl⟩) (fun _ _ _ _ _ e => e), HI2.out.nl⟩
         clear HK2 HW2 HI2 c1 c2 c3;generalize World.drewN wc nq = W7 at *;have c3 := HK3.out.cell3;have j9 : ¬ XR.bad ≥ 0 := by omega
         have hw1 : IntKind.i64.wrap ((j : Int) + 1) = ((j + 1 : Nat) : Int) := by rw [IntKind.wrap_i64]; omega
         have HPr2 : Hid (∀ i, i < j + 1 → (prE bs i).bad < 0) := fun i hi => by
          by_cases e : i = j
          ·rw [e, HPJ.out]; exact hb
          ·exact HPr.out i (by omega)
         clear HPr;go_wp2_with fail
         go_roundw
         case rel => exact ⟨j + 1, by omega, rfl, HPr2, im2, HI3, HW3⟩
         case measure => simp [intOf]; omega
       case neg =>
        have d1 : decide (XR.bad < 0) = false := decide_eq_false hb;have HPJ : Hid (prE bs j = XR) := by show _ = _; rw [HPE.out, endR, if_neg (fun e => hb e.1)]
        go_wp2_with fail
        go_quiet (fail)
        have HK3 : Hid (Rk rb (.slice (some (⟨rbk, rof, none⟩ : Addr)) bs.length cap) (pOf bs j) _ XR _) := HK2.out.below (w' := World.drewN wc nq) ⟨rfl, rfl, rfl, Nat.le_refl _, fun _ _ => rfl⟩ |>.here
        have HW3 : Hid (Below wd.heap.size wd (World.drewN wc nq)) := HW2.out.trans ⟨rfl, rfl, rfl, Nat.le_refl _, fun _ _ => rfl⟩;have HI3 : Hid (ImS bs w.heap.size ib (j + 1) im2 (World.drewN wc nq)) := ⟨HI2.out.blk, HI2.out.len, HI2.out.dt.kg (Keeps.of_below (S := fun _ => False) ⟨rfl, rfl, rfl, Nat.le_refl _, fun _ _ => rfl⟩) (fun _ _ _ _ _ e => e), HI2.out.nl⟩
        clear HK2 HW2 HI2 c1 c2 c3;generalize World.drewN wc nq = W7 at *;have c3 := HK3.out.cell3;have j9 : XR.bad ≥ 0 := by omega
        have HNo := Lib.hid (dec_sec HP.out.1 HP.out.2 HOk.out HSe.out hj8 HPr.out (by rw [HPJ.out]; omega));rw [HPJ.out] at HNo;generalize XR.bad = bd at *;go_upto_region 43 with fail
        have c6 := c3;clear c3;have HBx := Lib.hid (HBel.out _ HW3.out);have c6d : World.cell? (World.drew W7) ⟨rb, 3, none⟩ = some (.int .i64 bd) := c6;have n1 : ¬ w.heap.size = rb := by have h8 := HLt.out; have h9 := HIL.out; omega
        have n2 : ¬ w.heap.size + 1 = rb := by have h8 := HLt.out; have h9 := HIL.out; omega
        have n3 : ¬ rb = w.heap.size := by have h8 := HLt.out; have h9 := HIL.out; omega
        have n4 : ¬ rb = w.heap.size + 1 := by have h8 := HLt.out; have h9 := HIL.out; omega
        have hw1 : IntKind.i64.wrap ((j : Int) + 1) = (j : Int) + 1 := by rw [IntKind.wrap_i64]; omega
        skip
        obtain ⟨y0, yf0, y1, yf1, y2, yf2, y3, yf3, y4, yf4, y5, yf5, y6, yf6, y7, yf7, y8, yf8, y9, yf9, y10, yf10, y11, yf11, yw0, ywf0, yw1, ywf1⟩ := HBx.out.drew.facts;obtain ⟨x0, xf0, x1, xf1, x2, xf2, x3, xf3, x4, xf4, x5, xf5, x6, xf6, x7, xf7, x8, xf8, x9, xf9, x10, xf10, x11, xf11, xw0, xwf0, xw1, xwf1⟩ := HBx.out.facts;have HS9 := Lib.hid (HBx.out.sto ((j : Int) + 1) (bd));go_upto_region 43 with fail
        go_cut [4] from 100 to 186 (fun y4 wx => y4 = .int .i64 (5) ∧ wx = stoD w.heap.size (w.heap.size + 1) ((j : Int) + 1) (bd) (W7))
        case first =>
         go_region
         all_goals
          go_wp2_with fail
          go_meet
          exact ⟨rfl, by kernel_rfl⟩
        case rest =>
         obtain ⟨rfl, hw9⟩ := hcut;rw [← hw9] at HS9;clear y0 yf0 y1 yf1 y2 yf2 y3 yf3 y4 yf4 y5 yf5 y6 yf6 y7 yf7 y8 yf8 y9 yf9 y10 yf10 y11 yf11 x0 xf0 x1 xf1 x2 xf2 x3 xf3 x4 xf4 x5 xf5 x6 xf6 x7 xf7 x8 xf8 x9 xf9 x10 xf10 x11 xf11 yw0 ywf0 yw1 ywf1 xw0 xwf0 xw1 xwf1;clear hw9 c6 c6d n1 n2 n3 n4;go_wp2_with fail
         refine bodyPost_ret (rdec_results rfl rfl rfl HS9.out.1.1 rfl HS9.out.1.2) rfl ?_;exact ⟨decQ_no HNo.out.1 (HNo.out.2.1.trans (by omega)) HNo.out.2.2 (by decide), HS9.out.2⟩
    case neg =>
     obtain rfl : j = 8 := by omega
     have jj : ¬ ((8 : Nat) : Int) < 8 := by decide
     have HOk2 := Lib.hid (dec_ok HP.out.1 HP.out.2 HOk.out HSe.out HPr.out);have HBx := Lib.hid (HBel.out _ HW.out);have HO : Hid (im.toArray.all (·.oneCell') = true) := HI.out.dt.one HI.out.len;have HL := Lib.hid HI.out.len;have HD := Lib.hid HI.out.dt;have HKb := Lib.hid HI.out.blk;have HK1 := Lib.hid HBx.out.k1;have HK2 := Lib.hid (HBx.out.set im);have HE9 := Lib.hid (HBx.out.end im 0 0);clear HI HPr HW HSe HOk;go_wp2_with (first | (refine wpList_load_arr rfl 33 (.tmp 13) rfl (b := ib) (g := im.toArray) rfl HKb.out Tryz.underlying33 rfl (info_im HL.out) ?_) | (refine wpList_store_arr rfl 33 (.tmp 2) (.tmp 187) rfl (b := w.heap.size) (Z := im0.toArray) (g := im.toArray) rfl rfl rfl HK1.out (info_im HL.out) (by simp [HL.out, im0]) HO.out ?_) | (refine wpList_store_arr rfl 94 (.tmp 3) (.tmp 188) rfl (b := w.heap.size + 1) (Z := whA 0 0) (g := whA 0 0) rfl rfl rfl HK2.out (info_wh 0 0) rfl (by kernel_rfl) ?_))
     refine bodyPost_ret (rdec_results rfl rfl rfl HE9.out.1 HL.out HE9.out.2.1) rfl ?_;refine ⟨.inl ⟨HOk2.out.1, im, rfl, HL.out, ?_⟩, HE9.out.2.2⟩;rw [HOk2.out.2];refine HD.out.kt ?_;refine (Keeps.mono (row_keeps _ w.heap.size _) (fun k _ e => ?_)).trans (row_keeps _ (w.heap.size + 1) _) (fun k _ e => ?_)
     ·subst e;exact .inl ⟨_, HBx.out.k1⟩
     ·subst e;exact .inr ⟨_, HBx.out.k2⟩
end Go.Proofs.YtmfkggngjeolcaaGreatDoor
namespace Go.Proofs.YtmfkggngjeolcaaGreatDoor
open Bn Dc
namespace Dc
theorem ens_pre (E : Nat → En) (k : Nat) : ∀ n, k ≤ n → ∃ u, ensB E n = ensB E k ++ u
 | 0, h => ⟨[], by
  obtain rfl : k = 0 := by omega
  rfl⟩
 | n + 1, h => by
  by_cases e : k = n + 1
  ·subst e; exact ⟨[], by simp⟩
  ·obtain ⟨u, hu⟩ := ens_pre E k n (by omega);exact ⟨u ++ enB (E (n + 1)), by rw [ensB, hu, List.append_assoc]⟩
theorem st_pre (I : Im) (j : Nat) : ∀ k, j ≤ k → ∃ u, (stN I k).1 = (stN I j).1 ++ u
 | 0, h => ⟨[], by
  obtain rfl : j = 0 := by omega
  simp⟩
 | k + 1, h => by
  by_cases e : j = k + 1
  ·subst e; exact ⟨[], by simp⟩
  ·obtain ⟨u, hu⟩ := st_pre I j k (by omega);obtain ⟨s1, _⟩ := st_next I k;exact ⟨u ++ (bz (fstN I k - (stN I k).1.length) ++ secB I k), by rw [s1, hu, List.append_assoc]⟩
theorem st_sec (I : Im) {k : Nat} (hk : k < 9) : ((stN I 9).1.drop (fstN I k)).take (lenN I k) = secB I k ∧ ((stN I 9).1.drop (stN I k).1.length).take (fstN I k - (stN I k).1.length) = bz (fstN I k - (stN I k).1.length) ∧ lenN I k = (secB I k).length := by
 obtain ⟨u, hu⟩ := st_pre I (k + 1) 9 (by omega);obtain ⟨s1, _⟩ := st_next I k;have hb := (beg_le k (stN I k).1.length).2;have hf : fstN I k = begN k (stN I k).1.length := rfl;rw [← hf] at hb
 have hl : lenN I k = (secB I k).length := by
  have h9 := congrArg List.length s1;rw [List.length_append, List.length_append, bz_len] at h9;rw [lenN, h9];omega
 refine ⟨?_, ?_, hl⟩
 ·obtain ⟨n, hn⟩ : ∃ n, fstN I k - (stN I k).1.length = n := ⟨_, rfl⟩
  rw [hn] at s1;rw [hu, s1, hl, List.append_assoc, List.append_assoc, show fstN I k = (stN I k).1.length + n by omega, ← List.drop_drop, List.drop_left, List.drop_left' (bz_len n), List.take_left]
 ·rw [hu, s1, List.append_assoc, List.append_assoc, List.drop_left, List.take_left' (bz_len _)]
end Dc
end Go.Proofs.YtmfkggngjeolcaaGreatDoor
namespace Go.Proofs.YtmfkggngjeolcaaGreatDoor
open Bn Dc
namespace Dc
def Sm (l : List Nat) : Prop := ∀ z ∈ l, z < 256
theorem Sm.app {a b : List Nat} (h : Sm a) (k : Sm b) : Sm (a ++ b) := fun z hz => (List.mem_append.1 hz).elim (h z) (k z)
theorem sm_le (k n : Nat) : Sm (Pl.le k n) := Pl.le_small k n
theorem sm_bz (n : Nat) : Sm (bz n) := fun z hz => by rw [List.eq_of_mem_replicate hz]; decide
theorem sm_nil : Sm [] := fun z hz => by cases hz
theorem sm_bts (t : ByteArray) : Sm (bts t) := fun z hz => by
 obtain ⟨x, _, rfl⟩ := List.mem_map.1 hz;exact x.toNat_lt
theorem sm_lay {γ : Type} {f : Nat → γ → List Nat} (h : ∀ a x, Sm (f a x)) : ∀ (xs : List γ) (a : Nat), Sm (layL f a xs)
 | [], _ => sm_nil
 | x :: xs, a => (h a x).app (sm_lay h xs _)
theorem sm_many (n : Nat) : Sm (manyB n) := (sm_le _ _).app (sm_bz _)
theorem sm_gd (a : Nat) (g : Gd) : Sm (gdB a g) := (sm_le _ _).app ((sm_le _ _).app ((sm_le _ _).app ((sm_bz _).app ((sm_le _ _).app ((sm_bts _).app (sm_bz _))))))
theorem sm_lane (l : List (Int × Int)) : Sm (laneB l) := (sm_many _).app (sm_lay (fun _ x => (sm_le _ _).app ((sm_bz _).app (sm_le _ _))) _ _)
theorem sm_plan (p : Sc) : Sm (planB p) := (sm_le _ _).app ((sm_bz _).app (sm_lay (fun _ l => sm_lane l) _ _))
theorem sm_tb (f : Nat → Nat) : ∀ n, Sm (tb f n)
 | 0 => sm_nil
 | n + 1 => (sm_tb f n).app (sm_le _ _)
theorem sm_sec (I : Im) (k : Nat) : Sm (secB I k) := by
 match k with
 | 0 => exact sm_bz 160
 | 1 => exact (sm_le _ _).app ((sm_le _ _).app ((sm_bz _).app ((sm_lay (fun _ x => (sm_le _ _).app (sm_le _ _)) _ _).app (sm_lay (fun _ x => (sm_le _ _).app (sm_le _ _)) _ _))))
 | 2 => exact (sm_many _).app (sm_lay (fun _ x => (sm_le _ _).app ((sm_le _ _).app ((sm_le _ _).app ((sm_le _ _).app ((sm_le _ _).app (sm_le _ _)))))) _ _)
 | 3 => exact (sm_many _).app (sm_lay (fun _ x => (sm_le _ _).app (sm_bz _)) _ _)
 | 4 => exact (sm_many _).app (sm_lay sm_gd _ _)
 | 5 => exact (sm_many _).app (sm_lay (fun _ x => (sm_le _ _).app ((sm_le _ _).app ((sm_le _ _).app ((sm_le _ _).app (sm_bz _))))) _ _)
 | 6 => exact (sm_many _).app (sm_lay (fun _ x => (sm_le _ _).app ((sm_le _ _).app ((sm_le _ _).app ((sm_le _ _).app (sm_bz _))))) _ _)
 | 7 => exact (sm_le _ _).app ((sm_le _ _).app ((sm_le _ _).app ((sm_le _ _).app (sm_lay (fun _ x => sm_plan x) _ _))))
 | k + 8 => exact sm_lay (fun _ x => sm_tb x 512) _ _
theorem sm_st (I : Im) : ∀ k, Sm (stN I k).1
 | 0 => sm_nil
 | k + 1 => by
  rw [(st_next I k).1];exact (sm_st I k).app ((sm_bz _).app (sm_sec I k))
theorem sm_hdP (I : Im) (zs : List Nat) : ∀ i, Sm (hdP I zs i)
 | 0 => ((((show Sm magB by unfold Sm magB; decide).app (sm_le _ _)).app (sm_le _ _)).app (sm_le _ _)).app (sm_le _ _)
 | i + 1 => (sm_hdP I zs i).app (((((sm_le _ _).app (sm_le _ _)).app (sm_le _ _)).app (sm_le _ _)).app (sm_le _ _))
theorem sm_enc (I : Im) : Sm (encF I) := (((sm_hdP I _ 8).app (sm_le _ _)).app (sm_le _ _)).app (fun z hz => sm_st I 9 z (List.mem_of_mem_drop hz))
theorem enc_parts {I : Im} (hw : (sizeF I).2 = 0) : (stN I 9).2 = 0 ∧ (encF I).length = (stN I 9).1.length ∧ (stN I 9).1.length / 4096 * 4096 = (stN I 9).1.length ∧ (stN I 9).1.length / 4096 ≤ 1024 ∧ 160 ≤ (stN I 9).1.length ∧ (encF I).drop 160 = (stN I 9).1.drop 160 ∧ (encF I).take 160 = hdF I (stN I 9).1 := by
 have h9 := st9_ge I
 have h0 : (stN I 9).2 = 0 ∧ (stN I 9).1.length / 4096 ≤ 1024 := by
  unfold sizeF at hw
  by_cases e : (stN I 9).2 ≠ 0
  ·rw [if_pos e] at hw;exact absurd hw e
  ·rw [if_neg e] at hw
   by_cases e2 : 1024 < (stN I 9).1.length / 4096
   ·rw [if_pos e2] at hw;exact absurd hw (show ¬ (4 : Int) = 0 by decide)
   ·exact ⟨Decidable.byContradiction e, by omega⟩
 have hl : (stN I 9).1.length = fstN I 8 + (secB I 8).length := by
  obtain ⟨_, _, h3⟩ := st_sec I (k := 8) (by decide);have h4 := (fst_len I 8 (by decide)).1;simp only [Nat.reduceAdd] at h4;omega
 have h8 : (secB I 8).length % 4096 = 0 := by
  have k : ∀ (xs : List (Nat → Nat)) (a : Nat), (layL (fun _ => tabB) a xs).length = 4096 * xs.length := fun xs => by
   induction xs with
   | nil => intro a; rfl
   | cons x xs ih => intro a; rw [layL, List.length_append, tabB_len, ih, List.length_cons]; omega
  show (layL (fun _ => tabB) 0 I.tabs).length % 4096 = 0
  rw [k];omega
 have hm : fstN I 8 % 4096 = 0 := (beg_mod 8 _).2 rfl
 have hlen : (encF I).length = (stN I 9).1.length := by
  rw [encF, List.length_append, hdF_len, List.length_drop];omega
 exact ⟨h0.1, hlen, by omega, h0.2, h9, by rw [encF, List.drop_left' (hdF_len _ _)], by rw [encF, List.take_left' (hdF_len _ _)]⟩
end Dc
end Go.Proofs.YtmfkggngjeolcaaGreatDoor
