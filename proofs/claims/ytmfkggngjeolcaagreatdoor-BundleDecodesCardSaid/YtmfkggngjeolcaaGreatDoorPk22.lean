import Derived.Test.YtmfkggngjeolcaaGreatDoorPk21
set_option linter.unusedSimpArgs false
set_option linter.unusedVariables false
set_option maxHeartbeats 8000000
set_option maxRecDepth 100000
namespace Go.Proofs.YtmfkggngjeolcaaGreatDoor
open Go.RowKit Bn Dc
namespace Dc
def endN (E : Nat → En) (N : Nat) : Nat → Nat
 | 0 => 160
 | k + 1 => if k = 7 then N else begN (k + 1) (endN E N k) + (E (k + 1)).l
def okD (E : Nat → En) (N : Nat) (k : Nat) : Bool := decide ((E k).a = k ∧ (E k).b = 0 ∧ (E k).f = begN k (endN E N (k - 1)) ∧ (k = 8 → (E k).f + (E k).l = N)) && decide (endN E N k ≤ N)
def dirS (E : Nat → En) (N : Nat) : Nat → D → D
 | 0, s => s
 | k + 1, s => askD (okD E N (k + 1)) 5 0 ((24 + 16 * k : Nat) : Int) (dirS E N k s)
theorem ask_why {b : Bool} {no sec ad : Int} {s : D} (h : s.why ≠ 0) : askD b no sec ad s = s := by unfold askD; rw [if_neg (fun e => h e.2)]
theorem dirS_stop {E : Nat → En} {N : Nat} {s : D} {k : Nat} (h : (dirS E N k s).why ≠ 0) (m : Nat) (hm : k ≤ m) : dirS E N m s = dirS E N k s := by
 induction m with
 | zero => rw [show k = 0 by omega]
 | succ m ih =>
  by_cases e : k = m + 1
  ·rw [e]
  ·rw [dirS, ih (by omega), ask_why h]
end Dc
structure Ei where
 a : Int
 b : Int
 f : Int
 l : Int
 c : Int
def eiE (x : Ei) : List Value := [.int .i64 x.a, .int .i64 x.b, .int .i64 x.f, .int .i64 x.l, .int .u32 x.c]
def EnR (en : List Value) (E : Nat → En) : Prop := ∀ k, 1 ≤ k → k ≤ 8 → en[5 * k]? = some (.int .i64 ((E k).a : Int)) ∧ en[5 * k + 1]? = some (.int .i64 ((E k).b : Int)) ∧ en[5 * k + 2]? = some (.int .i64 ((E k).f : Int)) ∧ en[5 * k + 3]? = some (.int .i64 ((E k).l : Int)) ∧ en[5 * k + 4]? = some (.int .u32 ((E k).c : Int))
def enSm (E : Nat → En) : Prop := ∀ k, (E k).a ≤ 4294967296 ∧ (E k).b ≤ 4294967296 ∧ (E k).f ≤ 4294967296 ∧ (E k).l ≤ 4294967296
section
variable {B kb : Nat} {raw : Value} {im en : List Value} {q : Pt} {p g : Nat} {w0 : World} {s : D} {w w' : World}
theorem Dt.c5 (h : Dt B kb raw im en q p g w0 s w) {E : Nat → En} (he : EnR en E) {k : Nat} (h1 : 1 ≤ k) (hk : k ≤ 8) : w.cell? ⟨kb, 13 + k * 5, none⟩ = some (.int .i64 ((E k).a : Int)) ∧ w.cell? ⟨kb, 13 + k * 5 + 1, none⟩ = some (.int .i64 ((E k).b : Int)) ∧ w.cell? ⟨kb, 13 + k * 5 + 2, none⟩ = some (.int .i64 ((E k).f : Int)) ∧ w.cell? ⟨kb, 13 + k * 5 + 3, none⟩ = some (.int .i64 ((E k).l : Int)) ∧ w.cell? ⟨kb, 13 + k * 5 + 4, none⟩ = some (.int .u32 ((E k).c : Int)) := by
 obtain ⟨e0, e1, e2, e3, e4⟩ := he k h1 hk;refine ⟨?_, ?_, ?_, ?_, ?_⟩
 ·rw [show 13 + k * 5 = 13 + (5 * k) by omega]; exact (h.dn.ce (by omega)).trans e0
 ·rw [show 13 + k * 5 + 1 = 13 + (5 * k + 1) by omega]; exact (h.dn.ce (by omega)).trans e1
 ·rw [show 13 + k * 5 + 2 = 13 + (5 * k + 2) by omega]; exact (h.dn.ce (by omega)).trans e2
 ·rw [show 13 + k * 5 + 3 = 13 + (5 * k + 3) by omega]; exact (h.dn.ce (by omega)).trans e3
 ·rw [show 13 + k * 5 + 4 = 13 + (5 * k + 4) by omega]; exact (h.dn.ce (by omega)).trans e4
end
end Go.Proofs.YtmfkggngjeolcaaGreatDoor
namespace Go.Proofs.YtmfkggngjeolcaaGreatDoor
open Go.RowKit Bn Dc
theorem endI {x : Ei} {n : Int} (hn : IntKind.i64.wrap (x.f + x.l) = n) (w : World) : Calls Tryz.prog 104 #[.agg (eiE x).toArray] w fun e w' => e = .returned (.int .i64 n) ∧ Below w.heap.size w w' := by
 have HB : Hid (Below w.heap.size w (w.alloc (.cells (eiE x).toArray 88))) := (Below.refl _ _).alloc (Nat.le_refl _) _;obtain ⟨xa, xb, xf, xl, xc⟩ := x;dsimp only at hn;unfold eiE at *;dsimp only at *;go_enter Tryz.func104, Tryz.ntmps104
 go_wp2_with fail
 go_ret
 exact ⟨rfl, HB.out⟩
theorem okD_end {E : Nat → En} {N k : Nat} (h : okD E N k = true) : endN E N k ≤ N := by
 unfold okD at h;rw [Bool.and_eq_true] at h;exact of_decide_eq_true h.2
theorem ask_zero' {b : Bool} {no sec ad : Int} {s : D} (hno : no ≠ 0) (h : (askD b no sec ad s).why = 0) : b = true ∧ s.why = 0 := by
 unfold askD at h
 split at h
 ·exact absurd h hno
 ·rename_i h9
  refine ⟨?_, h⟩
  cases b
  ·exact absurd ⟨rfl, h⟩ h9
  ·rfl
theorem dirS_ok {E : Nat → En} {N : Nat} {s : D} : ∀ k, (dirS E N k s).why = 0 → s.why = 0 ∧ ∀ j, 1 ≤ j → j ≤ k → okD E N j = true
 | 0, h => ⟨h, fun j h1 h2 => by omega⟩
 | k + 1, h => by
  rw [dirS] at h;obtain ⟨h1, h2⟩ := ask_zero' (by decide) h;obtain ⟨h3, h4⟩ := dirS_ok k h2;refine ⟨h3, fun j hj hk => ?_⟩
  by_cases e : j = k + 1
  ·rw [e]; exact h1
  ·exact h4 j hj (by omega)
section
variable {B kb : Nat} {raw : Value} {im en : List Value} {q : Pt} {p g : Nat} {w0 : World} {s : D} {w w' : World}
theorem directoryX {E : Nat → En} {ra : Option Addr} {N cap : Nat} (h : Dt B kb (.slice ra N cap) im en q p g w0 s w) (he : EnR en E) (hE : enSm E) (hN : s.why = 0 → N ≤ 4194304) : Calls Tryz.prog 139 #[.pointer (some ⟨kb, 0, none⟩)] w fun e w' => e = .returned (.tuple #[]) ∧ Dt B kb (.slice ra N cap) im en q p g w0 (dirS E N 8 s) w' := by
 have H0 : Hid (Dt B kb (.slice ra N cap) im en q p g w0 (dirS E N 0 s) w) := h;have HE : Hid (EnR en E) := he;have HEs : Hid (enSm E) := hE;have HN : Hid (s.why = 0 → N ≤ 4194304) := hN;clear h he hE hN;go_enter Tryz.func139, Tryz.ntmps139
 go_wp2_with fail
 go_loopw [2, 3] (fun ev kv wr => ∃ k : Nat, 1 ≤ k ∧ k ≤ 9 ∧ kv = .int .i64 (k : Int) ∧ ev = .int .i64 ((endN E N (k - 1) : Nat) : Int) ∧ Hid (Dt B kb (.slice ra N cap) im en q p g w0 (dirS E N (k - 1) s) wr)) (fun _ kv _ => 9 - (intOf kv).toNat)
 case atStart => exact ⟨1, by decide, by decide, rfl, rfl, H0⟩
 case round =>
  clear H0;obtain ⟨k, hk1, hk9, rfl, rfl, HI⟩ := hrel
  by_cases hk : k = 9
  ·subst hk;go_wp2_with fail
   go_end0
   exact ⟨rfl, HI.out⟩
  ·have hk8 : k ≤ 8 := by omega
   have jk : (k : Int) < 9 := by omega
   have jk0 : (0 : Int) ≤ (k : Int) := by omega
   have c62 := HI.out.c62
   by_cases hy : (dirS E N (k - 1) s).why = 0
   ·rw [hy] at c62;obtain ⟨hs0, hok⟩ := dirS_ok (k - 1) hy;have hN4 := HN.out hs0;have he0 : endN E N (k - 1) ≤ 4194304 := by
     by_cases e : k = 1
     ·subst e; simp [endN]
     ·exact Nat.le_trans (okD_end (hok (k - 1) (by omega) (Nat.le_refl _))) hN4
    have hF := beg_le k (endN E N (k - 1));obtain ⟨g0, g1, g2, g3⟩ := HEs.out k;obtain ⟨d0, d1, d2, d3, d4⟩ := HI.out.c5 HE.out hk1 hk8;have hoK : okD E N k = (decide ((E k).a = k ∧ (E k).b = 0 ∧ (E k).f = begN k (endN E N (k - 1)) ∧ (k = 8 → (E k).f + (E k).l = N)) && decide (endN E N k ≤ N)) := rfl;have hdS : dirS E N k s = askD (okD E N k) 5 0 ((24 + 16 * (k - 1) : Nat) : Int) (dirS E N (k - 1) s) := by
     obtain ⟨j, rfl⟩ : ∃ j, k = j + 1 := ⟨k - 1, by omega⟩
     rfl
    have heK : endN E N k = if k = 8 then N else begN k (endN E N (k - 1)) + (E k).l := by
     obtain ⟨j, rfl⟩ : ∃ j, k = j + 1 := ⟨k - 1, by omega⟩
     rw [endN]
     by_cases e : j = 7
     ·subst e; rfl
     ·rw [if_neg e, if_neg (by omega)]; rfl
    have HOK := Lib.hid hoK;have HDS := Lib.hid hdS;have HEK := Lib.hid heK;have HBg : Hid (∀ W, Calls Tryz.prog 57 #[.int .i64 (k : Int), .int .i64 ((endN E N (k - 1) : Nat) : Int)] W fun e w' => e = .returned (.int .i64 ((begN k (endN E N (k - 1)) : Nat) : Int)) ∧ w' = W) := fun W => beginX (by omega) W;have HAs : Hid (∀ W, Dt B kb (.slice ra N cap) im en q p g w0 (dirS E N (k - 1) s) W → Calls Tryz.prog 133 #[.pointer (some ⟨kb, 0, none⟩), .bool (okD E N k), .int .i64 5, .int .i64 0, .int .i64 (24 + 16 * ((k - 1 : Nat) : Int))] W fun e w' => e = .returned (.tuple #[]) ∧ Dt B kb (.slice ra N cap) im en q p g w0 (dirS E N k s) w') := fun W hW => by
     have h9 := daskX hW (okD E N k) 5 0 ((24 + 16 * (k - 1) : Nat) : Int);rw [← HDS.out, show ((24 + 16 * (k - 1) : Nat) : Int) = 24 + 16 * ((k - 1 : Nat) : Int) by omega] at h9;exact h9
    have HDn : Hid (∀ W t, Dt B kb (.slice ra N cap) im en q p g w0 t W → W.cell? ⟨kb, 0, none⟩ = some (.slice ra N cap)) := fun W t hW => (hW.cell 0).trans rdC_raw;have HN4 := Lib.hid hN4;clear hoK hdS heK hok hs0 hN4;obtain ⟨b, hb⟩ : ∃ b, okD E N k = b := ⟨_, rfl⟩
    obtain ⟨t2, ht2⟩ : ∃ t, dirS E N k s = t := ⟨_, rfl⟩
    obtain ⟨eK, heK⟩ : ∃ t, endN E N k = t := ⟨_, rfl⟩
    rw [hb] at HAs HOK;rw [ht2] at HAs;rw [heK] at HOK HEK;obtain ⟨t1, ht1⟩ : ∃ t, dirS E N (k - 1) s = t := ⟨_, rfl⟩
    rw [ht1] at HI HAs hy;have HT2 := Lib.hid ht2;have HEn2 := Lib.hid heK;clear hb ht2 heK ht1 HDS;generalize begN k (endN E N (k - 1)) = F at *;generalize endN E N (k - 1) = e0 at *;obtain ⟨⟨xa, xb, xf, xl, xc⟩, hx⟩ : ∃ x, E k = x := ⟨_, rfl⟩
    rw [hx] at HOK HEK g0 g1 g2 g3 d0 d1 d2 d3 d4;dsimp only at HOK HEK g0 g1 g2 g3 d0 d1 d2 d3 d4;clear hx;have hi1 := HI.out.below ((Below.refl _ _).alloc (Nat.le_refl _) (.cells (eiE ⟨xa, xb, xf, xl, xc⟩).toArray 88));have hi2 := hi1.below ((Below.refl _ _).alloc (Nat.le_refl _) (.cells (eiE ⟨k, 0, F, xl, xc⟩).toArray 88));have q1 : ((wr.alloc (.cells (eiE ⟨xa, xb, xf, xl, xc⟩).toArray 88)).alloc (.cells (eiE ⟨k, 0, F, xl, xc⟩).toArray 88)).drew.heap[wr.heap.size]? = some (.cells (eiE ⟨xa, xb, xf, xl, xc⟩).toArray 88 (0, 0)) := (Below.heap_alloc _ _ _ (by simp)).trans (heap_alloc_new wr _);have q2 : ((wr.alloc (.cells (eiE ⟨xa, xb, xf, xl, xc⟩).toArray 88)).alloc (.cells (eiE ⟨k, 0, F, xl, xc⟩).toArray 88)).drew.heap[wr.heap.size + 1]? = some (.cells (eiE ⟨k, 0, F, xl, xc⟩).toArray 88 (0, 0)) := by
     have h9 := heap_alloc_new (wr.alloc (.cells (eiE ⟨xa, xb, xf, xl, xc⟩).toArray 88)) (.cells (eiE ⟨k, 0, F, xl, xc⟩).toArray 88)
     rwa [show (wr.alloc (.cells (eiE ⟨xa, xb, xf, xl, xc⟩).toArray 88)).heap.size = wr.heap.size + 1 by simp] at h9
    have HQ1 := Lib.hid q1;have HQ2 := Lib.hid q2;have HI2 := Lib.hid hi2.drew;have hr1 : ∀ i, (wr.alloc (.cells (eiE ⟨xa, xb, xf, xl, xc⟩).toArray 88)).cell? ⟨wr.heap.size, i, none⟩ = (eiE ⟨xa, xb, xf, xl, xc⟩)[i]? := fun i => box_cell (heap_alloc_new wr _) i;have r3 := hr1 3;have r4 := hr1 4;clear hi1 hi2 q1 q2 hr1;unfold eiE at *;dsimp only at *;simp only [List.getElem?_cons_zero, List.getElem?_cons_succ] at r3 r4;go_wp2_with fail
    go_region_held3 (fun W => W.cell? ⟨wr.heap.size, 3, none⟩ = some (.int .i64 (xl : Int)) ∧ W.cell? ⟨wr.heap.size, 4, none⟩ = some (.int .u32 (xc : Int))) (go_keep) (first | (go_at_call 57; refine (HBg.out _).mono ?_; rintro e w9 ⟨rfl, h9⟩; subst h9))
    all_goals
     generalize ((wr.alloc (.cells #[.int .i64 (xa : Int), .int .i64 (xb : Int), .int .i64 (xf : Int), .int .i64 (xl : Int), .int .u32 (xc : Int)] 88)).alloc (.cells #[.int .i64 (k : Int), .int .i64 0, .int .i64 (F : Int), .int .i64 (xl : Int), .int .u32 (xc : Int)] 88)).drew = W2 at HQ1 HQ2 HI2 ⊢;have nk1 : kb < wr.heap.size := HI.out.lt;have HWs : Hid (w0.heap.size ≤ wr.heap.size) := HI.out.fr.size;have hwa : IntKind.i64.wrap ((k : Int) - 1) = ((k - 1 : Nat) : Int) := by rw [IntKind.wrap_i64]; omega
     have hm0 : ((k - 1 : Nat) : Int) ≤ 8 := by omega
     have hm1 : (0 : Int) ≤ ((k - 1 : Nat) : Int) := by omega
     generalize ((k - 1 : Nat) : Int) = mm at *;have hwb : IntKind.i64.wrap (16 * mm) = 16 * mm := by rw [IntKind.wrap_i64]; omega
     have hwc : IntKind.i64.wrap (24 + 16 * mm) = 24 + 16 * mm := by rw [IntKind.wrap_i64]; omega
     have hwk : IntKind.i64.wrap ((k : Int) + 1) = ((k + 1 : Nat) : Int) := by rw [IntKind.wrap_i64]; omega
     clear c62 d0 d1 d2 d3 d4 r3 r4 HI HBg hy
     by_cases hk8' : k = 8
     ·subst hk8';obtain rfl : mm = 7 := by rw [← hwa]; decide
      have HAs8 := HAs;rw [show (24 + 16 * (7 : Int)) = 136 from rfl] at HAs;clear HAs8;have HEK8 : Hid (eK = N) := by have h9 := HEK.out; rw [if_pos rfl] at h9; exact h9
      obtain ⟨yl, hyl⟩ : ∃ y : Int, (N : Int) - (F : Int) = y := ⟨_, rfl⟩
      have hyw : IntKind.i64.wrap ((N : Int) - (F : Int)) = yl := by have := HN4.out; rw [IntKind.wrap_i64]; omega
      have HYl := Lib.hid hyl;have HEQ : Hid (IntKind.i64.wrap ((F : Int) + yl) = (eK : Int)) := by
       have h9 := HEK.out;rw [if_pos rfl] at h9;have := HN4.out
       show _ = _
       rw [h9, IntKind.wrap_i64];omega
      have HYes : Hid (xa = 8 ∧ xb = 0 ∧ xf = F ∧ (xl : Int) = yl → b = true) := fun e => by
       have h9 := HOK.out;have h8 := HEK.out;rw [if_pos rfl] at h8;rw [h9, decide_eq_true (show xa = 8 ∧ xb = 0 ∧ xf = F ∧ ((8 : Nat) = 8 → xf + xl = N) from ⟨e.1, e.2.1, e.2.2.1, fun _ => by omega⟩), decide_eq_true (show eK ≤ N by omega)]
       rfl
      have HNo : Hid (¬ (xa = 8 ∧ xb = 0 ∧ xf = F ∧ (xl : Int) = yl) → b = false) := fun e => by
       rw [HOK.out, decide_eq_false (fun h => e ⟨h.1, h.2.1, h.2.2.1, by have := h.2.2.2 rfl; omega⟩), Bool.false_and]
      have HSt : Hid (Dt B kb (.slice ra N cap) im en q p g w0 t1 (W2.setCell ⟨wr.heap.size + 1, 3, none⟩ (.int .i64 yl)).drew ∧ (W2.setCell ⟨wr.heap.size + 1, 3, none⟩ (.int .i64 yl)).drew.heap[wr.heap.size]? = some (.cells (eiE ⟨xa, xb, xf, xl, xc⟩).toArray 88 (0, 0)) ∧ (W2.setCell ⟨wr.heap.size + 1, 3, none⟩ (.int .i64 yl)).drew.heap[wr.heap.size + 1]? = some (.cells (eiE ⟨8, 0, F, yl, xc⟩).toArray 88 (0, 0))) := by
       refine ⟨(Db.dt (t := 88) (n := wr.heap.size + 1) (Db.set ⟨HI2.out, ⟨_, HQ2.out⟩, by have := HWs.out; omega, by decide, by decide, by decide⟩ 3 (.int .i64 yl))).drew, ?_, box_set HQ2.out 3 _⟩;exact ((Keeps.setCell W2 (wr.heap.size + 1) 3 (.int .i64 yl)).block _ (Array.getElem?_eq_some_iff.1 HQ1.out).1 (by omega)).trans HQ1.out
      have y0 := HDn.out _ _ HI2.out.drew;have y2 : W2.drew.cell? ⟨wr.heap.size + 1, 2, none⟩ = some (.int .i64 (F : Int)) := box_cell HQ2.out 2;have y3 : W2.drew.cell? ⟨wr.heap.size + 1, 3, none⟩ = some (.int .i64 (xl : Int)) := box_cell HQ2.out 3;have y4 : W2.drew.frozen? ⟨wr.heap.size + 1, 3, none⟩ = false := box_free HQ2.out 3;clear hyl;go_wp2_with fail
      go_region
      all_goals
       obtain ⟨hd9, ha9, hb9⟩ := HSt.out;have HD3 := Lib.hid hd9;have HA3 := Lib.hid ha9;have HB3 := Lib.hid hb9;clear hd9 ha9 hb9 HSt y0 y2 y3 y4 HI2 HQ1 HQ2;generalize (W2.setCell ⟨wr.heap.size + 1, 3, none⟩ (.int .i64 yl)).drew = W3 at HD3 HA3 HB3 ⊢;have HEe : Hid (∀ W, Dt B kb (.slice ra N cap) im en q p g w0 t1 W → W.heap[wr.heap.size]? = some (.cells (eiE ⟨xa, xb, xf, xl, xc⟩).toArray 88 (0, 0)) → W.heap[wr.heap.size + 1]? = some (.cells (eiE ⟨8, 0, F, yl, xc⟩).toArray 88 (0, 0)) → Calls Tryz.prog 104 #[.agg (eiE ⟨8, 0, F, yl, xc⟩).toArray] W fun e w' => e = .returned (.int .i64 (eK : Int)) ∧ Dt B kb (.slice ra N cap) im en q p g w0 t1 w' ∧ w'.heap[wr.heap.size]? = some (.cells (eiE ⟨xa, xb, xf, xl, xc⟩).toArray 88 (0, 0)) ∧ w'.heap[wr.heap.size + 1]? = some (.cells (eiE ⟨8, 0, F, yl, xc⟩).toArray 88 (0, 0))) := fun W hW h1 h2 => (endI (x := ⟨8, 0, F, yl, xc⟩) HEQ.out W).mono (fun e w' h => ⟨h.1, hW.below h.2, (h.2.block _ (Array.getElem?_eq_some_iff.1 h1).1).trans h1, (h.2.block _ (Array.getElem?_eq_some_iff.1 h2).1).trans h2⟩);have HE1 := Lib.hid (HEe.out _ HD3.out HA3.out HB3.out);have a0 := box_cell HB3.out 0;have a1 := box_cell HB3.out 1;have a2 := box_cell HB3.out 2;have a3 := box_cell HB3.out 3;have a4 := box_cell HB3.out 4;simp only [eiE, List.getElem?_cons_zero, List.getElem?_cons_succ] at a0 a1 a2 a3 a4;unfold eiE at HE1;dsimp only at HE1;clear HEe HD3 HA3 HB3;go_wp2_with fail
       refine HE1.out.mono ?_;rintro e w4 ⟨rfl, h4, k1, k2⟩;have i0 := box_cell k1 0;have i1 := box_cell k1 1;have i2 := box_cell k1 2;have i3 := box_cell k1 3;have i4 := box_cell k1 4;have l0 := box_cell k2 0;have l1 := box_cell k2 1;have l2 := box_cell k2 2;have l3 := box_cell k2 3;have l4 := box_cell k2 4;simp only [eiE, List.getElem?_cons_zero, List.getElem?_cons_succ] at i0 i1 i2 i3 i4 l0 l1 l2 l3 l4;have z0 := HDn.out _ _ h4;have HK := Lib.hid (HAs.out _ h4);clear h4 k1 k2 HE1 HAs HDn a0 a1 a2 a3 a4
       by_cases c1 : xa = 8
       ·subst c1
        by_cases c2 : xb = 0
        ·subst c2
         by_cases c3 : F = xf
         ·subst c3
          by_cases c4 : yl = (xl : Int)
          ·obtain rfl : b = true := HYes.out ⟨rfl, rfl, rfl, c4.symm⟩;subst c4;have hle : (eK : Int) ≤ (N : Int) := by have := HEK8.out; omega
           have hle2 : decide (eK ≤ N) = true := by have := HEK8.out; simp; omega
           go_wp2_with fail
           refine HK.out.mono ?_;rintro e w5 ⟨rfl, h5⟩;have H5 := Lib.hid h5;clear h5 HK;go_wp2_with fail
           go_roundw
           case rel => exact ⟨9, by omega, by omega, rfl, by rw [show 9 - 1 = 8 from rfl, HEn2.out], by rw [show 9 - 1 = 8 from rfl, HT2.out]; exact H5⟩
           case measure => simp [intOf] <;> omega
          ·obtain rfl : b = false := HNo.out (fun e => c4 e.2.2.2.symm);go_wp2_with fail
           refine HK.out.mono ?_;rintro e w5 ⟨rfl, h5⟩;have H5 := Lib.hid h5;clear h5 HK;go_wp2_with fail
           go_roundw
           case rel => exact ⟨9, by omega, by omega, rfl, by rw [show 9 - 1 = 8 from rfl, HEn2.out], by rw [show 9 - 1 = 8 from rfl, HT2.out]; exact H5⟩
           case measure => simp [intOf] <;> omega
         ·obtain rfl : b = false := HNo.out (fun e => c3 e.2.2.1.symm);have n3 : ¬ (xf : Int) = (F : Int) := by omega
          go_wp2_with fail
          refine HK.out.mono ?_;rintro e w5 ⟨rfl, h5⟩;have H5 := Lib.hid h5;clear h5 HK;go_wp2_with fail
          go_roundw
          case rel => exact ⟨9, by omega, by omega, rfl, by rw [show 9 - 1 = 8 from rfl, HEn2.out], by rw [show 9 - 1 = 8 from rfl, HT2.out]; exact H5⟩
          case measure => simp [intOf] <;> omega
        ·obtain rfl : b = false := HNo.out (fun e => c2 e.2.1);have n2 : ¬ (xb : Int) = 0 := by omega
         go_wp2_with fail
         refine HK.out.mono ?_;rintro e w5 ⟨rfl, h5⟩;have H5 := Lib.hid h5;clear h5 HK;go_wp2_with fail
         go_roundw
         case rel => exact ⟨9, by omega, by omega, rfl, by rw [show 9 - 1 = 8 from rfl, HEn2.out], by rw [show 9 - 1 = 8 from rfl, HT2.out]; exact H5⟩
         case measure => simp [intOf] <;> omega
       ·obtain rfl : b = false := HNo.out (fun e => c1 e.1);have n1 : ¬ (xa : Int) = 8 := by omega
        go_wp2_with fail
        refine HK.out.mono ?_;rintro e w5 ⟨rfl, h5⟩;have H5 := Lib.hid h5;clear h5 HK;go_wp2_with fail
        go_roundw
        case rel => exact ⟨9, by omega, by omega, rfl, by rw [show 9 - 1 = 8 from rfl, HEn2.out], by rw [show 9 - 1 = 8 from rfl, HT2.out]; exact H5⟩
        case measure => simp [intOf] <;> omega
     ·have jk8 : ¬ (k : Int) = 8 := by omega
      have HEQ : Hid (IntKind.i64.wrap ((F : Int) + (xl : Int)) = (eK : Int)) := by
       have h9 := HEK.out;rw [if_neg hk8'] at h9
       show _ = _
       rw [h9, IntKind.wrap_i64];omega
      have HYes : Hid (xa = k ∧ xb = 0 ∧ xf = F → b = decide (eK ≤ N)) := fun e => by
       rw [HOK.out, decide_eq_true (show xa = k ∧ xb = 0 ∧ xf = F ∧ (k = 8 → xf + xl = N) from ⟨e.1, e.2.1, e.2.2, fun e => absurd e hk8'⟩), Bool.true_and]
      have HNo : Hid (¬ (xa = k ∧ xb = 0 ∧ xf = F) → b = false) := fun e => by
       rw [HOK.out, decide_eq_false (fun h => e ⟨h.1, h.2.1, h.2.2.1⟩), Bool.false_and]
      have HD3 := HI2;have HA3 := HQ1;have HB3 := HQ2;clear HI2 HQ1 HQ2;have HEe : Hid (∀ W, Dt B kb (.slice ra N cap) im en q p g w0 t1 W → W.heap[wr.heap.size]? = some (.cells (eiE ⟨xa, xb, xf, xl, xc⟩).toArray 88 (0, 0)) → W.heap[wr.heap.size + 1]? = some (.cells (eiE ⟨k, 0, F, xl, xc⟩).toArray 88 (0, 0)) → Calls Tryz.prog 104 #[.agg (eiE ⟨k, 0, F, xl, xc⟩).toArray] W fun e w' => e = .returned (.int .i64 (eK : Int)) ∧ Dt B kb (.slice ra N cap) im en q p g w0 t1 w' ∧ w'.heap[wr.heap.size]? = some (.cells (eiE ⟨xa, xb, xf, xl, xc⟩).toArray 88 (0, 0)) ∧ w'.heap[wr.heap.size + 1]? = some (.cells (eiE ⟨k, 0, F, xl, xc⟩).toArray 88 (0, 0))) := fun W hW h1 h2 => (endI (x := ⟨k, 0, F, xl, xc⟩) HEQ.out W).mono (fun e w' h => ⟨h.1, hW.below h.2, (h.2.block _ (Array.getElem?_eq_some_iff.1 h1).1).trans h1, (h.2.block _ (Array.getElem?_eq_some_iff.1 h2).1).trans h2⟩);have HE1 := Lib.hid (HEe.out _ HD3.out HA3.out HB3.out);have a0 := box_cell HB3.out 0;have a1 := box_cell HB3.out 1;have a2 := box_cell HB3.out 2;have a3 := box_cell HB3.out 3;have a4 := box_cell HB3.out 4;simp only [eiE, List.getElem?_cons_zero, List.getElem?_cons_succ] at a0 a1 a2 a3 a4;unfold eiE at HE1;dsimp only at HE1;clear HEe HD3 HA3 HB3;go_wp2_with fail
      refine HE1.out.mono ?_;rintro e w4 ⟨rfl, h4, k1, k2⟩;have i0 := box_cell k1 0;have i1 := box_cell k1 1;have i2 := box_cell k1 2;have i3 := box_cell k1 3;have i4 := box_cell k1 4;have l0 := box_cell k2 0;have l1 := box_cell k2 1;have l2 := box_cell k2 2;have l3 := box_cell k2 3;have l4 := box_cell k2 4;simp only [eiE, List.getElem?_cons_zero, List.getElem?_cons_succ] at i0 i1 i2 i3 i4 l0 l1 l2 l3 l4;have z0 := HDn.out _ _ h4;have HK := Lib.hid (HAs.out _ h4);clear h4 k1 k2 HE1 HAs HDn a0 a1 a2 a3 a4
      by_cases c1 : k = xa
      ·subst c1
       by_cases c2 : xb = 0
       ·subst c2
        by_cases c3 : F = xf
        ·subst c3;have hle : decide ((eK : Int) ≤ (N : Int)) = b := by rw [HYes.out ⟨rfl, rfl, rfl⟩]; by_cases h : eK ≤ N <;> simp [h] <;> omega
         have hle2 : decide (eK ≤ N) = b := (HYes.out ⟨rfl, rfl, rfl⟩).symm;go_wp2_with fail
         refine HK.out.mono ?_;rintro e w5 ⟨rfl, h5⟩;have H5 := Lib.hid h5;clear h5 HK;go_wp2_with fail
         go_roundw
         case rel => exact ⟨k + 1, by omega, by omega, rfl, by rw [Nat.add_sub_cancel, HEn2.out], by rw [Nat.add_sub_cancel, HT2.out]; exact H5⟩
         case measure => simp [intOf] <;> omega
        ·obtain rfl : b = false := HNo.out (fun e => c3 e.2.2.symm);have n3 : ¬ (xf : Int) = (F : Int) := by omega
         go_wp2_with fail
         refine HK.out.mono ?_;rintro e w5 ⟨rfl, h5⟩;have H5 := Lib.hid h5;clear h5 HK;go_wp2_with fail
         go_roundw
         case rel => exact ⟨k + 1, by omega, by omega, rfl, by rw [Nat.add_sub_cancel, HEn2.out], by rw [Nat.add_sub_cancel, HT2.out]; exact H5⟩
         case measure => simp [intOf] <;> omega
       ·obtain rfl : b = false := HNo.out (fun e => c2 e.2.1);have n2 : ¬ (xb : Int) = 0 := by omega
        go_wp2_with fail
        refine HK.out.mono ?_;rintro e w5 ⟨rfl, h5⟩;have H5 := Lib.hid h5;clear h5 HK;go_wp2_with fail
        go_roundw
        case rel => exact ⟨k + 1, by omega, by omega, rfl, by rw [Nat.add_sub_cancel, HEn2.out], by rw [Nat.add_sub_cancel, HT2.out]; exact H5⟩
        case measure => simp [intOf] <;> omega
      ·obtain rfl : b = false := HNo.out (fun e => c1 e.1.symm);have n1 : ¬ (xa : Int) = (k : Int) := by omega
       go_wp2_with fail
       refine HK.out.mono ?_;rintro e w5 ⟨rfl, h5⟩;have H5 := Lib.hid h5;clear h5 HK;go_wp2_with fail
       go_roundw
       case rel => exact ⟨k + 1, by omega, by omega, rfl, by rw [Nat.add_sub_cancel, HEn2.out], by rw [Nat.add_sub_cancel, HT2.out]; exact H5⟩
       case measure => simp [intOf] <;> omega
   ·have hyb : ((dirS E N (k - 1) s).why == 0) = false := by simpa using hy
    have HS : Hid (dirS E N 8 s = dirS E N (k - 1) s) := dirS_stop hy 8 (by omega);go_wp2_with fail
    go_end0
    rw [HS.out];exact ⟨rfl, HI.out⟩
end
end Go.Proofs.YtmfkggngjeolcaaGreatDoor
namespace Go.Proofs.YtmfkggngjeolcaaGreatDoor
open Go.RowKit Bn Dc
namespace Dc
def zsS (bs : List Nat) (k e0 : Nat) : Nat → D → D
 | 0, s => s
 | j + 1, s => askD (decide (bs.getD (e0 + j) 0 = 0)) 5 (k : Int) ((e0 + j : Nat) : Int) (zsS bs k e0 j s)
def sealS (E : Nat → En) (bs : List Nat) : Nat → D → D
 | 0, s => s
 | k + 1, s => askD (decide (Pl.crc ((bs.drop (E (k + 1)).f).take (E (k + 1)).l) = (E (k + 1)).c)) 11 ((k + 1 : Nat) : Int) ((E (k + 1)).f : Int) (zsS bs (k + 1) (endN E bs.length k) ((E (k + 1)).f - endN E bs.length k) (sealS E bs k s))
theorem zsS_why {bs : List Nat} {k e0 : Nat} {s : D} (h : s.why ≠ 0) : ∀ j, zsS bs k e0 j s = s
 | 0 => rfl
 | j + 1 => by rw [zsS, zsS_why h j, ask_why h]
theorem sealS_stop {E : Nat → En} {bs : List Nat} {s : D} {k : Nat} (h : (sealS E bs k s).why ≠ 0) (m : Nat) (hm : k ≤ m) : sealS E bs m s = sealS E bs k s := by
 induction m with
 | zero => rw [show k = 0 by omega]
 | succ m ih =>
  by_cases e : k = m + 1
  ·rw [e]
  ·rw [sealS, ih (by omega), zsS_why h, ask_why h]
theorem zs_zero {bs : List Nat} {k e0 : Nat} {s : D} : ∀ j, (zsS bs k e0 j s).why = 0 → s.why = 0 ∧ ∀ i, i < j → bs.getD (e0 + i) 0 = 0
 | 0, h => ⟨h, fun i hi => by omega⟩
 | j + 1, h => by
  rw [zsS] at h;obtain ⟨h1, h2⟩ := ask_zero' (by decide) h;obtain ⟨h3, h4⟩ := zs_zero j h2;refine ⟨h3, fun i hi => ?_⟩
  by_cases e : i = j
  ·rw [e]; exact of_decide_eq_true h1
  ·exact h4 i (by omega)
theorem seal_zero {E : Nat → En} {bs : List Nat} {s : D} : ∀ k, (sealS E bs k s).why = 0 → s.why = 0
 | 0, h => h
 | k + 1, h => by
  rw [sealS] at h;exact seal_zero k (zs_zero _ (ask_zero' (by decide) h).2).1
end Dc
theorem ok_end {E : Nat → En} {N k : Nat} (h1 : 1 ≤ k) (h8 : k ≤ 8) (h : okD E N k = true) : (E k).a = k ∧ (E k).b = 0 ∧ (E k).f = begN k (endN E N (k - 1)) ∧ endN E N k = (E k).f + (E k).l ∧ endN E N k ≤ N := by
 unfold okD at h;rw [Bool.and_eq_true] at h;have ha := of_decide_eq_true h.1;have hb := of_decide_eq_true h.2;refine ⟨ha.1, ha.2.1, ha.2.2.1, ?_, hb⟩;obtain ⟨j, rfl⟩ : ∃ j, k = j + 1 := ⟨k - 1, by omega⟩
 rw [endN]
 by_cases e : j = 7
 ·rw [if_pos e]; subst e; exact (ha.2.2.2 rfl).symm
 ·rw [if_neg e, ha.2.2.1]; rfl
section
variable {B kb : Nat} {im en : List Value} {q : Pt} {p g : Nat} {w0 : World} {s : D} {w w' : World}
theorem sealsX {E : Nat → En} {bs : List Nat} {rb ro cap : Nat} (h : Dt B kb (.slice (some ⟨rb, ro, none⟩) bs.length cap) im en q p g w0 s w) (he : EnR en E) (hE : enSm E) (hraw : ∀ W, Fd B w0 W → Sl W (.slice (some ⟨rb, ro, none⟩) bs.length cap) bs) (ht : ∀ W, Fd B w0 W → Tab W) (hok : s.why = 0 → bs.length ≤ 4194304 ∧ ∀ j, 1 ≤ j → j ≤ 8 → okD E bs.length j = true) : Calls Tryz.prog 140 #[.pointer (some ⟨kb, 0, none⟩)] w fun e w' => e = .returned (.tuple #[]) ∧ Dt B kb (.slice (some ⟨rb, ro, none⟩) bs.length cap) im en q p g w0 (sealS E bs 8 s) w' := by
 have H0 : Hid (Dt B kb (.slice (some ⟨rb, ro, none⟩) bs.length cap) im en q p g w0 (sealS E bs 0 s) w) := h;have HE : Hid (EnR en E) := he;have HEs : Hid (enSm E) := hE;have HOk : Hid (s.why = 0 → bs.length ≤ 4194304 ∧ ∀ j, 1 ≤ j → j ≤ 8 → okD E bs.length j = true) := hok;have HRw : Hid (∀ W, Fd B w0 W → Sl W (.slice (some ⟨rb, ro, none⟩) bs.length cap) bs) := hraw;have HTb : Hid (∀ W, Fd B w0 W → Tab W) := ht;clear h he hE hok hraw ht;go_enter Tryz.func140, Tryz.ntmps140
 go_wp2_with fail
 go_loopw [2, 3] (fun ev kv wr => ∃ k : Nat, 1 ≤ k ∧ k ≤ 9 ∧ kv = .int .i64 (k : Int) ∧ ev = .int .i64 ((endN E bs.length (k - 1) : Nat) : Int) ∧ Hid (Dt B kb (.slice (some ⟨rb, ro, none⟩) bs.length cap) im en q p g w0 (sealS E bs (k - 1) s) wr)) (fun _ kv _ => 9 - (intOf kv).toNat)
 case atStart => exact ⟨1, by decide, by decide, rfl, rfl, H0⟩
 case round =>
  clear H0;obtain ⟨k, hk1, hk9, rfl, rfl, HI⟩ := hrel;obtain ⟨wq, hwq⟩ : ∃ x, x = wr := ⟨_, rfl⟩
  subst hwq
  by_cases hk : k = 9
  ·subst hk;go_wp2_with fail
   go_end0
   exact ⟨rfl, HI.out⟩
  ·have hk8 : k ≤ 8 := by omega
   have jk : (k : Int) < 9 := by omega
   have jk0 : (0 : Int) ≤ (k : Int) := by omega
   have hwk : IntKind.i64.wrap ((k : Int) + 1) = ((k + 1 : Nat) : Int) := by rw [IntKind.wrap_i64]; omega
   have c62 := HI.out.c62
   by_cases hy : (sealS E bs (k - 1) s).why = 0
   ·rw [hy] at c62;obtain ⟨hN4, hok⟩ := HOk.out (seal_zero _ hy);obtain ⟨o1, o2, o3, o4, o5⟩ := ok_end hk1 hk8 (hok k hk1 hk8);have hF := (beg_le k (endN E bs.length (k - 1))).2;obtain ⟨d0, d1, d2, d3, d4⟩ := HI.out.c5 HE.out hk1 hk8;have hsS : sealS E bs k s = askD (decide (Pl.crc ((bs.drop (E k).f).take (E k).l) = (E k).c)) 11 ((k : Nat) : Int) ((E k).f : Int) (zsS bs k (endN E bs.length (k - 1)) ((E k).f - endN E bs.length (k - 1)) (sealS E bs (k - 1) s)) := by
     obtain ⟨j, rfl⟩ : ∃ j, k = j + 1 := ⟨k - 1, by omega⟩
     rfl
    have HN4 := Lib.hid hN4;obtain ⟨⟨xa, xb, f, l, c⟩, hx⟩ : ∃ x, E k = x := ⟨_, rfl⟩
    rw [hx] at o1 o2 o3 o4 hsS d0 d1 d2 d3 d4;dsimp only at o1 o2 o3 o4 hsS d0 d1 d2 d3 d4;have o1' := o1.symm;subst o1';subst o2;obtain ⟨e0, he0⟩ : ∃ e, endN E bs.length (k - 1) = e := ⟨_, rfl⟩
    rw [he0] at hF o3 hsS;rw [← o3] at hF;obtain ⟨t1, ht1⟩ : ∃ t, sealS E bs (k - 1) s = t := ⟨_, rfl⟩
    rw [ht1] at hsS HI hy;have HEK : Hid (endN E bs.length k = f + l) := o4;have HSS := Lib.hid hsS;have hfl : f + l ≤ bs.length := by omega
    rw [he0];clear hok o3 o4 o5 he0 ht1 hsS hx HOk;obtain ⟨h1, hf1, hb1, hl1⟩ := HI.out.boxed (.cells (entA k f l c) 88);have HF1 : Hid (Fd B w0 (wq.alloc (.cells (entA k f l c) 88))) := hf1;have HBx : Hid (∀ W t, Dt B kb (.slice (some ⟨rb, ro, none⟩) bs.length cap) im en q p g (wq.alloc (.cells (entA k f l c) 88)) t W → W.heap[wq.heap.size]? = some (.cells (entA k f l c) 88 (0, 0))) := fun W t hW => hW.box hb1 (by decide) (by decide);have HCs : Hid (∀ W t, Dt B kb (.slice (some ⟨rb, ro, none⟩) bs.length cap) im en q p g (wq.alloc (.cells (entA k f l c) 88)) t W → (W.cell? ⟨wq.heap.size, 0, none⟩ = some (.int .i64 (k : Int)) ∧ W.cell? ⟨wq.heap.size, 1, none⟩ = some (.int .i64 0) ∧ W.cell? ⟨wq.heap.size, 2, none⟩ = some (.int .i64 (f : Int)) ∧ W.cell? ⟨wq.heap.size, 3, none⟩ = some (.int .i64 (l : Int)) ∧ W.cell? ⟨wq.heap.size, 4, none⟩ = some (.int .u32 (c : Int))) ∧ W.cell? ⟨kb, 0, none⟩ = some (.slice (some ⟨rb, ro, none⟩) bs.length cap)) := fun W t hW => by
     have h9 := HBx.out _ _ hW;refine ⟨⟨?_, ?_, ?_, ?_, ?_⟩, (hW.cell 0).trans rdC_raw⟩ <;> (rw [cell_of_row _ _ _ _ _ _ h9]; rfl)
    have HSl : Hid (∀ W t, Dt B kb (.slice (some ⟨rb, ro, none⟩) bs.length cap) im en q p g (wq.alloc (.cells (entA k f l c) 88)) t W → Sl W (.slice (some ⟨rb, ro, none⟩) bs.length cap) bs) := fun W t hW => HRw.out _ (HF1.out.trans hW.fr);have HZ : Hid (∀ W j, Dt B kb (.slice (some ⟨rb, ro, none⟩) bs.length cap) im en q p g (wq.alloc (.cells (entA k f l c) 88)) (zsS bs k e0 j t1) W → Calls Tryz.prog 133 #[.pointer (some ⟨kb, 0, none⟩), .bool (decide (bs.getD (e0 + j) 0 = 0)), .int .i64 5, .int .i64 (k : Int), .int .i64 ((e0 + j : Nat) : Int)] W fun e w' => e = .returned (.tuple #[]) ∧ Dt B kb (.slice (some ⟨rb, ro, none⟩) bs.length cap) im en q p g (wq.alloc (.cells (entA k f l c) 88)) (zsS bs k e0 (j + 1) t1) w') := fun W j hW => daskX hW _ 5 (k : Int) ((e0 + j : Nat) : Int);have HOf : Hid (∀ W t, Dt B kb (.slice (some ⟨rb, ro, none⟩) bs.length cap) im en q p g (wq.alloc (.cells (entA k f l c) 88)) t W → Calls Tryz.prog 64 #[.agg (entA k f l c), (.slice (some ⟨rb, ro, none⟩) bs.length cap)] W fun e w' => ∃ v', e = .returned v' ∧ Sl w' v' ((bs.drop f).take l) ∧ Dt B kb (.slice (some ⟨rb, ro, none⟩) bs.length cap) im en q p g (wq.alloc (.cells (entA k f l c) 88)) t w') := fun W t hW => (ofS (HSl.out _ _ hW) hfl (by omega)).mono (fun e w' ⟨v, he, hs, hb⟩ => ⟨v, he, hs, hW.below hb⟩);have HCr : Hid (∀ W t v, Dt B kb (.slice (some ⟨rb, ro, none⟩) bs.length cap) im en q p g (wq.alloc (.cells (entA k f l c) 88)) t W → Sl W v ((bs.drop f).take l) → Calls Tryz.prog 63 #[v] W fun e w' => e = .returned (.int .u32 (Pl.crc ((bs.drop f).take l) : Nat)) ∧ w' = W) := fun W t v hW hv => crc_any (HTb.out _ (HF1.out.trans hW.fr)) hv;have HAc : Hid (∀ W, Dt B kb (.slice (some ⟨rb, ro, none⟩) bs.length cap) im en q p g (wq.alloc (.cells (entA k f l c) 88)) (zsS bs k e0 (f - e0) t1) W → Calls Tryz.prog 133 #[.pointer (some ⟨kb, 0, none⟩), .bool (decide (Pl.crc ((bs.drop f).take l) = c)), .int .i64 11, .int .i64 (k : Int), .int .i64 (f : Int)] W fun e w' => e = .returned (.tuple #[]) ∧ Dt B kb (.slice (some ⟨rb, ro, none⟩) bs.length cap) im en q p g (wq.alloc (.cells (entA k f l c) 88)) (sealS E bs k s) w') := fun W hW => by
     have h9 := daskX hW (decide (Pl.crc ((bs.drop f).take l) = c)) 11 (k : Int) (f : Int);rw [← HSS.out] at h9;exact h9
    have HEn : Hid (∀ W, Dt B kb (.slice (some ⟨rb, ro, none⟩) bs.length cap) im en q p g (wq.alloc (.cells (entA k f l c) 88)) (sealS E bs k s) W → Calls Tryz.prog 104 #[.agg (entA k f l c)] W fun e w' => e = .returned (.int .i64 ((f + l : Nat) : Int)) ∧ Dt B kb (.slice (some ⟨rb, ro, none⟩) bs.length cap) im en q p g (wq.alloc (.cells (entA k f l c) 88)) (sealS E bs k s) w') := fun W hW => (endX (by omega) (by omega) W).mono (fun e w' h => ⟨h.1, hW.below h.2⟩);have H1 : Hid (Dt B kb (.slice (some ⟨rb, ro, none⟩) bs.length cap) im en q p g (wq.alloc (.cells (entA k f l c) 88)) (zsS bs k e0 0 t1) (wq.alloc (.cells (entA k f l c) 88))) := h1;have HFl := Lib.hid hfl;have hfe : f ≤ 4194304 := by omega
    have hcap : bs.length ≤ cap := by
     obtain ⟨ao, cp, e9, h9, _⟩ := HSl.out _ _ h1
     cases e9
     exact h9
    have hcm : cap ≤ 9223372036854775807 := by
     obtain ⟨ao, cp, e9, h9, h8, _⟩ := HSl.out _ _ h1
     cases e9
     unfold maxLen at h8;exact h8
    clear h1 hf1 hb1 hl1 HI HSS hy hfl;unfold entA at *;go_wp2_with fail
    go_loopw [5] (fun av wx => ∃ j : Nat, j ≤ f - e0 ∧ av = .int .i64 ((e0 + j : Nat) : Int) ∧ Hid (Dt B kb (.slice (some ⟨rb, ro, none⟩) bs.length cap) im en q p g (wq.alloc (.cells #[.int .i64 (k : Int), .int .i64 0, .int .i64 (f : Int), .int .i64 (l : Int), .int .u32 (c : Int)] 88)) (zsS bs k e0 j t1) wx)) (fun av _ => f - (intOf av).toNat)
    case atStart => exact ⟨0, Nat.zero_le _, by first | rfl | simp, H1⟩
    case round =>
     clear H1;obtain ⟨j, hj, rfl, HJ⟩ := hrel;obtain ⟨⟨x0, x1, x2, x3, x4⟩, x5⟩ := HCs.out _ _ HJ.out
     by_cases hjn : j < f - e0
     ·have jj : ((e0 + j : Nat) : Int) < (f : Int) := by omega
      have jb : ((e0 + j : Nat) : Int) < (bs.length : Int) := by have := HFl.out; omega
      have j0 : (0 : Int) ≤ ((e0 + j : Nat) : Int) := by omega
      have hwj : IntKind.i64.wrap (((e0 + j : Nat) : Int) + 1) = ((e0 + (j + 1) : Nat) : Int) := by rw [IntKind.wrap_i64]; omega
      obtain ⟨b9, o9, cp9, e9, _, _, hz9, hc9⟩ := (HSl.out _ _ HJ.out).pos (by omega)
      cases e9
      have hcj := hc9 (e0 + j) (by omega);have HK := Lib.hid (HZ.out _ _ HJ.out);have HMj : Hid (e0 + j < f) := show _ < _ by omega
      generalize bs.getD (e0 + j) 0 = xx at hcj HK;obtain ⟨at_, hat⟩ : ∃ a, e0 + j = a := ⟨_, rfl⟩
      have hat2 : e0 + (j + 1) = at_ + 1 := by omega
      rw [hat] at jj jb j0 hwj hcj HK HMj ⊢;rw [hat2] at hwj;have HAt := Lib.hid hat2;clear hz9 hc9 HJ hat hat2
      by_cases hx0 : xx = 0
      ·subst hx0;simp only [decide_true] at HK;go_wp2_with fail
       refine HK.out.mono ?_;rintro e w5 ⟨rfl, h5⟩;have H5 := Lib.hid h5;clear h5 HK x0 x1 x2 x3 x4 x5;go_wp2_with fail
       go_roundw
       case rel => exact ⟨j + 1, by omega, (by first | (rw [HAt.out]; done) | (rw [HAt.out]; simp)), H5⟩
       case measure => have := HMj.out; simp [intOf]; omega
      ·have hxi : ¬ (xx : Int) = 0 := by omega
       have hxb : ((xx : Int) == 0) = false := by simp [hx0]
       simp only [hx0, decide_false] at HK;go_wp2_with fail
       refine HK.out.mono ?_;rintro e w5 ⟨rfl, h5⟩;have H5 := Lib.hid h5;clear h5 HK x0 x1 x2 x3 x4 x5;go_wp2_with fail
       go_roundw
       case rel => exact ⟨j + 1, by omega, (by first | (rw [HAt.out]; done) | (rw [HAt.out]; simp)), H5⟩
       case measure => have := HMj.out; simp [intOf]; omega
     ·obtain rfl : j = f - e0 := by omega
      have jj : ¬ ((e0 + (f - e0) : Nat) : Int) < (f : Int) := by omega
      have HJd := Lib.hid HJ.out.drew;have HCz := HCs.out _ _ HJd.out;generalize ((e0 + (f - e0) : Nat) : Int) = at_ at jj ⊢;generalize Pl.crc ((bs.drop f).take l) = cr at HCr HAc;clear HZ HSl HJ
      by_cases hcr : cr = c
      ·subst hcr;simp only [decide_true] at HAc;go_wp2_with fail
       go_region_held3 (fun W => (W.cell? ⟨wq.heap.size, 0, none⟩ = some (.int .i64 (k : Int)) ∧ W.cell? ⟨wq.heap.size, 1, none⟩ = some (.int .i64 0) ∧ W.cell? ⟨wq.heap.size, 2, none⟩ = some (.int .i64 (f : Int)) ∧ W.cell? ⟨wq.heap.size, 3, none⟩ = some (.int .i64 (l : Int)) ∧ W.cell? ⟨wq.heap.size, 4, none⟩ = some (.int .u32 (cr : Int))) ∧ W.cell? ⟨kb, 0, none⟩ = some (.slice (some ⟨rb, ro, none⟩) bs.length cap)) (first | assumption | exact ⟨by assumption, by assumption⟩ | go_keep) (first | (go_at_call 64; refine (HOf.out _ _ HJd.out).mono ?_; rintro e w3 ⟨v3, rfl, hs3, h3⟩; have HS3 := Lib.hid hs3; have H3 := Lib.hid h3; obtain ⟨y1, y5⟩ := HCs.out _ _ h3; clear hs3 h3 HJd HOf) | (go_at_call 63; refine (HCr.out _ _ _ H3.out HS3.out).mono ?_; rintro e w4 ⟨rfl, h9⟩; subst h9; clear HCr) | (go_at_call 133; refine (HAc.out _ H3.out).mono ?_; rintro e w6 ⟨rfl, h6⟩; have H6 := Lib.hid h6; obtain ⟨z1, z5⟩ := HCs.out _ _ h6; clear h6 H3 HAc))
       all_goals
        obtain ⟨z1, z2, z3, z4, z6⟩ := z1;go_wp2_with fail
        refine (HEn.out _ H6.out).mono ?_;rintro e w7 ⟨rfl, h7⟩;have H7 := Lib.hid (h7.since HF1.out);clear h7 H6 HEn;go_wp2_with fail
        go_roundw
        case rel => exact ⟨k + 1, by omega, by omega, rfl, (by first | (rw [Nat.add_sub_cancel, HEK.out]; done) | (rw [Nat.add_sub_cancel, HEK.out]; simp)), by rw [Nat.add_sub_cancel]; exact H7⟩
        case measure => simp [intOf] <;> omega
      ·have hci : ¬ (cr : Int) = (c : Int) := by omega
       have hcb : ((cr : Int) == (c : Int)) = false := by simp [hci]
       simp only [hcr, decide_false] at HAc;go_wp2_with fail
       go_region_held3 (fun W => (W.cell? ⟨wq.heap.size, 0, none⟩ = some (.int .i64 (k : Int)) ∧ W.cell? ⟨wq.heap.size, 1, none⟩ = some (.int .i64 0) ∧ W.cell? ⟨wq.heap.size, 2, none⟩ = some (.int .i64 (f : Int)) ∧ W.cell? ⟨wq.heap.size, 3, none⟩ = some (.int .i64 (l : Int)) ∧ W.cell? ⟨wq.heap.size, 4, none⟩ = some (.int .u32 (c : Int))) ∧ W.cell? ⟨kb, 0, none⟩ = some (.slice (some ⟨rb, ro, none⟩) bs.length cap)) (first | assumption | exact ⟨by assumption, by assumption⟩ | go_keep) (first | (go_at_call 64; refine (HOf.out _ _ HJd.out).mono ?_; rintro e w3 ⟨v3, rfl, hs3, h3⟩; have HS3 := Lib.hid hs3; have H3 := Lib.hid h3; obtain ⟨y1, y5⟩ := HCs.out _ _ h3; clear hs3 h3 HJd HOf) | (go_at_call 63; refine (HCr.out _ _ _ H3.out HS3.out).mono ?_; rintro e w4 ⟨rfl, h9⟩; subst h9; clear HCr) | (go_at_call 133; refine (HAc.out _ H3.out).mono ?_; rintro e w6 ⟨rfl, h6⟩; have H6 := Lib.hid h6; obtain ⟨z1, z5⟩ := HCs.out _ _ h6; clear h6 H3 HAc))
       all_goals
        obtain ⟨z1, z2, z3, z4, z6⟩ := z1;go_wp2_with fail
        refine (HEn.out _ H6.out).mono ?_;rintro e w7 ⟨rfl, h7⟩;have H7 := Lib.hid (h7.since HF1.out);clear h7 H6 HEn;go_wp2_with fail
        go_roundw
        case rel => exact ⟨k + 1, by omega, by omega, rfl, (by first | (rw [Nat.add_sub_cancel, HEK.out]; done) | (rw [Nat.add_sub_cancel, HEK.out]; simp)), by rw [Nat.add_sub_cancel]; exact H7⟩
        case measure => simp [intOf] <;> omega
   ·have hyb : ((sealS E bs (k - 1) s).why == 0) = false := by simpa using hy
    have HS : Hid (sealS E bs 8 s = sealS E bs (k - 1) s) := sealS_stop hy 8 (by omega);go_wp2_with fail
    go_end0
    rw [HS.out];exact ⟨rfl, HI.out⟩
end
end Go.Proofs.YtmfkggngjeolcaaGreatDoor
