import Derived.Test.YtmfkggngjeolcaaGreatDoorPk33
import Derived.Test.YtmfkggngjeolcaaGreatDoorPk24
import Derived.Deep.CutRange
set_option linter.unusedSimpArgs false
set_option linter.unusedVariables false
set_option maxHeartbeats 16000000
set_option maxRecDepth 100000
namespace Go.Proofs.YtmfkggngjeolcaaGreatDoor
open Go.RowKit Bn Dd
def BusQ (rb ib : Nat) (raw : Value) (p : Q) (w0 : World) (im : List Value) (b : Dc.BusR) (r : R) (w : World) : Prop := ∃ v1 v2, Rk rb raw p w r w ∧ w.heap[ib]? = some (.cells ((im.set 1 v1).set 2 v2).toArray 33 (0, 0)) ∧ OwnG 64 2 rgE w w0.heap.size v1 b.rams ∧ OwnG 64 2 rgE w w0.heap.size v2 b.devs ∧ Keeps (fun k => k = rb ∨ k = ib) w0 w
def BusL (rb ib : Nat) (raw : Value) (p : Q) (w : World) (im : List Value) (n1 : Nat) (c0 : R) (i : Nat) (wr : World) : Prop := (i < n1 ∧ ∃ v, Rd1 64 2 rgE rb ib raw p w 1 im (listR (spanR p) i c0).2 (listR (spanR p) i c0).1 v wr) ∨ (n1 ≤ i ∧ ∃ w1 v1 v2, OwnG 64 2 rgE w1 w.heap.size v1 (listR (spanR p) n1 c0).1 ∧ Keeps (fun k => k = rb ∨ k = ib) w w1 ∧ Rd1 64 2 rgE rb ib raw p w1 2 (im.set 1 v1) (listR (spanR p) (i - n1) (listR (spanR p) n1 c0).2).2 (listR (spanR p) (i - n1) (listR (spanR p) n1 c0).2).1 v2 wr)
section
variable {rb ib : Nat} {raw : Value} {p : Q} {w wr : World} {im : List Value} {n1 n2 i : Nat} {c0 : R}
theorem bus_turn (hl : im.length = 12) (hi2 : im[2]? = some (.slice none 0 0)) {r : R} {xs : List Rg} {v : Value} (h : Rd1 64 2 rgE rb ib raw p w 1 im r xs v wr) : OwnG 64 2 rgE wr w.heap.size v xs ∧ Keeps (fun k => k = rb ∨ k = ib) w wr ∧ Rd1 64 2 rgE rb ib raw p wr 2 (im.set 1 v) r [] (.slice none 0 0) wr :=
 ⟨h.row, h.fr, rd_start h.rk h.box (by rw [List.length_set]; omega) (by rw [List.getElem?_set_ne (by decide)]; exact hi2) h.ne (fun k e => Nat.lt_of_lt_of_le (h.rw' k e) h.size) h.rn⟩
theorem bus_norm (hl : im.length = 12) (hi2 : im[2]? = some (.slice none 0 0)) {v : Value} (hi : i ≤ n1) (h : Rd1 64 2 rgE rb ib raw p w 1 im (listR (spanR p) i c0).2 (listR (spanR p) i c0).1 v wr) : BusL rb ib raw p w im n1 c0 i wr := by
 by_cases e : i < n1
 ·exact .inl ⟨e, v, h⟩
 ·obtain rfl : i = n1 := by omega
  obtain ⟨h1, h2, h3⟩ := bus_turn hl hi2 h;exact .inr ⟨Nat.le_refl _, wr, v, _, h1, h2, by rw [Nat.sub_self]; exact h3⟩
theorem bus_end (hrb : rb < w.heap.size) (hib : ib < w.heap.size) {r : R} {ys : List Rg} {xs : List Rg} {w1 : World} {v1 v2 : Value} (h1 : OwnG 64 2 rgE w1 w.heap.size v1 xs) (h2 : Keeps (fun k => k = rb ∨ k = ib) w w1) (h : Rd1 64 2 rgE rb ib raw p w1 2 (im.set 1 v1) r ys v2 wr) : BusQ rb ib raw p w im ⟨xs, ys⟩ r wr := by
 obtain ⟨_, _, _, _, _, hj⟩ := h1.form;exact ⟨v1, v2, h.rk, h.box, h1.keeps h.fr (fun j e e2 => by have := (hj j e).1; omega), h.row.low h2.size, h2.trans h.fr (fun _ _ e => e)⟩
end
theorem dbusQ {rb ib : Nat} {raw : Value} {p : Q} {w : World} {r : R} {im : List Value} (h : Rk rb raw p w r w) (hbx : w.heap[ib]? = some (.cells im.toArray 33 (0, 0))) (hl : im.length = 12) (hi1 : im[1]? = some (.slice none 0 0)) (hi2 : im[2]? = some (.slice none 0 0)) (hne : ib ≠ rb) (hrw : ∀ k, raw.ownBlock = some k → k < w.heap.size) (hrn : raw.ownBlock ≠ some ib) : Calls Tryz.prog 70 #[.pointer (some ⟨rb, 0, none⟩), .pointer (some ⟨ib, 0, none⟩)] w fun e w' => e = .returned (.tuple #[]) ∧ BusQ rb ib raw p w im (busR p r).1 (busR p r).2 w' := by
 have h0 : Rd1 64 2 rgE rb ib raw p w 1 im r [] (.slice none 0 0) w := rd_start h hbx (by omega) hi1 hne hrw hrn;have hrb := h.lt;have hib := (Array.getElem?_eq_some_iff.1 hbx).1;obtain ⟨n1, ra, ea⟩ : ∃ v t, numR p 2 r = (v, t) := ⟨_, _, rfl⟩
 have Ka : Hid (∀ W, Rk rb raw p W r W → Calls Tryz.prog 106 #[.pointer (some ⟨rb, 0, none⟩), .int .i64 2] W fun e w' => e = .returned (.int .i64 (n1 : Nat)) ∧ Rk rb raw p W ra w') := fun W hW => by have h9 := dnum2Q hW; rw [ea] at h9; exact h9
 obtain ⟨n2, rbb, eb⟩ : ∃ v t, numR p 2 ra = (v, t) := ⟨_, _, rfl⟩
 have Kb : Hid (∀ W, Rk rb raw p W ra W → Calls Tryz.prog 106 #[.pointer (some ⟨rb, 0, none⟩), .int .i64 2] W fun e w' => e = .returned (.int .i64 (n2 : Nat)) ∧ Rk rb raw p W rbb w') := fun W hW => by have h9 := dnum2Q hW; rw [eb] at h9; exact h9
 obtain ⟨c0, ec⟩ : ∃ t, zerosR p 4 rbb = t := ⟨_, rfl⟩
 have Kc : Hid (∀ W, Rk rb raw p W rbb W → Calls Tryz.prog 108 #[.pointer (some ⟨rb, 0, none⟩), .int .i64 4] W fun e w' => e = .returned (.tuple #[]) ∧ Rk rb raw p W c0 w') := fun W hW => by have h9 := dzerosQ hW (n := 4) (by decide); rw [ec] at h9; exact h9
 have hn1 : n1 ≤ 65535 := by have h9 := numR_sm (p := p) h.sl 2 r; rw [ea] at h9; exact Nat.le_of_lt_succ h9
 have hn2 : n2 ≤ 65535 := by have h9 := numR_sm (p := p) h.sl 2 ra; rw [eb] at h9; exact Nat.le_of_lt_succ h9
 have HB : Hid (busR p r = (⟨(listR (spanR p) n1 c0).1, (listR (spanR p) n2 (listR (spanR p) n1 c0).2).1⟩, (listR (spanR p) n2 (listR (spanR p) n1 c0).2).2)) := show _ = _ by simp only [busR, ea, eb, ec]
 rw [HB.out];have HS0 := Lib.hid h0;have HI2 := Lib.hid hi2;have hw12 : IntKind.i64.wrap ((n1 : Int) + (n2 : Int)) = ((n1 + n2 : Nat) : Int) := by rw [IntKind.wrap_i64]; omega
 clear h h0 hbx hi1 ea eb ec HB hi2 hrw;go_enter Tryz.func70, Tryz.ntmps70
 go_wp2_with fail
 refine (Ka.out _ HS0.out.rk).mono ?_;rintro e w1 ⟨rfl, h1⟩;have HSa := Lib.hid (HS0.out.call h1);clear h1 HS0 Ka;go_wp2_with fail
 refine (Kb.out _ HSa.out.rk).mono ?_;rintro e w1 ⟨rfl, h1⟩;have HSb := Lib.hid (HSa.out.call h1);clear h1 HSa Kb;go_wp2_with fail
 refine (Kc.out _ HSb.out.rk).mono ?_;rintro e w1 ⟨rfl, h1⟩;have HSc := Lib.hid (HSb.out.call h1);clear h1 HSb Kc;go_wp2_with fail
 have H0 : Hid (BusL rb ib raw p w im n1 c0 0 _) := bus_norm hl HI2.out (Nat.zero_le _) HSc.out;clear HSc;go_loopw [6] (fun iv wr => ∃ i : Nat, i ≤ n1 + n2 ∧ iv = .int .i64 (i : Int) ∧ Hid (BusL rb ib raw p w im n1 c0 i wr)) (fun iv _ => n1 + n2 - (intOf iv).toNat)
 case atStart => exact ⟨0, Nat.zero_le _, rfl, H0⟩
 case round =>
  clear H0;obtain ⟨i, hi, rfl, HI⟩ := hrel;have hw1 : IntKind.i64.wrap ((i : Int) + 1) = ((i + 1 : Nat) : Int) := by rw [IntKind.wrap_i64]; omega
  rcases HI.out with ⟨hi1, v, h9⟩ | ⟨hi1, w1, v1, v, ho, hk, h9⟩
  ·have HStop := Lib.hid (listR_stop (spanR p) i c0);have HNext := Lib.hid (listR_next (spanR p) i c0);have HLen := Lib.hid (listR_len (spanR p) i c0);obtain ⟨⟨xs, rr⟩, hS⟩ : ∃ x, (listR (spanR p) i c0) = x := ⟨_, rfl⟩
   rw [hS] at h9 HStop HNext HLen;clear HI;have k3 := h9.rk.cell3;have H9 := Lib.hid h9;have HS := Lib.hid hS;clear h9 hS
   by_cases hb : rr.bad < 0
   ·have d3 : decide (rr.bad < 0) = true := decide_eq_true hb;have ji : (i : Int) < ((n1 + n2 : Nat) : Int) := by omega
    have HXl : Hid (xs.length ≤ 65535) := show _ ≤ _ by have := HLen.out; simp only at this; omega
    have HN : Hid (listR (spanR p) (i + 1) c0 = (xs ++ [(spanR p rr).1], (spanR p rr).2)) := HNext.out (show goR rr = true from decide_eq_true hb);clear HStop HNext HLen;obtain ⟨x0, t0, e0⟩ : ∃ v t, numR p 8 rr = (v, t) := ⟨_, _, rfl⟩
    have K0 : Hid (∀ W, Rk rb raw p W rr W → Calls Tryz.prog 107 #[.pointer (some ⟨rb, 0, none⟩)] W fun e w' => e = .returned (.int .u64 (x0 : Nat)) ∧ Rk rb raw p W t0 w') := fun W hW => by have h9 := dlongQ hW; rw [e0] at h9; exact h9
    obtain ⟨x1, t1, e1⟩ : ∃ v t, numR p 8 t0 = (v, t) := ⟨_, _, rfl⟩
    have K1 : Hid (∀ W, Rk rb raw p W t0 W → Calls Tryz.prog 107 #[.pointer (some ⟨rb, 0, none⟩)] W fun e w' => e = .returned (.int .u64 (x1 : Nat)) ∧ Rk rb raw p W t1 w') := fun W hW => by have h9 := dlongQ hW; rw [e1] at h9; exact h9
    have HE : spanR p rr = ((x0, x1), t1) := by simp only [spanR, e0, e1]
    rw [HE] at HN;clear HE e0 e1;go_wp2_with fail
    refine (K0.out _ H9.out.rk).mono ?_;rintro e w2 ⟨rfl, h8⟩;have G0 := Lib.hid (H9.out.call h8);clear h8 H9 K0 k3;have B0 := Lib.hid (G0.out.boxed [.int .u64 (x0 : Nat), .int .u64 0]);clear G0;go_wp2_with fail
    refine (K1.out _ B0.out.rd.rk).mono ?_;rintro e w3 ⟨rfl, h8⟩;have G1 := Lib.hid (B0.out.call h8);clear h8 B0 K1;have d1 := G1.out.cell 1;have f1 := G1.out.free 1;simp only [List.getElem?_cons_zero, List.getElem?_cons_succ] at d1;have B1 := Lib.hid (G1.out.set 1 (.int .u64 (x1 : Nat)));simp only [List.set_cons_zero, List.set_cons_succ] at B1;clear G1;have jr : (i : Int) < (n1 : Int) := by omega
    obtain ⟨va, vc, rfl, _⟩ := B1.out.rd.row.form;have a0 := B1.out.cell 0;have a1 := B1.out.cell 1;simp only [List.getElem?_cons_zero, List.getElem?_cons_succ, List.set_cons_zero, List.set_cons_succ] at a0 a1;have ic := B1.out.rd.ic (by (try simp only [List.length_set]); omega);have HA0 := Lib.hid (B1.out.rd.boxedAt [.int .u64 (x0 : Nat), .int .u64 (x1 : Nat)] (m := w3.heap.size) (by simp [World.setCell]));have ica := HA0.out.rd.ic (by (try simp only [List.length_set]); omega);have HAl := Lib.hid HA0.out.drew;clear B1 HA0;go_wp2_with fail
    go_region_law (first
     | (refine step_appG1 (enc := rgE) (x := ((x0, x1) : Rg)) (xs := xs) (by rfl) 23 64 (.tmp 42) (.tmp 44) rfl 2 16 _ Tryz.underlying23 infoRg (by decide) rfl (by decide) rg_ok (by rfl) HAl.out.rd.row (by rfl) HAl.out.bx (Nat.le_trans HXl.out (by decide)) HAl.out.rd.size ?_; intro vb vd w20 H20 HG20; have HF := Lib.hid (HAl.out.rd.grown HG20.out H20.out); have kc := box_cell (HAl.out.rd.kept HG20.out) 1; have kf := box_free (HAl.out.rd.kept HG20.out) 1; rw [List.getElem?_set_self (by (try simp only [List.length_set]); omega)] at kc; clear H20 HG20))
    all_goals
     clear HAl ic ica a0 a1;go_wp2_with fail
     go_roundw
     case rel => exact ⟨i + 1, by omega, rfl, bus_norm (v := _) hl HI2.out (by omega) (by rw [HN.out]; exact HF.out)⟩
     case measure => simp [intOf]; omega
   ·have d3 : decide (rr.bad < 0) = false := decide_eq_false hb;have ji : (i : Int) < ((n1 + n2 : Nat) : Int) := by omega
    have hg : ¬ goR rr = true := fun e => hb (of_decide_eq_true e);have HQ : Hid (BusQ rb ib raw p w im ⟨(listR (spanR p) n1 c0).1, (listR (spanR p) n2 (listR (spanR p) n1 c0).2).1⟩ (listR (spanR p) n2 (listR (spanR p) n1 c0).2).2 wr) := by
     obtain ⟨q1, q2, q3⟩ := bus_turn hl HI2.out H9.out;have e1 := HStop.out hg n1 (by omega);rw [e1, listR_stop (spanR p) 0 rr (show ¬ goR (listR (spanR p) 0 rr).2 = true from hg) n2 (Nat.zero_le _)];exact bus_end hrb hib q1 q2 q3
    clear H9 HStop HNext HLen HS;go_wp2_with fail
    go_end0
    exact ⟨rfl, HQ.out⟩
  ·have HStop := Lib.hid (listR_stop (spanR p) (i - n1) (listR (spanR p) n1 c0).2);have HNext := Lib.hid (listR_next (spanR p) (i - n1) (listR (spanR p) n1 c0).2);have HLen := Lib.hid (listR_len (spanR p) (i - n1) (listR (spanR p) n1 c0).2);have HO := Lib.hid ho;have HKp := Lib.hid hk;clear ho hk;obtain ⟨⟨xs, rr⟩, hS⟩ : ∃ x, (listR (spanR p) (i - n1) (listR (spanR p) n1 c0).2) = x := ⟨_, rfl⟩
   rw [hS] at h9 HStop HNext HLen;clear HI;have k3 := h9.rk.cell3;have H9 := Lib.hid h9;have HS := Lib.hid hS;clear h9 hS
   by_cases hb : rr.bad < 0
   ·have d3 : decide (rr.bad < 0) = true := decide_eq_true hb
    by_cases hin : i < n1 + n2
    ·skip
     have ji : (i : Int) < ((n1 + n2 : Nat) : Int) := by omega
     have HXl : Hid (xs.length ≤ 65535) := show _ ≤ _ by have := HLen.out; simp only at this; omega
     have HN : Hid (listR (spanR p) ((i - n1) + 1) (listR (spanR p) n1 c0).2 = (xs ++ [(spanR p rr).1], (spanR p rr).2)) := HNext.out (show goR rr = true from decide_eq_true hb);clear HStop HNext HLen;obtain ⟨x0, t0, e0⟩ : ∃ v t, numR p 8 rr = (v, t) := ⟨_, _, rfl⟩
     have K0 : Hid (∀ W, Rk rb raw p W rr W → Calls Tryz.prog 107 #[.pointer (some ⟨rb, 0, none⟩)] W fun e w' => e = .returned (.int .u64 (x0 : Nat)) ∧ Rk rb raw p W t0 w') := fun W hW => by have h9 := dlongQ hW; rw [e0] at h9; exact h9
     obtain ⟨x1, t1, e1⟩ : ∃ v t, numR p 8 t0 = (v, t) := ⟨_, _, rfl⟩
     have K1 : Hid (∀ W, Rk rb raw p W t0 W → Calls Tryz.prog 107 #[.pointer (some ⟨rb, 0, none⟩)] W fun e w' => e = .returned (.int .u64 (x1 : Nat)) ∧ Rk rb raw p W t1 w') := fun W hW => by have h9 := dlongQ hW; rw [e1] at h9; exact h9
     have HE : spanR p rr = ((x0, x1), t1) := by simp only [spanR, e0, e1]
     rw [HE] at HN;clear HE e0 e1;go_wp2_with fail
     refine (K0.out _ H9.out.rk).mono ?_;rintro e w2 ⟨rfl, h8⟩;have G0 := Lib.hid (H9.out.call h8);clear h8 H9 K0 k3;have B0 := Lib.hid (G0.out.boxed [.int .u64 (x0 : Nat), .int .u64 0]);clear G0;go_wp2_with fail
     refine (K1.out _ B0.out.rd.rk).mono ?_;rintro e w3 ⟨rfl, h8⟩;have G1 := Lib.hid (B0.out.call h8);clear h8 B0 K1;have d1 := G1.out.cell 1;have f1 := G1.out.free 1;simp only [List.getElem?_cons_zero, List.getElem?_cons_succ] at d1;have B1 := Lib.hid (G1.out.set 1 (.int .u64 (x1 : Nat)));simp only [List.set_cons_zero, List.set_cons_succ] at B1;clear G1;have jr : ¬ (i : Int) < (n1 : Int) := by omega
     obtain ⟨va, vc, rfl, _⟩ := B1.out.rd.row.form;have a0 := B1.out.cell 0;have a1 := B1.out.cell 1;simp only [List.getElem?_cons_zero, List.getElem?_cons_succ, List.set_cons_zero, List.set_cons_succ] at a0 a1;have ic := B1.out.rd.ic (by (try simp only [List.length_set]); omega);have HA0 := Lib.hid (B1.out.rd.boxedAt [.int .u64 (x0 : Nat), .int .u64 (x1 : Nat)] (m := w3.heap.size) (by simp [World.setCell]));have ica := HA0.out.rd.ic (by (try simp only [List.length_set]); omega);have HAl := Lib.hid HA0.out.drew;clear B1 HA0;go_wp2_with fail
     go_region_law (first
      | (refine step_appG1 (enc := rgE) (x := ((x0, x1) : Rg)) (xs := xs) (by rfl) 23 64 (.tmp 54) (.tmp 56) rfl 2 16 _ Tryz.underlying23 infoRg (by decide) rfl (by decide) rg_ok (by rfl) HAl.out.rd.row (by rfl) HAl.out.bx (Nat.le_trans HXl.out (by decide)) HAl.out.rd.size ?_; intro vb vd w20 H20 HG20; have HF := Lib.hid (HAl.out.rd.grown HG20.out H20.out); have kc := box_cell (HAl.out.rd.kept HG20.out) 2; have kf := box_free (HAl.out.rd.kept HG20.out) 2; rw [List.getElem?_set_self (by (try simp only [List.length_set]); omega)] at kc; clear H20 HG20))
     all_goals
      clear HAl ic ica a0 a1;go_wp2_with fail
      go_roundw
      case rel => exact ⟨i + 1, by omega, rfl, .inr ⟨by omega, w1, v1, _, HO.out, HKp.out, by rw [show i + 1 - n1 = i - n1 + 1 by omega, HN.out]; exact HF.out⟩⟩
      case measure => simp [intOf]; omega
    ·have ji : ¬ (i : Int) < ((n1 + n2 : Nat) : Int) := by omega
     have HQ : Hid (BusQ rb ib raw p w im ⟨(listR (spanR p) n1 c0).1, (listR (spanR p) n2 (listR (spanR p) n1 c0).2).1⟩ (listR (spanR p) n2 (listR (spanR p) n1 c0).2).2 wr) := by
      have e2 := HS.out;rw [show i - n1 = n2 by omega] at e2;rw [e2];exact bus_end hrb hib HO.out HKp.out H9.out
     clear H9 HStop HNext HLen HS HO HKp;go_wp2_with fail
     go_end0
     exact ⟨rfl, HQ.out⟩
   ·have d3 : decide (rr.bad < 0) = false := decide_eq_false hb;have hg : ¬ goR rr = true := fun e => hb (of_decide_eq_true e);have HQ : Hid (BusQ rb ib raw p w im ⟨(listR (spanR p) n1 c0).1, (listR (spanR p) n2 (listR (spanR p) n1 c0).2).1⟩ (listR (spanR p) n2 (listR (spanR p) n1 c0).2).2 wr) := by
     rw [HStop.out hg n2 (by omega)];exact bus_end hrb hib HO.out HKp.out H9.out
    by_cases hin : i < n1 + n2
    ·have ji : (i : Int) < ((n1 + n2 : Nat) : Int) := by omega
     clear H9 HStop HNext HLen HS HO HKp;go_wp2_with fail
     go_end0
     exact ⟨rfl, HQ.out⟩
    ·have ji : ¬ (i : Int) < ((n1 + n2 : Nat) : Int) := by omega
     clear H9 HStop HNext HLen HS HO HKp;go_wp2_with fail
     go_end0
     exact ⟨rfl, HQ.out⟩
end Go.Proofs.YtmfkggngjeolcaaGreatDoor
namespace Go.Proofs.YtmfkggngjeolcaaGreatDoor
open Go.RowKit Bn Dd
theorem dportsQ {rb ib : Nat} {raw : Value} {p : Q} {w : World} {r : R} {im : List Value} (h : Rk rb raw p w r w) (hbx : w.heap[ib]? = some (.cells im.toArray 33 (0, 0))) (hl : im.length = 12) (hi0 : im[4]? = some (.slice none 0 0)) {da : Option Addr} {dm dc : Nat} (hd : im[2]? = some (.slice da dm dc)) (hne : ib ≠ rb) (hrw : ∀ k, raw.ownBlock = some k → k < w.heap.size) (hrn : raw.ownBlock ≠ some ib) : Calls Tryz.prog 72 #[.pointer (some ⟨rb, 0, none⟩), .pointer (some ⟨ib, 0, none⟩)] w fun e w' => e = .returned (.tuple #[]) ∧ ∃ v, Rd1 68 1 poE rb ib raw p w 4 im (portsR p dm r).2 (portsR p dm r).1 v w' := by
 have h0 : Rd1 68 1 poE rb ib raw p w 4 im r [] (.slice none 0 0) w := rd_start h hbx (by omega) hi0 hne hrw hrn;have HI12 := hl;obtain ⟨n, ra, e0⟩ : ∃ v t, numR p 2 r = (v, t) := ⟨_, _, rfl⟩
 have K8 : Hid (∀ W, Rk rb raw p W r W → Calls Tryz.prog 106 #[.pointer (some ⟨rb, 0, none⟩), .int .i64 2] W fun e w' => e = .returned (.int .i64 (n : Nat)) ∧ Rk rb raw p W ra w') := fun W hW => by have h9 := dnum2Q hW; rw [e0] at h9; exact h9
 have hn : n ≤ 65535 := by have h9 := numR_lt h 2; rw [e0] at h9; exact Nat.le_of_lt_succ h9
 obtain ⟨rc, ec⟩ : ∃ t, (if ra.bad < 0 ∧ n ≠ dm then refR r.ps ra else ra) = t := ⟨_, rfl⟩
 obtain ⟨r1, ez⟩ : ∃ t, zerosR p 6 rc = t := ⟨_, rfl⟩
 have K9 : Hid (∀ W, Rk rb raw p W rc W → Calls Tryz.prog 108 #[.pointer (some ⟨rb, 0, none⟩), .int .i64 6] W fun e w' => e = .returned (.tuple #[]) ∧ Rk rb raw p W r1 w') := fun W hW => by have h9 := dzerosQ hW (n := 6) (by decide); rw [ez] at h9; exact h9
 have HPr : Hid (portsR p dm r = listR (portR p) n r1) := show _ = _ by simp only [portsR, e0, ec, ez]
 rw [HPr.out];obtain ⟨bb, hbb⟩ : ∃ bb, decide (ra.bad < 0 ∧ n ≠ dm) = bb := ⟨_, rfl⟩
 have HBB := Lib.hid hbb;have HEc := Lib.hid ec;have hps := h.le;have c1 := h.cell1;have HS0 := Lib.hid h0;clear h h0 hbx hi0 e0 ec ez hbb;go_enter Tryz.func72, Tryz.ntmps72
 go_wp2_with fail
 refine (K8.out _ HS0.out.rk).mono ?_;rintro e w1 ⟨rfl, h1⟩;have HSa := Lib.hid (HS0.out.call h1);clear h1 HS0 K8 c1;have k3 := HSa.out.rk.cell3;have k2 := HSa.out.io (j := 2) (by decide);rw [hd] at k2;go_upto_region 2 with fail
 go_cut [28] (fun y wx => y = .bool bb ∧ wx = w1)
 case first =>
  by_cases hb : ra.bad < 0
  ·have d3 : decide (ra.bad < 0) = true := decide_eq_true hb
   by_cases hnd : n = dm
   ·have d4 : ((n : Int) != (dm : Int)) = false := by rw [hnd]; simp
    go_wp2_with fail
    go_meet
    exact ⟨by rw [← HBB.out, decide_eq_false (show ¬ (ra.bad < 0 ∧ n ≠ dm) by omega)], rfl⟩
   ·have d4 : ((n : Int) != (dm : Int)) = true := by simp; omega
    go_wp2_with fail
    go_meet
    exact ⟨by rw [← HBB.out, decide_eq_true (show (ra.bad < 0 ∧ n ≠ dm) by omega)], rfl⟩
  ·have d3 : decide (ra.bad < 0) = false := decide_eq_false hb;go_wp2_with fail
   go_meet
   exact ⟨by rw [← HBB.out, decide_eq_false (show ¬ (ra.bad < 0 ∧ n ≠ dm) by omega)], rfl⟩
 case rest =>
 obtain ⟨rfl, hw9⟩ := hcut;subst hw9;clear k3 k2;go_upto_if 28 with fail
 go_cut [] (fun wx => Hid (Rd1 68 1 poE rb ib raw p w 4 im rc [] (.slice none 0 0) wx))
 case first =>
  cases bb with
  | true =>
   have HX : Hid (rc = refR r.ps ra) := show _ = _ by rw [← HEc.out, if_pos (of_decide_eq_true HBB.out)]
   have HRf := Lib.hid (drefuseQ HSa.out.rk (a := r.ps) hps);go_wp2_with fail
   refine HRf.out.mono ?_;rintro e w2 ⟨rfl, h2⟩;have H2 := Lib.hid (HSa.out.call h2);clear h2 HRf;go_wp2_with fail
   go_meet
   exact (by rw [HX.out]; exact H2)
  | false =>
   have HX : Hid (rc = ra) := show _ = _ by rw [← HEc.out, if_neg (of_decide_eq_false HBB.out)]
   go_wp2_with fail
   go_meet
   exact (by rw [HX.out]; exact HSa)
 case rest =>
 clear HSa HBB HEc;go_wp2_with fail
 refine (K9.out _ hcut.out.rk).mono ?_;rintro e w3 ⟨rfl, h3⟩;have HS1 := Lib.hid (hcut.out.call h3);clear h3 hcut K9;go_wp2_with fail
 have H0 : Hid (∃ v, Rd1 68 1 poE rb ib raw p w 4 im (listR (portR p) 0 r1).2 (listR (portR p) 0 r1).1 v _) := ⟨_, HS1.out⟩
 clear HS1;go_loopw [6] (fun iv wr => ∃ i : Nat, i ≤ n ∧ iv = .int .i64 (i : Int) ∧ Hid (∃ v, Rd1 68 1 poE rb ib raw p w 4 im (listR (portR p) i r1).2 (listR (portR p) i r1).1 v wr)) (fun iv _ => n - (intOf iv).toNat)
 case atStart => exact ⟨0, Nat.zero_le _, rfl, H0⟩
 case round =>
  clear H0;obtain ⟨i, hi, rfl, HI⟩ := hrel;obtain ⟨v, h9⟩ := HI.out;have HStop := Lib.hid (listR_stop (portR p) i r1);have HNext := Lib.hid (listR_next (portR p) i r1);have HLen := Lib.hid (listR_len (portR p) i r1);obtain ⟨⟨xs, rr⟩, hS⟩ : ∃ x, listR (portR p) i r1 = x := ⟨_, rfl⟩
  rw [hS] at h9 HStop HNext HLen;clear HI;have k3 := h9.rk.cell3;have H9 := Lib.hid h9
  by_cases hb : rr.bad < 0
  ·have d3 : decide (rr.bad < 0) = true := decide_eq_true hb
   by_cases hin : i < n
   ·have ji : (i : Int) < (n : Int) := by omega
    have hw1 : IntKind.i64.wrap ((i : Int) + 1) = ((i + 1 : Nat) : Int) := by rw [IntKind.wrap_i64]; omega
    have HXl : Hid (xs.length ≤ 65535) := show _ ≤ _ by have := HLen.out; simp only at this; omega
    have HN : Hid (listR (portR p) (i + 1) r1 = (xs ++ [(portR p rr).1], (portR p rr).2)) := HNext.out (show goR rr = true from decide_eq_true hb);clear HStop HNext HLen h9 hS;obtain ⟨x0, t0, e0⟩ : ∃ v t, noneR p rr = (v, t) := ⟨_, _, rfl⟩
    have K0 : Hid (∀ W, Rk rb raw p W rr W → Calls Tryz.prog 111 #[.pointer (some ⟨rb, 0, none⟩)] W fun e w' => e = .returned (.int .i64 x0) ∧ Rk rb raw p W t0 w') := fun W hW => by have h9 := dnoneQ hW; rw [e0] at h9; exact h9
    obtain ⟨t1, e1⟩ : ∃ t, zerosR p 6 t0 = t := ⟨_, rfl⟩
    have K1 : Hid (∀ W, Rk rb raw p W t0 W → Calls Tryz.prog 108 #[.pointer (some ⟨rb, 0, none⟩), .int .i64 6] W fun e w' => e = .returned (.tuple #[]) ∧ Rk rb raw p W t1 w') := fun W hW => by have h9 := dzerosQ hW (n := 6) (by decide); rw [e1] at h9; exact h9
    have HE : portR p rr = (x0, t1) := by simp only [portR, e0, e1]
    rw [HE] at HN;clear HE e0 e1;go_wp2_with fail
    refine (K0.out _ H9.out.rk).mono ?_;rintro e w2 ⟨rfl, h8⟩;have G0 := Lib.hid (H9.out.call h8);clear h8 H9 K0 k3;have B0 := Lib.hid (G0.out.boxed [.int .i64 x0]);clear G0;go_wp2_with fail
    refine (K1.out _ B0.out.rd.rk).mono ?_;rintro e w3 ⟨rfl, h8⟩;have G1 := Lib.hid (B0.out.call h8);clear h8 B0 K1;obtain ⟨va, vc, rfl, _⟩ := G1.out.rd.row.form;have a0 := G1.out.cell 0;simp only [List.getElem?_cons_zero, List.getElem?_cons_succ, List.set_cons_zero, List.set_cons_succ] at a0;have ic := G1.out.rd.ic (by omega)
    skip
    have HA0 := Lib.hid (G1.out.rd.boxed [.int .i64 x0]);have ica := HA0.out.rd.ic (by omega);have HAl := Lib.hid HA0.out.drew;clear G1 HA0;go_wp2_with fail
    go_region_law (first
     | (refine step_appG1 (enc := poE) (x := x0) (xs := xs) (by rfl) 27 68 (.tmp 55) (.tmp 57) rfl 1 8 _ Tryz.underlying27 infoPo (by decide) rfl (by decide) po_ok (by rfl) HAl.out.rd.row (by rfl) HAl.out.bx (Nat.le_trans HXl.out (by decide)) HAl.out.rd.size ?_; intro vb vd w20 H20 HG20; have HF := Lib.hid (HAl.out.rd.grown HG20.out H20.out); have kc := box_cell (HAl.out.rd.kept HG20.out) 4; have kf := box_free (HAl.out.rd.kept HG20.out) 4; rw [List.getElem?_set_self (show 4 < im.length by omega)] at kc; clear H20 HG20))
    all_goals
     clear HAl ic ica a0;go_wp2_with fail
     go_roundw
     case rel => exact ⟨i + 1, by omega, rfl, _, by rw [HN.out]; exact HF.out⟩
     case measure => simp [intOf]; omega
   ·have ji : ¬ (i : Int) < (n : Int) := by omega
    have HQ : Hid (∃ v, Rd1 68 1 poE rb ib raw p w 4 im (listR (portR p) n r1).2 (listR (portR p) n r1).1 v wr) := ⟨v, by rw [show n = i by omega, hS]; exact H9.out⟩
    clear H9 HNext HStop HLen h9;go_wp2_with fail
    go_end0
    exact ⟨rfl, HQ.out⟩
  ·have d3 : decide (rr.bad < 0) = false := decide_eq_false hb;have HSt := Lib.hid (HStop.out (show ¬ goR rr = true from fun e => hb (of_decide_eq_true e)) n hi)
   by_cases hin : i < n
   ·have ji : (i : Int) < (n : Int) := by omega
    have HQ : Hid (∃ v, Rd1 68 1 poE rb ib raw p w 4 im (listR (portR p) n r1).2 (listR (portR p) n r1).1 v wr) := ⟨v, by rw [HSt.out]; exact H9.out⟩
    clear H9 HNext HStop HLen h9;go_wp2_with fail
    go_end0
    exact ⟨rfl, HQ.out⟩
   ·have ji : ¬ (i : Int) < (n : Int) := by omega
    have HQ : Hid (∃ v, Rd1 68 1 poE rb ib raw p w 4 im (listR (portR p) n r1).2 (listR (portR p) n r1).1 v wr) := ⟨v, by rw [HSt.out]; exact H9.out⟩
    clear H9 HNext HStop HLen h9;go_wp2_with fail
    go_end0
    exact ⟨rfl, HQ.out⟩
end Go.Proofs.YtmfkggngjeolcaaGreatDoor
namespace Go.Proofs.YtmfkggngjeolcaaGreatDoor
open Go.RowKit Bn Dd
theorem dregionsQ {rb ib : Nat} {raw : Value} {p : Q} {w : World} {r : R} {im : List Value} (h : Rk rb raw p w r w) (hbx : w.heap[ib]? = some (.cells im.toArray 33 (0, 0))) (hl : im.length = 12) (hi0 : im[5]? = some (.slice none 0 0)) (hne : ib ≠ rb) (hrw : ∀ k, raw.ownBlock = some k → k < w.heap.size) (hrn : raw.ownBlock ≠ some ib) : Calls Tryz.prog 73 #[.pointer (some ⟨rb, 0, none⟩), .pointer (some ⟨ib, 0, none⟩)] w fun e w' => e = .returned (.tuple #[]) ∧ ∃ v, Rd1 70 4 gdE rb ib raw p w 5 im (listR (gdR p) (manyR p r).1 (manyR p r).2).2 (listR (gdR p) (manyR p r).1 (manyR p r).2).1 v w' := by
 have h0 : Rd1 70 4 gdE rb ib raw p w 5 im r [] (.slice none 0 0) w := rd_start h hbx (by omega) hi0 hne hrw hrn;have HI12 := hl;obtain ⟨n, r1, e0⟩ : ∃ v t, manyR p r = (v, t) := ⟨_, _, rfl⟩
 have KC : Hid (∀ W, Rk rb raw p W r W → Calls Tryz.prog 109 #[.pointer (some ⟨rb, 0, none⟩)] W fun e w' => e = .returned (.int .i64 (n : Nat)) ∧ Rk rb raw p W r1 w') := fun W hW => by have h9 := dcountQ hW; rw [e0] at h9; exact h9
 have hn : n ≤ 65535 := by have h9 := numR_lt h 2; rw [show (numR p 2 r).1 = (manyR p r).1 from rfl, e0] at h9; exact Nat.le_of_lt_succ h9
 have HFn : Hid ((manyR p r).1 = n ∧ (manyR p r).2 = r1) := ⟨by rw [e0], by rw [e0]⟩
 rw [HFn.out.1, HFn.out.2];have HS0 := Lib.hid h0;clear h h0 hbx hi0 e0 HFn;go_enter Tryz.func73, Tryz.ntmps73
 go_wp2_with fail
 refine (KC.out _ HS0.out.rk).mono ?_;rintro e w1 ⟨rfl, h1⟩;have HS1 := Lib.hid (HS0.out.call h1);clear h1 HS0 KC;go_wp2_with fail
 have H0 : Hid (∃ v, Rd1 70 4 gdE rb ib raw p w 5 im (listR (gdR p) 0 r1).2 (listR (gdR p) 0 r1).1 v _) := ⟨_, HS1.out⟩
 clear HS1;go_loopw [5] (fun iv wr => ∃ i : Nat, i ≤ n ∧ iv = .int .i64 (i : Int) ∧ Hid (∃ v, Rd1 70 4 gdE rb ib raw p w 5 im (listR (gdR p) i r1).2 (listR (gdR p) i r1).1 v wr)) (fun iv _ => n - (intOf iv).toNat)
 case atStart => exact ⟨0, Nat.zero_le _, rfl, H0⟩
 case round =>
  clear H0;obtain ⟨i, hi, rfl, HI⟩ := hrel;obtain ⟨v, h9⟩ := HI.out;have HStop := Lib.hid (listR_stop (gdR p) i r1);have HNext := Lib.hid (listR_next (gdR p) i r1);have HLen := Lib.hid (listR_len (gdR p) i r1);obtain ⟨⟨xs, rr⟩, hS⟩ : ∃ x, listR (gdR p) i r1 = x := ⟨_, rfl⟩
  rw [hS] at h9 HStop HNext HLen;clear HI;have k3 := h9.rk.cell3;have H9 := Lib.hid h9
  by_cases hb : rr.bad < 0
  ·have d3 : decide (rr.bad < 0) = true := decide_eq_true hb
   by_cases hin : i < n
   ·have ji : (i : Int) < (n : Int) := by omega
    have hw1 : IntKind.i64.wrap ((i : Int) + 1) = ((i + 1 : Nat) : Int) := by rw [IntKind.wrap_i64]; omega
    have HXl : Hid (xs.length ≤ 65535) := show _ ≤ _ by have := HLen.out; simp only at this; omega
    have HN : Hid (listR (gdR p) (i + 1) r1 = (xs ++ [(gdR p rr).1], (gdR p rr).2)) := HNext.out (show goR rr = true from decide_eq_true hb);clear HStop HNext HLen h9 hS;obtain ⟨x0, t0, e0⟩ : ∃ v t, numR p 8 rr = (v, t) := ⟨_, _, rfl⟩
    have K0 : Hid (∀ W, Rk rb raw p W rr W → Calls Tryz.prog 107 #[.pointer (some ⟨rb, 0, none⟩)] W fun e w' => e = .returned (.int .u64 (x0 : Nat)) ∧ Rk rb raw p W t0 w') := fun W hW => by have h9 := dlongQ hW; rw [e0] at h9; exact h9
    obtain ⟨x1, t1, e1⟩ : ∃ v t, numR p 8 t0 = (v, t) := ⟨_, _, rfl⟩
    have K1 : Hid (∀ W, Rk rb raw p W t0 W → Calls Tryz.prog 107 #[.pointer (some ⟨rb, 0, none⟩)] W fun e w' => e = .returned (.int .u64 (x1 : Nat)) ∧ Rk rb raw p W t1 w') := fun W hW => by have h9 := dlongQ hW; rw [e1] at h9; exact h9
    obtain ⟨x2, t2, e2⟩ : ∃ v t, numR p 1 t1 = (v, t) := ⟨_, _, rfl⟩
    have K2 : Hid (∀ W, Rk rb raw p W t1 W → Calls Tryz.prog 106 #[.pointer (some ⟨rb, 0, none⟩), .int .i64 1] W fun e w' => e = .returned (.int .i64 (x2 : Nat)) ∧ Rk rb raw p W t2 w') := fun W hW => by have h9 := dnum1Q hW; rw [e2] at h9; exact h9
    obtain ⟨t3, e3⟩ : ∃ t, zerosR p 3 t2 = t := ⟨_, rfl⟩
    have K3 : Hid (∀ W, Rk rb raw p W t2 W → Calls Tryz.prog 108 #[.pointer (some ⟨rb, 0, none⟩), .int .i64 3] W fun e w' => e = .returned (.tuple #[]) ∧ Rk rb raw p W t3 w') := fun W hW => by have h9 := dzerosQ hW (n := 3) (by decide); rw [e3] at h9; exact h9
    have hx2 : x2 < 256 := by have h9 := numR_sm (p := p) H9.out.rk.sl 1 t1; rw [e2] at h9; exact h9
    have hwu : IntKind.u8.wrap (x2 : Int) = (x2 : Int) := by rw [IntKind.wrap_u8]; omega
    obtain ⟨x5, t5, e5⟩ : ∃ v t, numR p 4 t3 = (v, t) := ⟨_, _, rfl⟩
    have K5 : Hid (∀ W, Rk rb raw p W t3 W → Calls Tryz.prog 106 #[.pointer (some ⟨rb, 0, none⟩), .int .i64 4] W fun e w' => e = .returned (.int .i64 (x5 : Nat)) ∧ Rk rb raw p W t5 w') := fun W hW => by have h9 := dnum4Q hW; rw [e5] at h9; exact h9
    have hx4 : x5 < 4294967296 := by have h9 := numR_sm (p := p) H9.out.rk.sl 4 t3; rw [e5] at h9; exact h9
    obtain ⟨t6, e6⟩ : ∃ t, longR p t3.ps x5 t5 = t := ⟨_, rfl⟩
    obtain ⟨x6, t7, e7⟩ : ∃ v t, cutR p x5 t6 = (v, t) := ⟨_, _, rfl⟩
    obtain ⟨pz, hpz⟩ : ∃ pz, (8 - x5 % 8) % 8 = pz := ⟨_, rfl⟩
    have hpz7 : pz ≤ 7 := by omega
    obtain ⟨t8, e8⟩ : ∃ t, zerosR p pz t7 = t := ⟨_, rfl⟩
    have K8 : Hid (∀ W, Rk rb raw p W t7 W → Calls Tryz.prog 108 #[.pointer (some ⟨rb, 0, none⟩), .int .i64 (pz : Int)] W fun e w' => e = .returned (.tuple #[]) ∧ Rk rb raw p W t8 w') := fun W hW => by have h9 := dzerosQ hW (n := pz) (by omega); rw [e8] at h9; exact h9
    have HE6 := Lib.hid e6;have HE7 := Lib.hid e7;have hm1 : ∃ r : Nat, Int.tmod (x5 : Int) 8 = (r : Int) ∧ r = x5 % 8 := ⟨x5 % 8, rfl, rfl⟩
    obtain ⟨rm, hm1, hrm⟩ := hm1;have hrm8 : rm < 8 := by omega
    have hm2 : IntKind.i64.wrap (8 - (rm : Int)) = ((8 - rm : Nat) : Int) := by rw [IntKind.wrap_i64]; omega
    obtain ⟨um, hum⟩ : ∃ u, 8 - rm = u := ⟨_, rfl⟩
    rw [hum] at hm2;have hm3 : Int.tmod (um : Int) 8 = (pz : Int) := by rw [show pz = um % 8 by omega]; rfl
    have HM := Lib.hid hpz7;have HE : gdR p rr = ((⟨x0, x1, x2, x6⟩ : Gd), t8) := by simp only [gdR, textR, e0, e1, e2, e3, e5, e6, e7, hpz, e8]
    rw [HE] at HN;clear HE e0 e1 e2 e3 e5 e6 e7 hpz e8;go_wp2_with fail
    refine (K0.out _ H9.out.rk).mono ?_;rintro e w2 ⟨rfl, h8⟩;have G0 := Lib.hid (H9.out.call h8);clear h8 H9 K0 k3;have B0 := Lib.hid (G0.out.boxed [.int .u64 (x0 : Nat), .int .u64 0, .int .u8 0, .string ⟨#[]⟩]);clear G0;go_wp2_with fail
    refine (K1.out _ B0.out.rd.rk).mono ?_;rintro e w3 ⟨rfl, h8⟩;have G1 := Lib.hid (B0.out.call h8);clear h8 B0 K1;have d1 := G1.out.cell 1;have f1 := G1.out.free 1;simp only [List.getElem?_cons_zero, List.getElem?_cons_succ, List.set_cons_zero, List.set_cons_succ] at d1;have B1 := Lib.hid (G1.out.set 1 (.int .u64 (x1 : Nat)));simp only [List.set_cons_zero, List.set_cons_succ] at B1;clear G1;go_wp2_with fail
    refine (K2.out _ B1.out.rd.rk).mono ?_;rintro e w4 ⟨rfl, h8⟩;have G2 := Lib.hid (B1.out.call h8);clear h8 B1 K2;have d2 := G2.out.cell 2;have f2 := G2.out.free 2;simp only [List.getElem?_cons_zero, List.getElem?_cons_succ, List.set_cons_zero, List.set_cons_succ] at d2;have B2 := Lib.hid (G2.out.set 2 (.int .u8 (x2 : Nat)));simp only [List.set_cons_zero, List.set_cons_succ] at B2;clear G2;go_wp2_with fail
    refine (K3.out _ B2.out.rd.rk).mono ?_;rintro e w5 ⟨rfl, h8⟩;have G3 := Lib.hid (B2.out.call h8);clear h8 B2 K3;have k1 := G3.out.rd.rk.cell1;have HP3 := Lib.hid G3.out.rd.rk.le;go_wp2_with fail
    refine (K5.out _ G3.out.rd.rk).mono ?_;rintro e w7 ⟨rfl, h8⟩;have G5 := Lib.hid (G3.out.call h8);clear h8 G3 K5;clear k1 hrm hum hpz7;have k1 := G5.out.rd.rk.cell1;have k2 := G5.out.rd.rk.cell2;have k3 := G5.out.rd.rk.cell3;have hle := G5.out.rd.rk.le;have hen := G5.out.rd.rk.en;have hsz := G5.out.rd.rk.sz;have hws : IntKind.i64.wrap ((p.en : Int) - (t5.ps : Int)) = ((p.en - t5.ps : Nat) : Int) := by rw [IntKind.wrap_i64]; omega
    have HGe := Lib.hid (show t5.ps ≤ p.en ∧ p.en ≤ p.bs.length ∧ p.bs.length ≤ 1099511627776 from ⟨hle, hen, hsz⟩);obtain ⟨bb, hbb⟩ : ∃ bb, decide (t5.bad < 0 ∧ (1048576 < x5 ∨ p.en < t5.ps + x5)) = bb := ⟨_, rfl⟩
    have HBB := Lib.hid hbb;clear hbb;go_upto_region 10 with fail
    go_cut [62] from 11 to 112 (fun y wx => y = .bool bb ∧ Hid (Bx1 70 4 gdE rb ib raw p w 5 im t5 xs v [.int .u64 (x0 : Nat), .int .u64 (x1 : Nat), .int .u8 (x2 : Nat), .string ⟨#[]⟩] w2.heap.size wx))
    case first =>
     by_cases hb5 : t5.bad < 0
     ·have d5 : decide (t5.bad < 0) = true := decide_eq_true hb5
      by_cases hk5 : 1048576 < x5
      ·have d6 : decide ((x5 : Int) > 1048576) = true := decide_eq_true (by omega);have d6n : decide (1048576 < x5) = true := decide_eq_true hk5;go_quiet (fail)
       go_wp2_with fail
       go_meet
       exact ⟨by rw [← HBB.out, decide_eq_true (show (t5.bad < 0 ∧ (1048576 < x5 ∨ p.en < t5.ps + x5)) by omega)], G5.out.below ⟨rfl, rfl, rfl, Nat.le_refl _, fun _ _ => rfl⟩⟩
      ·have d6 : decide ((x5 : Int) > 1048576) = false := decide_eq_false (by omega);have d6n : decide (1048576 < x5) = false := decide_eq_false hk5
       by_cases hk6 : p.en < t5.ps + x5
       ·have d7 : decide ((x5 : Int) > ((p.en - t5.ps : Nat) : Int)) = true := decide_eq_true (by omega);have d7n : decide (p.en - t5.ps < x5) = true := decide_eq_true (by omega);go_quiet (fail)
        go_wp2_with fail
        go_meet
        exact ⟨by rw [← HBB.out, decide_eq_true (show (t5.bad < 0 ∧ (1048576 < x5 ∨ p.en < t5.ps + x5)) by omega)], G5.out.below ⟨rfl, rfl, rfl, Nat.le_refl _, fun _ _ => rfl⟩⟩
       ·have d7 : decide ((x5 : Int) > ((p.en - t5.ps : Nat) : Int)) = false := decide_eq_false (by omega);have d7n : decide (p.en - t5.ps < x5) = false := decide_eq_false (by omega);go_quiet (fail)
        go_wp2_with fail
        go_meet
        exact ⟨by rw [← HBB.out, decide_eq_false (show ¬ (t5.bad < 0 ∧ (1048576 < x5 ∨ p.en < t5.ps + x5)) by omega)], G5.out.below ⟨rfl, rfl, rfl, Nat.le_refl _, fun _ _ => rfl⟩⟩
     ·have d5 : decide (t5.bad < 0) = false := decide_eq_false hb5;go_quiet (fail)
      go_wp2_with fail
      go_meet
      exact ⟨by rw [← HBB.out, decide_eq_false (show ¬ (t5.bad < 0 ∧ (1048576 < x5 ∨ p.en < t5.ps + x5)) by omega)], G5.out.below ⟨rfl, rfl, rfl, Nat.le_refl _, fun _ _ => rfl⟩⟩
    case rest =>
    obtain ⟨rfl, HC1⟩ := hcut;clear G5 k1 k2 k3 hle hen hsz hws;go_upto_if 62 with fail
    go_cut [] from 11 to 112 (fun wx => Hid (Bx1 70 4 gdE rb ib raw p w 5 im t6 xs v [.int .u64 (x0 : Nat), .int .u64 (x1 : Nat), .int .u8 (x2 : Nat), .string ⟨#[]⟩] w2.heap.size wx))
    case first =>
     cases bb with
     | true =>
      have HX : Hid (t6 = refR t3.ps t5) := show _ = _ by rw [← HE6.out, longR, if_pos (of_decide_eq_true HBB.out)]
      have HRf := Lib.hid (drefuseQ HC1.out.rd.rk (a := t3.ps) (by have := HP3.out; omega));go_wp2_with fail
      refine HRf.out.mono ?_;rintro e wr2 ⟨rfl, h2⟩;have H2 := Lib.hid (HC1.out.call h2);clear h2 HRf;go_wp2_with fail
      go_meet
      exact (by rw [HX.out]; exact H2)
     | false =>
      have HX : Hid (t6 = t5) := show _ = _ by rw [← HE6.out, longR, if_neg (of_decide_eq_false HBB.out)]
      go_wp2_with fail
      go_meet
      exact (by rw [HX.out]; exact HC1)
    case rest =>
    have HC2 := hcut;clear hcut HC1;have k3 := HC2.out.rd.rk.cell3;go_upto_if 70 with fail
    go_cut [] from 11 to 112 (fun wx => Hid (Bx1 70 4 gdE rb ib raw p w 5 im t7 xs v [.int .u64 (x0 : Nat), .int .u64 (x1 : Nat), .int .u8 (x2 : Nat), .string x6] w2.heap.size wx))
    case first =>
     by_cases hb6 : t6.bad < 0
     ·have d6 : decide (t6.bad < 0) = true := decide_eq_true hb6;have HX : Hid (x6 = mkS ((p.bs.drop t6.ps).take x5) ∧ t7 = ⟨t6.ps + x5, t6.bad⟩) := by have h9 := HE7.out; rw [cutR, if_pos hb6] at h9; cases h9; exact ⟨rfl, rfl⟩
      have HY : Hid (x5 ≤ 1048576 ∧ t6.ps + x5 ≤ p.en) := longR_go HE6.out hb6 HGe.out.1;have k0 := HC2.out.rd.rk.cell0;have k1 := HC2.out.rd.rk.cell1;obtain ⟨ao, cap, rfl, q1, q2, q3, q4, q5⟩ := id HC2.out.rd.rk.sl;unfold maxLen at q2;have hY1 := HY.out.1;have hY2 := HY.out.2;have hG2 := HGe.out.2.1;have hG3 := HGe.out.2.2;have hwa : IntKind.i64.wrap ((t6.ps : Int) + (x5 : Int)) = ((t6.ps + x5 : Nat) : Int) := by rw [IntKind.wrap_i64]; omega
      have d3 := HC2.out.cell 3;have f3 := HC2.out.free 3;simp only [List.getElem?_cons_zero, List.getElem?_cons_succ] at d3;have f1 := HC2.out.rd.rk.free 1;obtain ⟨hx6, ht7⟩ := HX.out;subst hx6 ht7;have HTx : Hid (Bx1 70 4 gdE rb ib (.slice ao p.bs.length cap) p w 5 im ⟨t6.ps + x5, t6.bad⟩ xs v [.int .u64 (x0 : Nat), .int .u64 (x1 : Nat), .int .u8 (x2 : Nat), .string (mkS ((p.bs.drop t6.ps).take x5))] w2.heap.size ((wc.drew.setCell ⟨w2.heap.size, 3, none⟩ (.string (mkS ((p.bs.drop t6.ps).take x5)))).setCell ⟨rb, 1, none⟩ (.int .i64 ((t6.ps + x5 : Nat) : Int)))) := by
       have h8 := HC2.out.drew.set 3 (.string (mkS ((p.bs.drop t6.ps).take x5)));exact h8.call (h8.rd.rk.setAt hY2)
      have hsl := text_sl (HC2.out.drew.rd.rk.sl) (show t6.ps + x5 ≤ p.bs.length by omega);have hbbn : t6.ps + x5 ≤ cap := by omega
      have hk1 : ¬ rb = w2.heap.size := fun e => by have h7 := HC2.out.hm; have h8 := HC2.out.rd.lt.1; omega
      clear HX HY HE6 HE7 HGe HBB HC2 q3 q4 q5 hx4 hm1 hm2 hm3
      skip
      by_cases hcp : cap = t6.ps
      ·rw [if_pos hcp, hcp, Nat.sub_self] at hsl;have hcv := conv_str hsl;have hcw := hcv;rw [Nat.add_sub_cancel_left] at hcw;clear hsl;go_wp2_with fail
       go_region
       all_goals
        go_wp2_with fail
        go_meet
        exact HTx.out
      ·rw [if_neg hcp] at hsl;have hcv := conv_str hsl;have hcw := hcv;rw [Nat.add_sub_cancel_left] at hcw;clear hsl;go_wp2_with fail
       go_region
       all_goals
        go_wp2_with fail
        go_meet
        exact HTx.out
     ·have d6 : decide (t6.bad < 0) = false := decide_eq_false hb6;have HX : Hid (x6 = mkS [] ∧ t7 = t6) := by have h9 := HE7.out; rw [cutR, if_neg hb6] at h9; cases h9; exact ⟨rfl, rfl⟩
      obtain ⟨hx6, ht7⟩ := HX.out;subst hx6 ht7;go_wp2_with fail
      go_meet
      exact HC2
    case rest =>
    have HC3 := hcut;clear hcut HC2 k3 HBB HE6 HE7 HGe;go_wp2_with fail
    refine (K8.out _ HC3.out.rd.rk).mono ?_;rintro e w20 ⟨rfl, h8⟩;have G8 := Lib.hid (HC3.out.call h8);clear h8 HC3 K8;obtain ⟨va, vc, rfl, _⟩ := G8.out.rd.row.form;have a0 := G8.out.cell 0;have a1 := G8.out.cell 1;have a2 := G8.out.cell 2;have a3 := G8.out.cell 3;simp only [List.getElem?_cons_zero, List.getElem?_cons_succ, List.set_cons_zero, List.set_cons_succ] at a0 a1 a2 a3;have ic := G8.out.rd.ic (by omega)
    skip
    have HA0 := Lib.hid (G8.out.rd.boxed [.int .u64 (x0 : Nat), .int .u64 (x1 : Nat), .int .u8 (x2 : Nat), .string x6]);have ica := HA0.out.rd.ic (by omega);have HAl := Lib.hid HA0.out.drew;clear G8 HA0;go_wp2_with fail
    go_region_law (first
     | (refine step_appG1 (enc := gdE) (x := (⟨x0, x1, x2, x6⟩ : Gd)) (xs := xs) (by rfl) 28 70 (.tmp 107) (.tmp 109) rfl 4 40 _ Tryz.underlying28 infoGd (by decide) rfl (by decide) gd_ok (by rfl) HAl.out.rd.row (by rfl) HAl.out.bx (Nat.le_trans HXl.out (by decide)) HAl.out.rd.size ?_; intro vb vd w20 H20 HG20; have HF := Lib.hid (HAl.out.rd.grown HG20.out H20.out); have kc := box_cell (HAl.out.rd.kept HG20.out) 5; have kf := box_free (HAl.out.rd.kept HG20.out) 5; rw [List.getElem?_set_self (show 5 < im.length by omega)] at kc; clear H20 HG20))
    all_goals
     clear HAl ic ica a0 a1 a2 a3;go_wp2_with fail
     go_roundw
     case rel => exact ⟨i + 1, by omega, rfl, _, by rw [HN.out]; exact HF.out⟩
     case measure => simp [intOf]; omega
   ·have ji : ¬ (i : Int) < (n : Int) := by omega
    have HQ : Hid (∃ v, Rd1 70 4 gdE rb ib raw p w 5 im (listR (gdR p) n r1).2 (listR (gdR p) n r1).1 v wr) := ⟨v, by rw [show n = i by omega, hS]; exact H9.out⟩
    clear H9 HNext HStop HLen h9;go_wp2_with fail
    go_end0
    exact ⟨rfl, HQ.out⟩
  ·have d3 : decide (rr.bad < 0) = false := decide_eq_false hb;have HSt := Lib.hid (HStop.out (show ¬ goR rr = true from fun e => hb (of_decide_eq_true e)) n hi)
   by_cases hin : i < n
   ·have ji : (i : Int) < (n : Int) := by omega
    have HQ : Hid (∃ v, Rd1 70 4 gdE rb ib raw p w 5 im (listR (gdR p) n r1).2 (listR (gdR p) n r1).1 v wr) := ⟨v, by rw [HSt.out]; exact H9.out⟩
    clear H9 HNext HStop HLen h9;go_wp2_with fail
    go_end0
    exact ⟨rfl, HQ.out⟩
   ·have ji : ¬ (i : Int) < (n : Int) := by omega
    have HQ : Hid (∃ v, Rd1 70 4 gdE rb ib raw p w 5 im (listR (gdR p) n r1).2 (listR (gdR p) n r1).1 v wr) := ⟨v, by rw [HSt.out]; exact H9.out⟩
    clear H9 HNext HStop HLen h9;go_wp2_with fail
    go_end0
    exact ⟨rfl, HQ.out⟩
end Go.Proofs.YtmfkggngjeolcaaGreatDoor
