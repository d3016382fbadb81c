import Derived.Test.YtmfkggngjeolcaaGreatDoorPk37
import Derived.Test.YtmfkggngjeolcaaGreatDoorPk29
import Derived.Test.YtmfkggngjeolcaaGreatDoorPk23
set_option linter.unusedSimpArgs false
set_option linter.unusedVariables false
set_option maxHeartbeats 64000000
set_option maxRecDepth 100000
namespace Go.Proofs.YtmfkggngjeolcaaGreatDoor
open Go.RowKit Bn Dc
section
variable {B kb : Nat} {raw : Value} {im en : List Value} {pt : Int} {pv : Value} {q : Pt} {p g : Nat} {w0 : World} {s : D} {w w' : World} {why sec ad : Int}
theorem dallShortX {bs : List Nat} {ao : Option Addr} {cap : Nat} (h : Dn B kb (.slice ao bs.length cap) im0 en0 0 (.pointer none) w0 0 0 0 w) (hsz : bs.length < 160) (hraw : ∀ W, Fd B w0 W → Sl W (.slice ao bs.length cap) bs) : Calls Tryz.prog 78 #[.pointer (some ⟨kb, 0, none⟩)] w fun e w' => e = .returned (.tuple #[]) ∧ ∃ im en pt pv, Dn B kb (.slice ao bs.length cap) im en pt pv w0 10 0 (bs.length : Int) w' := by
 have HRw := Lib.hid hraw;have HSz : Hid (bs.length < 160) := hsz;have hb1 : Below w.heap.size w ((w.alloc (.cells nilR 123)).setRow w.heap.size (funR kb)) := ((Below.refl _ _).alloc (Nat.le_refl _) _).trans (below_setRow _ _ _ _ (Nat.le_refl _));have HZ0 : Hid ((w.alloc (.cells nilR 123)).heap[w.heap.size]? = some (.cells nilR 123 (0, 0))) := heap_alloc_new w _;have HZ1 : Hid (((w.alloc (.cells nilR 123)).setRow w.heap.size (funR kb)).heap[w.heap.size]? = some (.cells (funR kb) 123 (0, 0))) := setRow_heap _ _ _ _ _ _ HZ0.out;have H1 : Hid (Dn B kb (.slice ao bs.length cap) im0 en0 0 (.pointer none) w0 0 0 0 ((w.alloc (.cells nilR 123)).setRow w.heap.size (funR kb))) := h.below hb1;have hne : kb ≠ w.heap.size := by have := h.lt; omega
 have HNe : Hid (kb ≠ w.heap.size) := hne;clear h hraw hb1 hne;obtain ⟨W1, hW1⟩ : ∃ W, (w.alloc (.cells nilR 123)).setRow w.heap.size (funR kb) = W := ⟨_, rfl⟩
 rw [hW1] at H1 HZ1;go_enter Tryz.func78, Tryz.ntmps78
 go_upto_region 1 with (refine wpList_store_arr rfl 123 (.tmp 2) (.tmp 23) rfl (b := w.heap.size) (Z := nilR) (g := funR kb) rfl rfl rfl HZ0.out (info_r kb) rfl (funR_one kb) ?_)
 unfold nilR at hW1;simp only [hW1];clear hW1 HZ0;have c0 : W1.drew.cell? ⟨kb, 0, none⟩ = some (.slice ao bs.length cap) := H1.out.drew.cell 0;have c16 : W1.drew.cell? ⟨kb, 16, none⟩ = some (.int .i64 0) := H1.out.drew.cell 16;have f16 : W1.drew.frozen? ⟨kb, 16, none⟩ = false := H1.out.drew.free 16;have j1 : (bs.length : Int) ≤ (160 : Int) := by omega
 have j2 : min (160 : Int) (bs.length : Int) = (bs.length : Int) := by omega
 have H2 : Hid (Dn B kb (.slice ao bs.length cap) im0 (en0.set 3 (.int .i64 (bs.length : Int))) 0 (.pointer none) w0 0 0 0 (W1.drew.setCell ⟨kb, 16, none⟩ (.int .i64 (bs.length : Int)))) := Dn.set H1.out.drew (i := 16) rfl rfl rfl;have HZ2 : Hid ((W1.drew.setCell ⟨kb, 16, none⟩ (.int .i64 (bs.length : Int))).heap[w.heap.size]? = some (.cells (funR kb) 123 (0, 0))) := show _ = _ by
  have h9 := HZ1.out;have hn := HNe.out;have h8 : W1.drew.heap[w.heap.size]? = some (.cells (funR kb) 123 (0, 0)) := h9;simp only [World.setCell, Array.getElem?_modify];rw [if_neg hn];exact h8
 clear H1 HZ1;go_cut [] (fun wx => wx = W1.drew.setCell ⟨kb, 16, none⟩ (.int .i64 (bs.length : Int)))
 case first =>
  go_region
  all_goals
   go_wp2_with fail
   go_meet
   rfl
 case rest =>
  obtain rfl := hcut;generalize W1.drew.setCell ⟨kb, 16, none⟩ (.int .i64 (bs.length : Int)) = W2 at *;clear c0 c16 f16;go_wp2_with (refine wpList_load_arr rfl 123 (.tmp 2) rfl (b := w.heap.size) (g := funR kb) rfl HZ2.out Tryz.underlying123 rfl (info_r kb) ?_)
  clear HZ2;go_loopw [36] (fun iv wr => iv = .int .i64 0 ∧ Hid (Dn B kb (.slice ao bs.length cap) im0 (en0.set 3 (.int .i64 (bs.length : Int))) 0 (.pointer none) w0 0 0 0 wr)) (fun iv _ => 9 - (intOf iv).toNat)
  case atStart => exact ⟨rfl, H2⟩
  case round =>
   clear H2;obtain ⟨rfl, HI⟩ := hrel
   ·have HO := Lib.hid (openR HI.out HRw.out (k := 0) (f := 0) (l := bs.length) (c := 0) (by decide) ⟨rfl, rfl, rfl, rfl, rfl⟩ (by omega) (by have := HSz.out; omega));obtain ⟨sE, hsE⟩ : ∃ t : D, t = askD false 10 0 (bs.length : Int) ⟨0, 0, 0, 0, 0⟩ := ⟨_, rfl⟩
    have HR : Hid (∀ W p g, Dt B kb (.slice ao bs.length cap) im0 (en0.set 3 (.int .i64 (bs.length : Int))) ⟨0, 0, (bs.drop 0).take bs.length⟩ p g w0 ⟨0, 0, 0, 0, 0⟩ W → Calls Tryz.prog 113 #[.pointer (some ⟨kb, 0, none⟩)] W fun e w' => e = .returned (.tuple #[]) ∧ Dt B kb (.slice ao bs.length cap) im0 (en0.set 3 (.int .i64 (bs.length : Int))) ⟨0, 0, (bs.drop 0).take bs.length⟩ p g w0 sE w') := fun W p g hW => by
     rw [hsE];exact headShortX hW HSz.out
    have HW : Hid (sE.why = 10 ∧ sE.sec = 0 ∧ sE.ad = (bs.length : Int)) := by
     rw [hsE];exact ⟨rfl, rfl, rfl⟩
    have hx9 : ∀ W, (Instr.index 123 (.agg (funR kb)) (.int .i64 0)).run Tryz.prog W = .ok (.func (.func 113) #[.pointer (some ⟨kb, 0, none⟩)] #[]) W := funR_at kb 0 (by decide);obtain ⟨q, hq⟩ : ∃ q : Pt, (⟨0, 0, (bs.drop 0).take bs.length⟩ : Pt) = q := ⟨_, rfl⟩
    rw [hq] at HO HR;clear HI hsE hq;go_wp2_with fail
    refine HO.out.mono ?_;rintro e w1 ⟨rfl, p, g, h1, hf1⟩;have HR1 := Lib.hid (HR.out _ _ _ h1);clear h1 hf1 HO HR;go_wp2_with fail
    refine HR1.out.mono ?_;rintro e w2 ⟨rfl, h2⟩;have HD := Lib.hid h2.drew;clear HR1;obtain ⟨bb, hbb⟩ : ∃ b, decide (sE.rw = 0 ∧ sE.pos = q.Z.length) = b := ⟨_, rfl⟩
    obtain ⟨ps, hps⟩ : ∃ b, sE.pos = b := ⟨_, rfl⟩
    have hpl := h2.pos_le;rw [hps] at hpl;have HpL : Hid (ps ≤ 1099511627776) := hpl;obtain ⟨sF, hsF⟩ : ∃ t, endD q sE = t := ⟨_, rfl⟩
    have KE : Hid (∀ W, Dt B kb (.slice ao bs.length cap) im0 (en0.set 3 (.int .i64 (bs.length : Int))) q p g w2 sE W → Calls Tryz.prog 124 #[.pointer (some ⟨p, 0, none⟩)] W fun e w' => ∃ r : Int, e = .returned (.int .i64 r) ∧ (r == 0) = bb ∧ Dt B kb (.slice ao bs.length cap) im0 (en0.set 3 (.int .i64 (bs.length : Int))) q p g w2 sE w') := fun W hW => endX1 hW hbb;have KA : Hid (∀ W, Dt B kb (.slice ao bs.length cap) im0 (en0.set 3 (.int .i64 (bs.length : Int))) q p g w2 sE W → Calls Tryz.prog 125 #[.pointer (some ⟨p, 0, none⟩)] W fun e w' => e = .returned (.int .i64 (ps : Int)) ∧ w' = W) := fun W hW => by rw [← hps]; exact rat_any hW.rd
    have KF : Hid (∀ W, Dt B kb (.slice ao bs.length cap) im0 (en0.set 3 (.int .i64 (bs.length : Int))) q p g w2 sE W → Calls Tryz.prog 123 #[.pointer (some ⟨kb, 0, none⟩), .bool bb, .int .i64 (ps : Int)] W fun e w' => e = .returned (.tuple #[]) ∧ Dt B kb (.slice ao bs.length cap) im0 (en0.set 3 (.int .i64 (bs.length : Int))) q p g w2 sF w') := fun W hW => by
     have h9 := dformX hW bb (a := ps) HpL.out;rw [← hsF, endD, hbb, hps];exact h9
    have HD2 : Hid (Dt B kb (.slice ao bs.length cap) im0 (en0.set 3 (.int .i64 (bs.length : Int))) q p g w2 sE w2.drew) := h2.here.drew;have HFr : Hid (Fd B w0 w2) := h2.fr;have c59 := HD2.out.c59;have hsF2 : sF.why = 10 ∧ sF.sec = 0 ∧ sF.ad = (bs.length : Int) := by
     rw [← hsF, endD, form_why _ _ _ _ (by rw [HW.out.1]; decide)];exact HW.out
    have HW2 := Lib.hid hsF2;clear hsF2;clear h2 HD hbb hps hpl hsF HpL;go_wp2_with fail
    go_region_held3 (fun W => W.cell? ⟨kb, 59, none⟩ = some (.pointer (some ⟨p, 0, none⟩))) (first | (with_reducible assumption) | go_keep) (first | (go_at_call 124; refine (KE.out _ HD2.out).mono ?_; rintro e y1 ⟨r, rfl, hr, h1⟩; have HX := Lib.hid h1; have a59 := h1.c59; clear h1) | (go_at_call 125; (first | (refine (KA.out _ HX.out).mono ?_) | (refine (KA.out _ HD2.out).mono ?_)); rintro e y2 ⟨rfl, h9⟩; subst h9) | (go_at_call 123; refine (KF.out _ HX.out).mono ?_; rintro e y3 ⟨rfl, h3⟩; have HY := Lib.hid h3; have b59 := h3.c59; clear h3))
    all_goals
     have c62 := HY.out.c62;rw [HW2.out.1] at c62;have HF : Hid (∃ im en pt pv, Dn B kb (.slice ao bs.length cap) im en pt pv w0 10 0 (bs.length : Int) y3) := Lib.hid ⟨im0, _, _, _, by
      have h9 := (HY.out.since HFr.out).dn;rw [HW2.out.1, HW2.out.2.1, HW2.out.2.2] at h9;exact h9⟩
     clear HY HX HD2 KE KA KF a59 b59 c59 HFr HW HW2;go_wp2_with fail
     refine bodyPost_ret (results_none rfl _ _ _) rfl ?_;exact ⟨rfl, HF.out⟩
end
end Go.Proofs.YtmfkggngjeolcaaGreatDoor
namespace Go.Proofs.YtmfkggngjeolcaaGreatDoor
open Bn Dc
namespace Dc
section
variable {q : Pt} {s : D}
theorem rowsC_snd {γ : Type} {f : γ → List Nat} {ok : γ → Prop} {one : D → γ × D} (ho : ∀ (t : D), Ok (one t).2 → Ok t ∧ ∃ x, one t = (x, fw t (f x).length) ∧ ok x ∧ Ah q t (f x)) (n : Nat) (h : Ok (listD one n s).2) : Ok s ∧ (s.pos ≤ q.Z.length → ∃ xs, listD one n s = (xs, fw s (layL (fun _ => f) 0 xs).length) ∧ xs.length = n ∧ (∀ x ∈ xs, ok x) ∧ Ah q s (layL (fun _ => f) 0 xs)) := by
 obtain ⟨h1, h2⟩ := list_snd (a := s.pos) (f := fun _ => f) (fun b t _ h => ho t h) n h;refine ⟨h1, fun hle => ?_⟩;obtain ⟨xs, h3, h4, h5, h6⟩ := h2 rfl hle;rw [layC_any f xs s.pos 0] at h3 h6;exact ⟨xs, h3, h4, h5, h6⟩
theorem tabB_len (f : Nat → Nat) : (tabB f).length = 4096 := by rw [tabB, tb_eq, tbN_len]
theorem tb_num : ∀ (n : Nat) (zs : List Nat), (∀ z ∈ zs, z < 256) → 8 * n ≤ zs.length → tb (numT zs) n = zs.take (8 * n)
 | 0, zs, _, _ => by simp [tb]
 | n + 1, zs, hz, hl => by
  rw [tb, tb_num n zs hz (by omega), show 8 * (n + 1) = 8 * n + 8 by omega, List.take_add]
  congr 1
  exact le_num 8 (zs.drop (8 * n)) (fun z h => hz z (List.mem_of_mem_drop h)) (by rw [List.length_drop]; omega)
theorem num8_lt (zs : List Nat) (hz : ∀ z ∈ zs, z < 256) : tbOk (numT zs) := fun i hi => by
 have h : Pl.num 8 (zs.drop (8 * i)) < 256 ^ 8 := Pl.acc_lt (fun z h => hz z (List.mem_of_mem_drop h)) 0 8
 show Pl.num 8 (zs.drop (8 * i)) ≤ _
 omega
theorem table_snd (hq : Sb q) (h : Ok (tabD q s).2) : Ok s ∧ ∃ f, tabD q s = (f, fw s (tabB f).length) ∧ tbOk f ∧ Ah q s (tabB f) := by
 obtain ⟨h1, l, h2, h3, h4, h5⟩ := bytes_snd hq (show Ok (bytesD q 4096 s).2 from h);have e : tabB (numT l) = l := by
  rw [tabB, tb_num 512 l h5 (by omega), List.take_of_length_le (by omega)]
 refine ⟨h1, numT l, ?_, num8_lt l h5, by rw [e]; exact h4⟩;unfold tabD;rw [h2];dsimp only;rw [if_pos h3, tabB_len]
end
end Dc
end Go.Proofs.YtmfkggngjeolcaaGreatDoor
namespace Go.Proofs.YtmfkggngjeolcaaGreatDoor
open Bn Dc
namespace Dc
def kindK (I : Im) : Nat → Prop
 | 1 => (∀ x ∈ I.rams, rgOk x) ∧ ∀ x ∈ I.devs, rgOk x
 | 4 => ∀ x ∈ I.regs, gdOk x
 | 8 => ∀ x ∈ I.tabs, tbOk x
 | _ => True
section
variable {q : Pt} {s : D}
theorem Ah.whole {l : List Nat} (h : Ah q s l) (hp : s.pos = 0) (he : s.pos + l.length = q.Z.length) : q.Z = l := by
 obtain ⟨u, hu⟩ := h.eq;rw [hp, List.drop_zero] at hu;have hl := congrArg List.length hu;rw [List.length_append] at hl;have : u = [] := List.eq_nil_of_length_eq_zero (by omega);rw [hu, this, List.append_nil]
theorem many_rows {γ : Type} {f : γ → List Nat} {ok : γ → Prop} {one : D → γ × D} (hq : Sb q) (ho : ∀ (t : D), Ok (one t).2 → Ok t ∧ ∃ x, one t = (x, fw t (f x).length) ∧ ok x ∧ Ah q t (f x)) (h : Ok (listD one (manyD q s).1 (manyD q s).2).2) : Ok s ∧ ∃ xs : List γ, listD one (manyD q s).1 (manyD q s).2 = (xs, fw s (manyB xs.length ++ layL (fun _ => f) 0 xs).length) ∧ f2 (xs.length : Int) ∧ (∀ x ∈ xs, ok x) ∧ Ah q s (manyB xs.length ++ layL (fun _ => f) 0 xs) := by
 obtain ⟨g1, hr⟩ := rowsC_snd ho _ h;obtain ⟨g0, n, e1, o1, a1⟩ := many_snd hq g1;rw [e1] at hr;obtain ⟨xs, e2, hl, hx, a2⟩ := hr (by have := a1.pos; rw [manyB_len] at this; exact this);dsimp only at e2 hl a2;subst hl;refine ⟨g0, xs, ?_, by unfold f2; omega, hx, a1.app (by rw [manyB_len]; exact a2)⟩;rw [e1];dsimp only;rw [e2, fw_fw, List.length_append, manyB_len]
theorem sec_snd (hq : Sb q) {J : Im} {k : Nat} (h1 : 1 ≤ k) (h8 : k ≤ 8) (hp : s.pos = 0) (h : Ok (secD k q J s).2) (he : (secD k q J s).2.pos = q.Z.length) (hd : k = 8 → q.Z.length % 4096 = 0) : fitK (secD k q J s).1 k ∧ kindK (secD k q J s).1 k ∧ q.Z = secB (secD k q J s).1 k := by
 rcases (by omega : k = 1 ∨ k = 2 ∨ k = 3 ∨ k = 4 ∨ k = 5 ∨ k = 6 ∨ k = 7 ∨ k = 8) with rfl | rfl | rfl | rfl | rfl | rfl | rfl | rfl
 ·have h9 : Ok (listD (spanD q) (takeD q 2 (takeD q 2 s).2).1 (listD (spanD q) (takeD q 2 s).1 (zerosD q 4 (takeD q 2 (takeD q 2 s).2).2)).2).2 := h;obtain ⟨g4, hr5⟩ := rowsC_snd (f := rangeB) (ok := rgOk) (fun t h => span_snd hq h) _ h9;obtain ⟨g3, hr4⟩ := rowsC_snd (f := rangeB) (ok := rgOk) (fun t h => span_snd hq h) _ g4;obtain ⟨g2, e3, a3⟩ := zeros_snd hq g3;obtain ⟨g1, m, e2, o2, a2⟩ := half_snd hq g2;obtain ⟨g0, n, e1, o1, a1⟩ := half_snd hq g1;rw [e1] at e2 a2 e3 a3 hr4 hr5;dsimp only at e2 a2 e3 a3 hr4 hr5;rw [e2] at e3 a3 hr4 hr5;dsimp only at e3 a3 hr4 hr5;rw [e3] at hr4 hr5;obtain ⟨xs, e4, l4, x4, a4⟩ := hr4 (by have := a3.pos; rw [bz_len] at this; exact this);rw [e4] at hr5;dsimp only at hr5;obtain ⟨ys, e5, l5, x5, a5⟩ := hr5 a4.pos;have hb : busD q s = (⟨xs, ys⟩, fw (fw (fw (fw (fw s 2) 2) 4) (layL (fun _ => rangeB) 0 xs).length) (layL (fun _ => rangeB) 0 ys).length) := by
   unfold busD;rw [e1];dsimp only;rw [e2];dsimp only;rw [e3, e4];dsimp only;rw [e5]
  have hS : secD 1 q J s = ({ J with rams := xs, devs := ys }, fw (fw (fw (fw (fw s 2) 2) 4) (layL (fun _ => rangeB) 0 xs).length) (layL (fun _ => rangeB) 0 ys).length) := by
   show (Im.mk _ _ _ _ _ _ _ _ _ _ _ _, _) = _
   rw [hb]
  rw [hS] at he ⊢;subst l4 l5;have hA : Ah q s (b2 (xs.length : Int) ++ (b2 (ys.length : Int) ++ (bz 4 ++ (layL (fun _ => rangeB) 0 xs ++ layL (fun _ => rangeB) 0 ys)))) := a1.app (by rw [b2_len]; exact a2.app (by rw [b2_len]; exact a3.app (by rw [bz_len]; exact a4.app a5)));refine ⟨⟨f2n o1, f2n o2⟩, ⟨x4, x5⟩, ?_⟩;refine hA.whole hp ?_;have he : s.pos + 2 + 2 + 4 + (layL (fun _ => rangeB) 0 xs).length + (layL (fun _ => rangeB) 0 ys).length = q.Z.length := he;simp only [List.length_append, b2_len, bz_len];omega
 ·obtain ⟨g0, xs, e, o, x, a⟩ := many_rows (f := tenB) (ok := tnF) hq (fun t h => ten_snd hq h) (show Ok (listD (tenD q) (manyD q s).1 (manyD q s).2).2 from h);have hS : secD 2 q J s = ({ J with subs := xs }, fw s (manyB xs.length ++ layL (fun _ => tenB) 0 xs).length) := by
   show (Im.mk _ _ _ _ _ _ _ _ _ _ _ _, _) = _
   rw [e]
  rw [hS] at he ⊢;exact ⟨⟨o, x⟩, trivial, a.whole hp he⟩
 ·have h9 : Ok (listD (portD q) (takeD q 2 s).1 (zerosD q 6 (formD q (decide ((takeD q 2 s).1 = J.devs.length)) 0 (takeD q 2 s).2))).2 := h;obtain ⟨g3, hr⟩ := rowsC_snd (f := portB) (ok := fn) (fun t h => port_snd hq h) _ h9;obtain ⟨g2, e2, a2⟩ := zeros_snd hq g3;obtain ⟨b, e3, g1⟩ := form_snd g2;obtain ⟨g0, n, e1, o1, a1⟩ := half_snd hq g1;rw [e3] at e2 a2;rw [e1] at e2 a2 b;dsimp only at e2 a2 b;rw [e3, e1] at hr;dsimp only at hr;rw [e2] at hr;obtain ⟨xs, e4, l4, x4, a4⟩ := hr (by have := a2.pos; rw [bz_len] at this; exact this);have hb : portsD q J.devs.length s = (xs, fw (fw (fw s 2) 6) (layL (fun _ => portB) 0 xs).length) := by
   unfold portsD;dsimp only;rw [e3, e1];dsimp only;rw [e2, e4]
  have hS : secD 3 q J s = ({ J with ports := xs }, fw (fw (fw s 2) 6) (layL (fun _ => portB) 0 xs).length) := by
   show (Im.mk _ _ _ _ _ _ _ _ _ _ _ _, _) = _
   rw [hb]
  rw [hS] at he ⊢;subst l4;have hm : Ah q s (manyB xs.length) := a1.app (by rw [b2_len]; exact a2);have hA : Ah q s (manyB xs.length ++ layL (fun _ => portB) 0 xs) := hm.app (by rw [manyB_len]; rw [fw_fw] at a4; exact a4);refine ⟨⟨of_decide_eq_true b, f2n o1, x4⟩, trivial, hA.whole hp ?_⟩;have he : s.pos + 2 + 6 + (layL (fun _ => portB) 0 xs).length = q.Z.length := he;rw [List.length_append, manyB_len];omega
 ·have h9 : Ok (listD (gdD q) (manyD q s).1 (manyD q s).2).2 := h;obtain ⟨g1, hr⟩ := list_snd (a := 0) (f := gdB) (ok := fun x => gdOk x ∧ x.txt.size ≤ 1048576) (fun b t hp h => gd_snd hq hp h) _ h9;obtain ⟨g0, n, e1, o1, a1⟩ := many_snd hq g1;rw [e1] at hr;obtain ⟨xs, e2, l2, x2, a2⟩ := hr (by show (s.pos + 8) % 8 = 0; omega) (by have := a1.pos; rw [manyB_len] at this; exact this);dsimp only at e2 l2 a2;have hS : secD 4 q J s = ({ J with regs := xs }, fw (fw s 8) (layL gdB 0 xs).length) := by
   show (Im.mk _ _ _ _ _ _ _ _ _ _ _ _, _) = _
   rw [e1];dsimp only;rw [e2]
  rw [hS] at he ⊢;subst l2;have hA : Ah q s (manyB xs.length ++ layL gdB 0 xs) := a1.app (by rw [manyB_len]; exact a2);refine ⟨⟨f2n o1, fun x hx => ⟨?_, (x2 x hx).2⟩⟩, fun x hx => (x2 x hx).1, hA.whole hp ?_⟩
  ·have := (x2 x hx).1.2.2.1;unfold f1;omega
  ·have he : s.pos + 8 + (layL gdB 0 xs).length = q.Z.length := he;rw [List.length_append, manyB_len];omega
 ·obtain ⟨g0, xs, e, o, x, a⟩ := many_rows (f := chB) (ok := chF) hq (fun t h => ch_snd hq h) (show Ok (listD (chD q) (manyD q s).1 (manyD q s).2).2 from h);have hS : secD 5 q J s = ({ J with chs := xs }, fw s (manyB xs.length ++ layL (fun _ => chB) 0 xs).length) := by
   show (Im.mk _ _ _ _ _ _ _ _ _ _ _ _, _) = _
   rw [e]
  rw [hS] at he ⊢;exact ⟨⟨o, x⟩, trivial, a.whole hp he⟩
 ·obtain ⟨g0, xs, e, o, x, a⟩ := many_rows (f := iqB) (ok := iqF) hq (fun t h => iq_snd hq h) (show Ok (listD (iqD q) (manyD q s).1 (manyD q s).2).2 from h);have hS : secD 6 q J s = ({ J with irqs := xs }, fw s (manyB xs.length ++ layL (fun _ => iqB) 0 xs).length) := by
   show (Im.mk _ _ _ _ _ _ _ _ _ _ _ _, _) = _
   rw [e]
  rw [hS] at he ⊢;exact ⟨⟨o, x⟩, trivial, a.whole hp he⟩
 ·have h9 : Ok (listD (planD q (takeD q 2 (takeD q 2 s).2).1) (takeD q 2 s).1 (takeD q 2 (noneD q (formD q (decide (0 < (takeD q 2 s).1) || decide ((takeD q 2 (takeD q 2 s).2).1 = 0)) (takeD q 2 s).2.pos (takeD q 2 (takeD q 2 s).2).2)).2).2).2 := h;obtain ⟨g4, hr⟩ := rowsC_snd (f := planB) (ok := planF (takeD q 2 (takeD q 2 s).2).1) (fun t h => by
   obtain ⟨a, x, b, c, d⟩ := plan_snd hq h;exact ⟨a, x, b, ⟨c.1, c.2.1, fun l hl => ⟨by have := (c.2.2 l hl).1; unfold f2; omega, (c.2.2 l hl).2⟩⟩, d⟩) _ h9
  obtain ⟨g3, st, e4, o4, a4⟩ := half_snd hq g4;obtain ⟨g2, ms, e3, o3, a3⟩ := none_snd hq g3;obtain ⟨b, e5, g1⟩ := form_snd g2;obtain ⟨g1', N, e2, o2, a2⟩ := half_snd hq g1;obtain ⟨g0, n, e1, o1, a1⟩ := half_snd hq g1';rw [e5] at e3 a3 e4 a4 hr;rw [e1] at e2 a2 b e3 a3 e4 a4 hr;dsimp only at e2 a2 b e3 a3 e4 a4 hr;rw [e2] at b e3 a3 e4 a4 hr;dsimp only at b e3 a3 e4 a4 hr;rw [e3] at e4 a4 hr;dsimp only at e4 a4 hr;rw [e4] at hr;dsimp only at hr;obtain ⟨xs, e6, l6, x6, a6⟩ := hr (by have := a4.pos; rw [b2_len] at this; exact this);have hb : plansD q s = (⟨xs, ms, st⟩, fw (fw (fw (fw (fw s 2) 2) 2) 2) (layL (fun _ => planB) 0 xs).length) := by
   unfold plansD;dsimp only;rw [e5, e1];dsimp only;rw [e2];dsimp only;rw [e3];dsimp only;rw [e4];dsimp only;rw [e6]
  have hS : secD 7 q J s = ({ J with plans := xs, master := ms, start := (st : Int) }, fw (fw (fw (fw (fw s 2) 2) 2) 2) (layL (fun _ => planB) 0 xs).length) := by
   show (Im.mk _ _ _ _ _ _ _ _ _ _ _ _, _) = _
   rw [hb]
  rw [hS] at he ⊢;subst l6;have hN : lanesN { J with plans := xs, master := ms, start := (st : Int) } = N := by
   unfold lanesN;dsimp only
   cases xs with
   | nil => simp at b; exact b.symm
   | cons x xs => exact (x6 x (List.mem_cons_self ..)).1
  have hA : Ah q s (b2 (xs.length : Int) ++ (b2 (N : Int) ++ (b2 ms ++ (b2 (st : Int) ++ layL (fun _ => planB) 0 xs)))) := a1.app (by rw [b2_len]; exact a2.app (by rw [b2_len]; exact a3.app (by rw [b2_len]; exact a4.app (by rw [b2_len]; exact a6))));refine ⟨?_, trivial, ?_⟩
  ·show f2 _ ∧ f2 _ ∧ fn ms ∧ f2 (st : Int) ∧ ∀ x ∈ xs, planF _ x
   rw [hN];exact ⟨f2n o1, f2n o2, o3, f2n o4, x6⟩
  ·show q.Z = b2 (xs.length : Int) ++ (b2 (lanesN { J with plans := xs, master := ms, start := (st : Int) } : Int) ++ (b2 ms ++ (b2 (st : Int) ++ layL (fun _ => planB) 0 xs)))
   rw [hN];refine hA.whole hp ?_;have he : s.pos + 2 + 2 + 2 + 2 + (layL (fun _ => planB) 0 xs).length = q.Z.length := he;simp only [List.length_append, b2_len];omega
 ·have h9 : Ok (listD (tabD q) ((q.Z.length - s.pos) / 4096) s).2 := h;obtain ⟨g0, hr⟩ := rowsC_snd (f := tabB) (ok := tbOk) (fun t h => table_snd hq h) _ h9;obtain ⟨xs, e1, l1, x1, a1⟩ := hr (by omega);have hS : secD 8 q J s = ({ J with tabs := xs }, fw s (layL (fun _ => tabB) 0 xs).length) := by
   show (Im.mk _ _ _ _ _ _ _ _ _ _ _ _, _) = _
   unfold tabsD;rw [e1]
  rw [hS] at he ⊢;exact ⟨trivial, x1, a1.whole hp he⟩
end
end Dc
end Go.Proofs.YtmfkggngjeolcaaGreatDoor
