import Derived.Test.YtnifefmfhjfbnaaGreatDoorPk45
import Derived.Test.YtnifefmfhjfbnaaGreatDoorPk42
/- Bundle: four bytes of a directory. Own work. -/
namespace Go.Proofs.YtnifefmfhjfbnaaGreatDoor
open Go.RowKit
set_option linter.unusedVariables false
set_option linter.unusedSimpArgs false
theorem i64_or_nat (a b : Nat) (ha : a < 9223372036854775808) (hb : b < 9223372036854775808) : bits .or .i64 (a : Int) (b : Int) = ((a ||| b : Nat) : Int) := by
 have hx : a ||| b < 2 ^ 63 := Nat.or_lt_two_pow (by omega) (by omega)
 show IntKind.i64.wrap ((BitVec.ofInt 64 (a : Int) ||| BitVec.ofInt 64 (b : Int)).toNat : Int) = _
 rw [BitVec.toNat_or, ofInt_u64 a (by omega), ofInt_u64 b (by omega), IntKind.wrap_i64]
 omega
theorem or_up (k lo hi : Nat) (h : lo < 2 ^ k) : lo ||| hi * 2 ^ k = lo + hi * 2 ^ k := by
 rw [Nat.or_comm, nat_join k (hi * 2 ^ k) lo (by simp) h, Nat.add_comm]
theorem or_four {x0 x1 x2 x3 : Nat} (b0 : x0 < 256) (b1 : x1 < 256) (b2 : x2 < 256) (b3 : x3 < 256) : bits .or .i64 (bits .or .i64 (bits .or .i64 (x0 : Int) ((x1 : Int) * 256)) ((x2 : Int) * 65536)) ((x3 : Int) * 16777216) = ((x0 + 256 * (x1 + 256 * (x2 + 256 * x3)) : Nat) : Int) := by
 have e1 : (x1 : Int) * 256 = ((x1 * 2 ^ 8 : Nat) : Int) := by omega
 have e2 : (x2 : Int) * 65536 = ((x2 * 2 ^ 16 : Nat) : Int) := by omega
 have e3 : (x3 : Int) * 16777216 = ((x3 * 2 ^ 24 : Nat) : Int) := by omega
 rw [e1, e2, e3, i64_or_nat x0 (x1 * 2 ^ 8) (by omega) (by omega), or_up 8 x0 x1 (by omega), i64_or_nat _ (x2 * 2 ^ 16) (by omega) (by omega), or_up 16 _ x2 (by omega), i64_or_nat _ (x3 * 2 ^ 24) (by omega) (by omega), or_up 24 _ x3 (by omega)]
 congr 1
 omega
set_option maxRecDepth 100000 in
set_option maxHeartbeats 4000000 in
theorem word_any {w : World} {v : Value} {zs : List Nat} {n : Nat} (hv : Sl w v zs) (hn : n + 4 ≤ zs.length) (hz : zs.length ≤ 4194304) : Calls Tryz.prog 24 #[v, .int .i64 (n : Int)] w fun e w' => e = .returned (.int .i64 (Pl.num 4 (zs.drop n) : Nat)) ∧ Below w.heap.size w w' := by
 obtain ⟨g, o, cap, rfl, h1, h2, h3, h4⟩ := hv.pos (by omega)
 have HBd : Hid (Below w.heap.size w w.drew) := ⟨rfl, rfl, rfl, Nat.le_refl _, fun _ _ => rfl⟩
 have hs := hv.small
 have d0 : w.cell? ⟨g, o + n, none⟩ = some (.int .u8 (zs.getD n 0 : Nat)) := h4 n (by omega)
 have c0 : w.drew.cell? ⟨g, o + n, none⟩ = some (.int .u8 (zs.getD n 0 : Nat)) := h4 n (by omega)
 have d1 : w.cell? ⟨g, o + (n + 1), none⟩ = some (.int .u8 (zs.getD (n + 1) 0 : Nat)) := h4 (n + 1) (by omega)
 have c1 : w.drew.cell? ⟨g, o + (n + 1), none⟩ = some (.int .u8 (zs.getD (n + 1) 0 : Nat)) := h4 (n + 1) (by omega)
 have d2 : w.cell? ⟨g, o + (n + 2), none⟩ = some (.int .u8 (zs.getD (n + 2) 0 : Nat)) := h4 (n + 2) (by omega)
 have c2 : w.drew.cell? ⟨g, o + (n + 2), none⟩ = some (.int .u8 (zs.getD (n + 2) 0 : Nat)) := h4 (n + 2) (by omega)
 have d3 : w.cell? ⟨g, o + (n + 3), none⟩ = some (.int .u8 (zs.getD (n + 3) 0 : Nat)) := h4 (n + 3) (by omega)
 have c3 : w.drew.cell? ⟨g, o + (n + 3), none⟩ = some (.int .u8 (zs.getD (n + 3) 0 : Nat)) := h4 (n + 3) (by omega)
 have b0 := Pl.mem_getD (k := n) hs
 have b1 := Pl.mem_getD (k := n + 1) hs
 have b2 := Pl.mem_getD (k := n + 2) hs
 have b3 := Pl.mem_getD (k := n + 3) hs
 have HE : Hid (Pl.num 4 (zs.drop n) = zs.getD n 0 + 256 * (zs.getD (n + 1) 0 + 256 * (zs.getD (n + 2) 0 + 256 * zs.getD (n + 3) 0))) := show _ = _ by
  have k : ∀ i, (zs.drop n).getD i 0 = zs.getD (n + i) 0 := fun i => by simp [List.getD_eq_getElem?_getD, List.getElem?_drop]
  show (zs.drop n).getD 0 0 + 256 * ((zs.drop n).getD 1 0 + 256 * ((zs.drop n).getD 2 0 + 256 * ((zs.drop n).getD 3 0 + 256 * 0))) = _
  rw [k, k, k, k]
  simp
 rw [HE.out]
 obtain ⟨x0, e0⟩ : ∃ x, zs.getD n 0 = x := ⟨_, rfl⟩
 obtain ⟨x1, e1⟩ : ∃ x, zs.getD (n + 1) 0 = x := ⟨_, rfl⟩
 obtain ⟨x2, e2⟩ : ∃ x, zs.getD (n + 2) 0 = x := ⟨_, rfl⟩
 obtain ⟨x3, e3⟩ : ∃ x, zs.getD (n + 3) 0 = x := ⟨_, rfl⟩
 rw [e0] at c0 d0 b0 ⊢
 rw [e1] at c1 d1 b1 ⊢
 rw [e2] at c2 d2 b2 ⊢
 rw [e3] at c3 d3 b3 ⊢
 have j1 : (n : Int) + 1 < (zs.length : Int) := by omega
 have j2 : (n : Int) + 2 < (zs.length : Int) := by omega
 have j3 : (n : Int) + 3 < (zs.length : Int) := by omega
 have j0 : (n : Int) < (zs.length : Int) := by omega
 clear hv h3 h4 hs e0 e1 e2 e3 HE
 go_enter Tryz.func24, Tryz.ntmps24
 go_upto_region 1 with fail
 go_quiet (fail)
 rw [or_four b0 b1 b2 b3]
 go_wp2_with fail
 go_ret
 exact ⟨rfl, ⟨rfl, rfl, rfl, Nat.le_refl _, fun _ _ => rfl⟩⟩
end Go.Proofs.YtnifefmfhjfbnaaGreatDoor
/- Bundle: fewer bytes than a header (made of DcAll). Own work. -/
namespace Go.Proofs.YtnifefmfhjfbnaaGreatDoor
open Go.RowKit Bn Dc
set_option linter.unusedVariables false
set_option linter.unusedSimpArgs false
section
variable {B kb : Nat} {raw : Value} {im en : List Value} {pt : Int} {pv : Value} {q : Pt} {p g : Nat} {w0 : World} {s : D} {w w' : World} {why sec ad : Int}
set_option maxRecDepth 100000 in
set_option maxHeartbeats 64000000 in
theorem dallShortX {bs : List Nat} {ao : Option Addr} {cap : Nat} (h : Dn B kb (.slice ao bs.length cap) im0 en0 0 (.pointer none) w0 0 0 0 w) (hsz : bs.length < 160) (hraw : ∀ W, Fd B w0 W → Sl W (.slice ao bs.length cap) bs) : Calls Tryz.prog 19 #[.pointer (some ⟨kb, 0, none⟩)] w fun e w' => e = .returned (.tuple #[]) ∧ ∃ im en pt pv, Dn B kb (.slice ao bs.length cap) im en pt pv w0 10 0 (bs.length : Int) w' := by
 have HRw := Lib.hid hraw
 have HSz : Hid (bs.length < 160) := hsz
 have hb1 : Below w.heap.size w ((w.alloc (.cells nilR 93)).setRow w.heap.size (funR kb)) := ((Below.refl _ _).alloc (Nat.le_refl _) _).trans (below_setRow _ _ _ _ (Nat.le_refl _))
 have HZ0 : Hid ((w.alloc (.cells nilR 93)).heap[w.heap.size]? = some (.cells nilR 93 (0, 0))) := heap_alloc_new w _
 have HZ1 : Hid (((w.alloc (.cells nilR 93)).setRow w.heap.size (funR kb)).heap[w.heap.size]? = some (.cells (funR kb) 93 (0, 0))) := setRow_heap _ _ _ _ _ _ HZ0.out
 have H1 : Hid (Dn B kb (.slice ao bs.length cap) im0 en0 0 (.pointer none) w0 0 0 0 ((w.alloc (.cells nilR 93)).setRow w.heap.size (funR kb))) := h.below hb1
 have hne : kb ≠ w.heap.size := by have := h.lt; omega
 have HNe : Hid (kb ≠ w.heap.size) := hne
 clear h hraw hb1 hne
 obtain ⟨W1, hW1⟩ : ∃ W, (w.alloc (.cells nilR 93)).setRow w.heap.size (funR kb) = W := ⟨_, rfl⟩
 rw [hW1] at H1 HZ1
 go_enter Tryz.func19, Tryz.ntmps19
 go_upto_region 1 with (refine wpList_store_arr rfl 93 (.tmp 2) (.tmp 23) rfl (b := w.heap.size) (Z := nilR) (g := funR kb) rfl rfl rfl HZ0.out (info_r kb) rfl (funR_one kb) ?_)
 unfold nilR at hW1
 simp only [hW1]
 clear hW1 HZ0
 have c0 : W1.drew.cell? ⟨kb, 0, none⟩ = some (.slice ao bs.length cap) := H1.out.drew.cell 0
 have c16 : W1.drew.cell? ⟨kb, 16, none⟩ = some (.int .i64 0) := H1.out.drew.cell 16
 have f16 : W1.drew.frozen? ⟨kb, 16, none⟩ = false := H1.out.drew.free 16
 have j1 : (bs.length : Int) ≤ (160 : Int) := by omega
 have j2 : min (160 : Int) (bs.length : Int) = (bs.length : Int) := by omega
 have H2 : Hid (Dn B kb (.slice ao bs.length cap) im0 (en0.set 3 (.int .i64 (bs.length : Int))) 0 (.pointer none) w0 0 0 0 (W1.drew.setCell ⟨kb, 16, none⟩ (.int .i64 (bs.length : Int)))) := Dn.set H1.out.drew (i := 16) rfl rfl rfl
 have HZ2 : Hid ((W1.drew.setCell ⟨kb, 16, none⟩ (.int .i64 (bs.length : Int))).heap[w.heap.size]? = some (.cells (funR kb) 93 (0, 0))) := show _ = _ by
  have h9 := HZ1.out
  have hn := HNe.out
  have h8 : W1.drew.heap[w.heap.size]? = some (.cells (funR kb) 93 (0, 0)) := h9
  simp only [World.setCell, Array.getElem?_modify]
  rw [if_neg hn]
  exact h8
 clear H1 HZ1
 go_cut [] (fun wx => wx = W1.drew.setCell ⟨kb, 16, none⟩ (.int .i64 (bs.length : Int)))
 case first =>
  go_region
  all_goals
   go_wp2_with fail
   go_meet
   rfl
 case rest =>
  obtain rfl := hcut
  generalize W1.drew.setCell ⟨kb, 16, none⟩ (.int .i64 (bs.length : Int)) = W2 at *
  clear c0 c16 f16
  go_wp2_with (refine wpList_load_arr rfl 93 (.tmp 2) rfl (b := w.heap.size) (g := funR kb) rfl HZ2.out Tryz.underlying93 rfl (info_r kb) ?_)
  clear HZ2
  go_loopw [36] (fun iv wr => iv = .int .i64 0 ∧ Hid (Dn B kb (.slice ao bs.length cap) im0 (en0.set 3 (.int .i64 (bs.length : Int))) 0 (.pointer none) w0 0 0 0 wr)) (fun iv _ => 9 - (intOf iv).toNat)
  case atStart => exact ⟨rfl, H2⟩
  case round =>
   clear H2
   obtain ⟨rfl, HI⟩ := hrel
   ·have HO := Lib.hid (openR HI.out HRw.out (k := 0) (f := 0) (l := bs.length) (c := 0) (by decide) ⟨rfl, rfl, rfl, rfl, rfl⟩ (by omega) (by have := HSz.out; omega))
    obtain ⟨sE, hsE⟩ : ∃ t : D, t = askD false 10 0 (bs.length : Int) ⟨0, 0, 0, 0, 0⟩ := ⟨_, rfl⟩
    have HR : Hid (∀ W p g, Dt B kb (.slice ao bs.length cap) im0 (en0.set 3 (.int .i64 (bs.length : Int))) ⟨0, 0, (bs.drop 0).take bs.length⟩ p g w0 ⟨0, 0, 0, 0, 0⟩ W → Calls Tryz.prog 46 #[.pointer (some ⟨kb, 0, none⟩)] W fun e w' => e = .returned (.tuple #[]) ∧ Dt B kb (.slice ao bs.length cap) im0 (en0.set 3 (.int .i64 (bs.length : Int))) ⟨0, 0, (bs.drop 0).take bs.length⟩ p g w0 sE w') := fun W p g hW => by
     rw [hsE]
     exact headShortX hW HSz.out
    have HW : Hid (sE.why = 10 ∧ sE.sec = 0 ∧ sE.ad = (bs.length : Int)) := by
     rw [hsE]
     exact ⟨rfl, rfl, rfl⟩
    have hx9 : ∀ W, (Instr.index 93 (.agg (funR kb)) (.int .i64 0)).run Tryz.prog W = .ok (.func (.func 46) #[.pointer (some ⟨kb, 0, none⟩)] #[]) W := funR_at0 kb
    obtain ⟨q, hq⟩ : ∃ q : Pt, (⟨0, 0, (bs.drop 0).take bs.length⟩ : Pt) = q := ⟨_, rfl⟩
    rw [hq] at HO HR
    clear HI hsE hq
    go_wp2_with fail
    refine HO.out.mono ?_
    rintro e w1 ⟨rfl, p, g, h1, hf1⟩
    have HR1 := Lib.hid (HR.out _ _ _ h1)
    clear h1 hf1 HO HR
    go_wp2_with fail
    refine HR1.out.mono ?_
    rintro e w2 ⟨rfl, h2⟩
    have HD := Lib.hid h2.drew
    clear HR1
    obtain ⟨bb, hbb⟩ : ∃ b, decide (sE.rw = 0 ∧ sE.pos = q.Z.length) = b := ⟨_, rfl⟩
    obtain ⟨ps, hps⟩ : ∃ b, sE.pos = b := ⟨_, rfl⟩
    have hpl := h2.pos_le
    rw [hps] at hpl
    have HpL : Hid (ps ≤ 1099511627776) := hpl
    obtain ⟨sF, hsF⟩ : ∃ t, endD q sE = t := ⟨_, rfl⟩
    have KE : Hid (∀ W, Dt B kb (.slice ao bs.length cap) im0 (en0.set 3 (.int .i64 (bs.length : Int))) q p g w2 sE W → Calls Tryz.prog 57 #[.pointer (some ⟨p, 0, none⟩)] W fun e w' => ∃ r : Int, e = .returned (.int .i64 r) ∧ (r == 0) = bb ∧ Dt B kb (.slice ao bs.length cap) im0 (en0.set 3 (.int .i64 (bs.length : Int))) q p g w2 sE w') := fun W hW => endX1 hW hbb
    have KA : Hid (∀ W, Dt B kb (.slice ao bs.length cap) im0 (en0.set 3 (.int .i64 (bs.length : Int))) q p g w2 sE W → Calls Tryz.prog 58 #[.pointer (some ⟨p, 0, none⟩)] W fun e w' => e = .returned (.int .i64 (ps : Int)) ∧ w' = W) := fun W hW => by rw [← hps]; exact rat_any hW.rd
    have KF : Hid (∀ W, Dt B kb (.slice ao bs.length cap) im0 (en0.set 3 (.int .i64 (bs.length : Int))) q p g w2 sE W → Calls Tryz.prog 56 #[.pointer (some ⟨kb, 0, none⟩), .bool bb, .int .i64 (ps : Int)] W fun e w' => e = .returned (.tuple #[]) ∧ Dt B kb (.slice ao bs.length cap) im0 (en0.set 3 (.int .i64 (bs.length : Int))) q p g w2 sF w') := fun W hW => by
     have h9 := dformX hW bb (a := ps) HpL.out
     rw [← hsF, endD, hbb, hps]
     exact h9
    have HD2 : Hid (Dt B kb (.slice ao bs.length cap) im0 (en0.set 3 (.int .i64 (bs.length : Int))) q p g w2 sE w2.drew) := h2.here.drew
    have HFr : Hid (Fd B w0 w2) := h2.fr
    have c59 := HD2.out.c59
    have hsF2 : sF.why = 10 ∧ sF.sec = 0 ∧ sF.ad = (bs.length : Int) := by
     rw [← hsF, endD, form_why _ _ _ _ (by rw [HW.out.1]; decide)]
     exact HW.out
    have HW2 := Lib.hid hsF2
    clear hsF2
    clear h2 HD hbb hps hpl hsF HpL
    go_wp2_with fail
    go_region_held3 (fun W => W.cell? ⟨kb, 59, none⟩ = some (.pointer (some ⟨p, 0, none⟩))) (first | (with_reducible assumption) | go_keep) (first | (go_at_call 57; refine (KE.out _ HD2.out).mono ?_; rintro e y1 ⟨r, rfl, hr, h1⟩; have HX := Lib.hid h1; have a59 := h1.c59; clear h1) | (go_at_call 58; (first | (refine (KA.out _ HX.out).mono ?_) | (refine (KA.out _ HD2.out).mono ?_)); rintro e y2 ⟨rfl, h9⟩; subst h9) | (go_at_call 56; refine (KF.out _ HX.out).mono ?_; rintro e y3 ⟨rfl, h3⟩; have HY := Lib.hid h3; have b59 := h3.c59; clear h3))
    all_goals
     have c62 := HY.out.c62
     rw [HW2.out.1] at c62
     have HF : Hid (∃ im en pt pv, Dn B kb (.slice ao bs.length cap) im en pt pv w0 10 0 (bs.length : Int) y3) := Lib.hid ⟨im0, _, _, _, by
      have h9 := (HY.out.since HFr.out).dn
      rw [HW2.out.1, HW2.out.2.1, HW2.out.2.2] at h9
      exact h9⟩
     clear HY HX HD2 KE KA KF a59 b59 c59 HFr HW HW2
     go_wp2_with fail
     refine bodyPost_ret (results_none rfl _ _ _) rfl ?_
     exact ⟨rfl, HF.out⟩
end
end Go.Proofs.YtnifefmfhjfbnaaGreatDoor
