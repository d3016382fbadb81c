import Derived.Test.YtmfkggngjeolcaaGreatDoorPk09
import Derived.WalkKit
import Derived.WalkSpells
import Derived.WalkLawsBesides
import Derived.Deep.RegionHeld3
import Derived.Lib.Hide
set_option linter.unusedSimpArgs false
set_option linter.unusedVariables false
set_option maxHeartbeats 4000000
set_option maxRecDepth 100000
namespace Go.Proofs.YtmfkggngjeolcaaGreatDoor
open Go.RowKit Bn Dc
section
variable {B kb : Nat} {raw : Value} {im en : List Value} {q : Pt} {p g : Nat} {w0 : World} {s : D} {w w' : World}
theorem daskX (h : Dt B kb raw im en q p g w0 s w) (b : Bool) (no sec ad : Int) : Calls Tryz.prog 133 #[.pointer (some ⟨kb, 0, none⟩), .bool b, .int .i64 no, .int .i64 sec, .int .i64 ad] w fun e w' => e = .returned (.tuple #[]) ∧ Dt B kb raw im en q p g w0 (askD b no sec ad s) w' := by
 have HS := Lib.hid h;have c62 := h.c62;have c61 := h.c61;have c60 := h.c60;have f62 := h.free 62;have f61 := (h.setWhy no).free 61;have f60 := (h.setWhy no).free 60;have HS2 := Lib.hid (((h.setWhy no).setSec sec).setAd ad);clear h;obtain ⟨why, hwhy⟩ : ∃ y, s.why = y := ⟨_, rfl⟩
 rw [hwhy] at c62
 cases b with
 | true =>
  go_enter Tryz.func133, Tryz.ntmps133
  go_wp2_with fail
  go_end0
  exact ⟨rfl, HS.out⟩
 | false =>
  by_cases hy : why = 0
  ·subst hy;go_enter Tryz.func133, Tryz.ntmps133
   go_wp2_with fail
   go_end0
   refine ⟨rfl, ?_⟩;rw [show askD false no sec ad s = ⟨s.pos, s.rw, no, sec, ad⟩ by unfold askD; rw [if_pos ⟨rfl, hwhy⟩]];exact HS2.out
  ·go_enter Tryz.func133, Tryz.ntmps133
   go_wp2_with fail
   go_end0
   refine ⟨rfl, ?_⟩;rw [show askD false no sec ad s = s by unfold askD; rw [if_neg (fun e => hy (hwhy.symm.trans e.2))]];exact HS.out
theorem dformX (h : Dt B kb raw im en q p g w0 s w) (b : Bool) {a : Nat} (ha : a ≤ 1099511627776) : Calls Tryz.prog 123 #[.pointer (some ⟨kb, 0, none⟩), .bool b, .int .i64 (a : Int)] w fun e w' => e = .returned (.tuple #[]) ∧ Dt B kb raw im en q p g w0 (formD q b a s) w' := by
 have c58 := h.c58;have cfi := h.cfi;have hpt := h.hpt;have hfi : q.fi ≤ 1099511627776 := by have := h.hlen; omega
 have HA := Lib.hid (daskX h.drew b 5 (q.pt : Int) ((q.fi + a : Nat) : Int));rw [show askD b 5 (q.pt : Int) ((q.fi + a : Nat) : Int) s = formD q b a s from rfl] at HA;clear h;have HC : Hid (∀ W t, Dt B kb raw im en q p g w0 t W → W.cell? ⟨kb, 58, none⟩ = some (.int .i64 (q.pt : Int)) ∧ W.cell? ⟨kb, 13 + q.pt * 5 + 2, none⟩ = some (.int .i64 (q.fi : Int))) := fun W t hW => ⟨hW.c58, hW.cfi⟩
 generalize formD q b a s = t at *;have hw1 : IntKind.i64.wrap ((q.fi : Int) + (a : Int)) = ((q.fi + a : Nat) : Int) := by rw [IntKind.wrap_i64]; omega
 have ji : (q.pt : Int) < 9 := by omega
 have j0 : (0 : Int) ≤ (q.pt : Int) := by omega
 go_enter Tryz.func123, Tryz.ntmps123
 go_wp2_with fail
 go_region_held3 (fun W => W.cell? ⟨kb, 58, none⟩ = some (.int .i64 (q.pt : Int)) ∧ W.cell? ⟨kb, 13 + q.pt * 5 + 2, none⟩ = some (.int .i64 (q.fi : Int))) (go_keep) (first | (go_at_call 133; refine HA.out.mono ?_; rintro e w1 ⟨rfl, h1⟩; have H1 := Lib.hid h1; obtain ⟨d1, d2⟩ := HC.out _ _ h1; clear h1 HA HC))
 all_goals
  go_wp2_with fail
  go_end0
  exact ⟨rfl, H1.out⟩
theorem dhalfX (h : Dt B kb raw im en q p g w0 s w) : Calls Tryz.prog 141 #[.pointer (some ⟨kb, 0, none⟩)] w fun e w' => e = .returned (.int .i64 ((takeD q 2 s).1 : Nat)) ∧ Dt B kb raw im en q p g w0 (takeD q 2 s).2 w' := by
 have c59 := h.c59;have hb : (takeD q 2 s).1 ≤ 65535 := Nat.le_of_lt_succ (take_lt h.small 2 s);have HC := Lib.hid (tHalfX h);clear h;generalize (takeD q 2 s).1 = n at *;generalize (takeD q 2 s).2 = t at *;go_enter Tryz.func141, Tryz.ntmps141
 go_wp2_with fail
 refine HC.out.mono ?_;rintro e w1 ⟨rfl, h1⟩;have H1 := Lib.hid h1;clear h1 HC;go_wp2_with fail
 go_ret
 exact ⟨by first | rfl | go_num, H1.out⟩
theorem dbyteX (h : Dt B kb raw im en q p g w0 s w) : Calls Tryz.prog 174 #[.pointer (some ⟨kb, 0, none⟩)] w fun e w' => e = .returned (.int .i64 ((takeD q 1 s).1 : Nat)) ∧ Dt B kb raw im en q p g w0 (takeD q 1 s).2 w' := by
 have c59 := h.c59;have hb : (takeD q 1 s).1 ≤ 255 := Nat.le_of_lt_succ (take_lt h.small 1 s);have HC := Lib.hid (tByteX h);clear h;generalize (takeD q 1 s).1 = n at *;generalize (takeD q 1 s).2 = t at *;go_enter Tryz.func174, Tryz.ntmps174
 go_wp2_with fail
 refine HC.out.mono ?_;rintro e w1 ⟨rfl, h1⟩;have H1 := Lib.hid h1;clear h1 HC;go_wp2_with fail
 go_ret
 exact ⟨by first | rfl | go_num, H1.out⟩
theorem dnoneX (h : Dt B kb raw im en q p g w0 s w) : Calls Tryz.prog 155 #[.pointer (some ⟨kb, 0, none⟩)] w fun e w' => e = .returned (.int .i64 (noneD q s).1) ∧ Dt B kb raw im en q p g w0 (noneD q s).2 w' := by
 have HC := Lib.hid (dhalfX h);unfold noneD;clear h;generalize (takeD q 2 s).1 = n at *;generalize (takeD q 2 s).2 = t at *;dsimp only
 by_cases hn : n = 65535
 ·subst hn;go_enter Tryz.func155, Tryz.ntmps155
  go_wp2_with fail
  refine HC.out.mono ?_;rintro e w1 ⟨rfl, h1⟩;have H1 := Lib.hid h1;clear h1 HC;go_wp2_with fail
  go_ret
  exact ⟨rfl, H1.out⟩
 ·have hi : ¬ (n : Int) = 65535 := by omega
  go_enter Tryz.func155, Tryz.ntmps155
  go_wp2_with fail
  refine HC.out.mono ?_;rintro e w1 ⟨rfl, h1⟩;have H1 := Lib.hid h1;clear h1 HC;go_wp2_with fail
  go_ret
  exact ⟨by rw [noneV, if_neg hn]; rfl, H1.out⟩
theorem dgoesX (h : Dt B kb raw im en q p g w0 s w) : Calls Tryz.prog 173 #[.pointer (some ⟨kb, 0, none⟩)] w fun e w' => e = .returned (.bool (goD s)) ∧ w' = w := by
 have c59 := h.c59;have c62 := h.c62;have HC := Lib.hid (rerr_any h.rd);unfold goD;clear h;generalize s.why = y at *;generalize s.rw = r at *
 by_cases hy : y = 0
 ·subst hy
  by_cases hr : r = 0
  ·subst hr;go_enter Tryz.func173, Tryz.ntmps173
   go_wp2_with fail
   refine HC.out.mono ?_;rintro e w1 ⟨rfl, h1⟩;subst h1;go_wp2_with fail
   go_ret
   exact ⟨rfl, rfl⟩
  ·go_enter Tryz.func173, Tryz.ntmps173
   go_wp2_with fail
   refine HC.out.mono ?_;rintro e w1 ⟨rfl, h1⟩;subst h1;go_wp2_with fail
   go_ret
   exact ⟨by simp [hr], rfl⟩
 ·go_enter Tryz.func173, Tryz.ntmps173
  go_wp2_with fail
  go_ret
  exact ⟨by simp [hy], rfl⟩
theorem dflagX (h : Dt B kb raw im en q p g w0 s w) : Calls Tryz.prog 175 #[.pointer (some ⟨kb, 0, none⟩)] w fun e w' => e = .returned (.bool (flagD q s).1) ∧ Dt B kb raw im en q p g w0 (flagD q s).2 w' := by
 have c59 := h.c59;have hb : (takeD q 1 s).1 ≤ 255 := Nat.le_of_lt_succ (take_lt h.small 1 s);have hp : s.pos ≤ 1099511627776 := by have := h.rd.2.2.2.1; have := h.hlen; omega
 have HA := Lib.hid (rat_any h.rd);have HC := Lib.hid (tByteX h);have HF : Hid (∀ W, Dt B kb raw im en q p g w0 (takeD q 1 s).2 W → Calls Tryz.prog 123 #[.pointer (some ⟨kb, 0, none⟩), .bool (decide ((takeD q 1 s).1 ≤ 1)), .int .i64 (s.pos : Int)] W fun e w' => e = .returned (.tuple #[]) ∧ Dt B kb raw im en q p g w0 (formD q (decide ((takeD q 1 s).1 ≤ 1)) s.pos (takeD q 1 s).2) w') := fun W hW => dformX hW _ hp;unfold flagD;dsimp only;clear h;generalize formD q (decide ((takeD q 1 s).1 ≤ 1)) s.pos (takeD q 1 s).2 = u at *;generalize (takeD q 1 s).2 = t at *;generalize (takeD q 1 s).1 = n at *;generalize s.pos = ps at *;have e1 : decide ((n : Int) ≤ 1) = decide (n ≤ 1) := by by_cases h : n ≤ 1 <;> simp [h] <;> omega
 have e2 : decide ((n : Int) = 1) = decide (n = 1) := by by_cases h : n = 1 <;> simp [h] <;> omega
 go_enter Tryz.func175, Tryz.ntmps175
 go_wp2_with fail
 refine HA.out.mono ?_;rintro e w1 ⟨rfl, h1⟩;subst h1;go_wp2_with fail
 refine HC.out.mono ?_;rintro e w1 ⟨rfl, h1⟩;have HF1 := Lib.hid (HF.out _ h1);clear h1 HC HF HA
 by_cases hn : n ≤ 1
 ·have hi : (n : Int) ≤ 1 := by omega
  simp only [hn, decide_true] at HF1;go_wp2_with fail
  refine HF1.out.mono ?_;rintro e w2 ⟨rfl, h2⟩;have H2 := Lib.hid h2;clear h2 HF1;go_wp2_with fail
  go_ret
  exact ⟨by rw [← e2]; rfl, H2.out⟩
 ·have hi : ¬ (n : Int) ≤ 1 := by omega
  simp only [hn, decide_false] at HF1;go_wp2_with fail
  refine HF1.out.mono ?_;rintro e w2 ⟨rfl, h2⟩;have H2 := Lib.hid h2;clear h2 HF1;go_wp2_with fail
  go_ret
  exact ⟨by rw [← e2]; rfl, H2.out⟩
end
end Go.Proofs.YtmfkggngjeolcaaGreatDoor
namespace Go.Proofs.YtmfkggngjeolcaaGreatDoor
open Go.RowKit Bn Dc
theorem form_true (q : Pt) (a : Nat) (s : D) : formD q true a s = s := by unfold formD askD; rw [if_neg (fun e => by cases e.1)]
theorem form_why (q : Pt) (b : Bool) (a : Nat) (s : D) (h : s.why ≠ 0) : formD q b a s = s := by unfold formD askD; rw [if_neg (fun e => h e.2)]
theorem form_next (q : Pt) (l : List Nat) (x a : Nat) (s : D) : formD q (decide (x = 0)) a (formD q (allZ l) a s) = formD q (allZ (l ++ [x])) a s := by
 by_cases h1 : allZ l = true
 ·rw [h1, form_true];have h1' := of_decide_eq_true h1
  by_cases h2 : x = 0
  ·rw [show allZ (l ++ [x]) = true from decide_eq_true (fun z hz => by rcases List.mem_append.1 hz with h | h; exact h1' z h; simp at h; omega), h2]
   rfl
  ·rw [show allZ (l ++ [x]) = false from decide_eq_false (fun e => h2 (e x (by simp))), show decide (x = 0) = false from decide_eq_false h2]
 ·have h3 : allZ l = false := by simpa using h1
  have h4 : allZ (l ++ [x]) = false := decide_eq_false (fun e => h1 (decide_eq_true (fun z hz => e z (by simp [hz]))));rw [h3, h4]
  by_cases h5 : s.why = 0
  ·exact form_why _ _ _ _ (by unfold formD askD; rw [if_pos ⟨rfl, h5⟩]; exact (by decide : (5 : Int) ≠ 0))
  ·rw [form_why _ _ _ _ h5, form_why _ _ _ _ h5]
section
variable {B kb : Nat} {raw : Value} {im en : List Value} {q : Pt} {p g : Nat} {w0 : World} {s : D} {w w' : World}
theorem Bv.slice {v : Value} {bs : List Nat} (h : Bv w v bs) : ∃ ao, v = .slice ao bs.length bs.length := by
 obtain ⟨h1, h2, ⟨rfl, rfl⟩ | ⟨k, rfl, hr⟩⟩ := h
 ·exact ⟨none, rfl⟩
 ·exact ⟨_, rfl⟩
theorem dzerosX (h : Dt B kb raw im en q p g w0 s w) {n : Nat} (hn : n ≤ 4096) : Calls Tryz.prog 142 #[.pointer (some ⟨kb, 0, none⟩), .int .i64 (n : Int)] w fun e w' => e = .returned (.tuple #[]) ∧ Dt B kb raw im en q p g w0 (zerosD q n s) w' := by
 have c59 := h.c59;have hp : s.pos ≤ 1099511627776 := by have := h.rd.2.2.2.1; have := h.hlen; omega
 have HA := Lib.hid (rat_any h.rd);have HC := Lib.hid (tBytesX h (n := n) (by omega));unfold zerosD;clear h;generalize (bytesD q n s).1 = bs at *;generalize (bytesD q n s).2 = t at *;generalize s.pos = ps at *;go_enter Tryz.func142, Tryz.ntmps142
 go_wp2_with fail
 refine HA.out.mono ?_;rintro e w1 ⟨rfl, h1⟩;subst h1;go_wp2_with fail
 refine HC.out.mono ?_;rintro e w1 ⟨v, rfl, hv, h1⟩;have hbl := hv.2.1;obtain ⟨ao, rfl⟩ := hv.slice;obtain ⟨m, hm⟩ : ∃ m, bs.length = m := ⟨_, rfl⟩
 have HM := Lib.hid hm;have HV0 := Lib.hid hv;have H0 : Hid (Dt B kb raw im en q p g w0 (formD q (allZ (bs.take 0)) ps t) w1) := by
  rw [show allZ (bs.take 0) = true from rfl, form_true];exact Lib.hid h1
 rw [hm] at hbl HV0 ⊢;clear hm hv h1 HC HA c59;go_wp2_with fail
 go_loopw [19] (fun iv wr => ∃ i : Nat, i ≤ m ∧ iv = .int .i64 (i : Int) ∧ Hid (Bv wr (.slice ao m m) bs) ∧ Hid (Dt B kb raw im en q p g w0 (formD q (allZ (bs.take i)) ps t) wr)) (fun iv _ => m - (intOf iv).toNat)
 case atStart => exact ⟨0, Nat.zero_le _, rfl, HV0, H0⟩
 case round =>
  clear H0 HV0;obtain ⟨i, hi, rfl, HV, HI⟩ := hrel
  by_cases hin : i < m
  ·have ji : (i : Int) < (m : Int) := by omega
   have hw1 : IntKind.i64.wrap ((i : Int) + 1) = ((i + 1 : Nat) : Int) := by rw [IntKind.wrap_i64]; omega
   have hix : i < bs.length := by rw [HM.out]; exact hin
   obtain ⟨b, of, cap, e9, hc1, hc2, hz, hc⟩ := HV.out.sl.pos (by omega);simp only [Value.slice.injEq] at e9;obtain ⟨rfl, e8, rfl⟩ := e9;have hci := hc i hix;have HN : Hid (∀ W, Dt B kb raw im en q p g w0 (formD q (decide (bs.getD i 0 = 0)) ps (formD q (allZ (bs.take i)) ps t)) W → Dt B kb raw im en q p g w0 (formD q (allZ (bs.take (i + 1))) ps t) W) := fun W hW => by
    rw [form_next] at hW;have e : bs.take (i + 1) = bs.take i ++ [bs.getD i 0] := by
     rw [List.take_add_one, List.getElem?_eq_getElem hix, List.getD_eq_getElem?_getD, List.getElem?_eq_getElem hix]
     rfl
    rw [e];exact hW
   have hx : bs.getD i 0 < 256 := Pl.mem_getD hz;generalize bs.getD i 0 = x at hci HN hx;clear hc hz e8 hc1 hc2;have HF := Lib.hid (dformX HI.out.here (decide (x = 0)) hp);have HFw := Lib.hid HI.out.fr;clear HI
   by_cases hx0 : x = 0
   ·subst hx0;simp only [decide_true] at HF HN;go_wp2_with fail
    refine HF.out.mono ?_;rintro e w2 ⟨rfl, h2⟩;have HV2 := Lib.hid (HV.out.fd h2.fr);have H2 := Lib.hid (HN.out _ (h2.since HFw.out));clear h2 HF HV HN;go_wp2_with fail
    go_roundw
    case rel => exact ⟨i + 1, by omega, rfl, HV2, H2⟩
    case measure => simp [intOf]; omega
   ·have hxi : ¬ (x : Int) = 0 := by omega
    have hxb : ((x : Int) == 0) = false := by simp [hx0]
    simp only [hx0, decide_false] at HF HN;go_wp2_with fail
    refine HF.out.mono ?_;rintro e w2 ⟨rfl, h2⟩;have HV2 := Lib.hid (HV.out.fd h2.fr);have H2 := Lib.hid (HN.out _ (h2.since HFw.out));clear h2 HF HV HN;go_wp2_with fail
    go_roundw
    case rel => exact ⟨i + 1, by omega, rfl, HV2, H2⟩
    case measure => simp [intOf]; omega
  ·obtain rfl : i = m := by omega
   have ji : ¬ (i : Int) < (i : Int) := by omega
   rw [List.take_of_length_le (by rw [HM.out]; exact Nat.le_refl _)] at HI;go_wp2_with fail
   go_end0
   exact ⟨rfl, HI.out⟩
theorem dmanyX (h : Dt B kb raw im en q p g w0 s w) : Calls Tryz.prog 146 #[.pointer (some ⟨kb, 0, none⟩)] w fun e w' => e = .returned (.int .i64 ((manyD q s).1 : Nat)) ∧ Dt B kb raw im en q p g w0 (manyD q s).2 w' := by
 have HC := Lib.hid (dhalfX h);have HZ : Hid (∀ W, Dt B kb raw im en q p g w0 (takeD q 2 s).2 W → _) := fun W hW => dzerosX hW (n := 6) (by decide);unfold manyD;dsimp only;clear h;generalize (takeD q 2 s).1 = n at *;generalize (takeD q 2 s).2 = t at *;generalize zerosD q 6 t = u at *;go_enter Tryz.func146, Tryz.ntmps146
 go_wp2_with fail
 refine HC.out.mono ?_;rintro e w1 ⟨rfl, h1⟩;have HZ1 := Lib.hid (HZ.out _ h1);clear h1 HC HZ;go_wp2_with fail
 refine HZ1.out.mono ?_;rintro e w2 ⟨rfl, h2⟩;have H2 := Lib.hid h2;clear h2 HZ1;go_wp2_with fail
 go_ret
 exact ⟨rfl, H2.out⟩
end
end Go.Proofs.YtmfkggngjeolcaaGreatDoor
namespace Go.Proofs.YtmfkggngjeolcaaGreatDoor
open Go.RowKit Bn Dc
section
variable {B kb : Nat} {raw : Value} {im en : List Value} {q : Pt} {p g : Nat} {w0 : World} {s : D} {w w' : World}
theorem take_pos_le (h : s.pos ≤ q.Z.length) (k : Nat) : (takeD q k s).2.pos ≤ q.Z.length := by
 unfold takeD
 split
 ·split
  ·assumption
  ·exact h
 ·exact h
theorem dtextX (h : Dt B kb raw im en q p g w0 s w) : Calls Tryz.prog 177 #[.pointer (some ⟨kb, 0, none⟩)] w fun e w' => e = .returned (.string (textD q s).1) ∧ Dt B kb raw im en q p g w0 (textD q s).2 w' := by
 have c59 := h.c59;have hb : (takeD q 4 s).1 ≤ 4294967295 := Nat.le_of_lt_succ (take_lt h.small 4 s);have hp : s.pos ≤ 1099511627776 := by have := h.rd.2.2.2.1; have := h.hlen; omega
 have hl : q.Z.length ≤ 1099511627776 := by have := h.hlen; omega
 have HA := Lib.hid (rat_any h.rd);have HC := Lib.hid (tWordX h);have H59 : Hid (∀ W t, Dt B kb raw im en q p g w0 t W → W.cell? ⟨kb, 59, none⟩ = some (.pointer (some ⟨p, 0, none⟩))) := fun W t hW => hW.c59
 show Calls _ _ _ _ (fun e w' => e = .returned (.string (mkS (bytesD q (takeD q 4 s).1 (formD q (decide ((takeD q 4 s).1 ≤ 1048576) && decide ((takeD q 4 s).1 ≤ q.Z.length - (takeD q 4 s).2.pos)) s.pos (takeD q 4 s).2)).1)) ∧ Dt B kb raw im en q p g w0 (padD q 8 (bytesD q (takeD q 4 s).1 (formD q (decide ((takeD q 4 s).1 ≤ 1048576) && decide ((takeD q 4 s).1 ≤ q.Z.length - (takeD q 4 s).2.pos)) s.pos (takeD q 4 s).2)).2) w')
 clear h;generalize (takeD q 4 s).1 = n at *;generalize (takeD q 4 s).2 = t at *;generalize s.pos = ps at *;have HL : Hid (∀ W, Dt B kb raw im en q p g w0 t W → Calls Tryz.prog 161 #[.pointer (some ⟨p, 0, none⟩)] W fun e w' => e = .returned (.int .i64 ((q.Z.length - t.pos : Nat) : Int)) ∧ Dt B kb raw im en q p g w0 t w') := fun W hW => (rleft_any hW.rd).mono (fun e w' h => ⟨h.1, hW.below h.2.2⟩);have HF : Hid (∀ W (b : Bool), Dt B kb raw im en q p g w0 t W → Calls Tryz.prog 123 #[.pointer (some ⟨kb, 0, none⟩), .bool b, .int .i64 (ps : Int)] W fun e w' => e = .returned (.tuple #[]) ∧ Dt B kb raw im en q p g w0 (formD q b ps t) w') := fun W b hW => dformX hW b hp;have HY : Hid (∀ W u, Dt B kb raw im en q p g w0 u W → Calls Tryz.prog 134 #[.pointer (some ⟨p, 0, none⟩), .int .i64 (n : Int)] W fun e w' => ∃ v, e = .returned v ∧ Bv w' v (bytesD q n u).1 ∧ Dt B kb raw im en q p g w0 (bytesD q n u).2 w') := fun W u hW => tBytesX hW (by omega);have HP : Hid (∀ W u, Dt B kb raw im en q p g w0 u W → Calls Tryz.prog 190 #[.pointer (some ⟨p, 0, none⟩), .int .i64 8] W fun e w' => e = .returned (.tuple #[]) ∧ Dt B kb raw im en q p g w0 (padD q 8 u) w') := fun W u hW => tPadX hW;generalize hlf : q.Z.length - t.pos = lf at HL ⊢;have hlf2 : lf ≤ 1099511627776 := by omega
 clear hlf;generalize hbb : (decide (n ≤ 1048576) && decide (n ≤ lf)) = b;have HBB := Lib.hid hbb;clear hbb;go_enter Tryz.func177, Tryz.ntmps177
 go_wp2_with fail
 refine HA.out.mono ?_;rintro e w1 ⟨rfl, h1⟩;subst h1;clear HA;go_wp2_with fail
 refine HC.out.mono ?_;rintro e w1 ⟨rfl, h1⟩;clear HC c59;have hwn : IntKind.i64.wrap (n : Int) = (n : Int) := by rw [IntKind.wrap_i64]; omega
 by_cases hn : n ≤ 1048576
 ·have hni : (n : Int) ≤ 1048576 := by omega
  have c59 := H59.out _ _ h1;have HL1 := Lib.hid (HL.out _ h1);clear h1 HL;go_wp2_with fail
  refine HL1.out.mono ?_;rintro e w2 ⟨rfl, h2⟩;clear HL1 c59
  by_cases hle : n ≤ lf
  ·have hli : (n : Int) ≤ (lf : Int) := by omega
   have HF1 := Lib.hid (HF.out _ true h2);obtain rfl : b = true := by rw [← HBB.out]; simp [hn, hle]
   clear h2 HF;go_wp2_with fail
   refine HF1.out.mono ?_;rintro e w3 ⟨rfl, h3⟩;have c59 := H59.out _ _ h3;have HY1 := Lib.hid (HY.out _ _ h3);clear h3 HF1 HY;go_wp2_with fail
   refine HY1.out.mono ?_;rintro e w4 ⟨v, rfl, hv, h4⟩;have c59b := H59.out _ _ h4;have HV := Lib.hid hv.sl;have HP1 := Lib.hid (HP.out _ _ h4);clear h4 hv HY1 HP c59;go_wp2_with (refine wpList_conv (.tmp 36) (by rfl) rfl rfl HV.out ?_)
   refine HP1.out.mono ?_;rintro e w5 ⟨rfl, h5⟩;have H5 := Lib.hid h5;clear h5 HP1;go_wp2_with fail
   go_ret
   exact ⟨rfl, H5.out⟩
  ·have hli : ¬ (n : Int) ≤ (lf : Int) := by omega
   have HF1 := Lib.hid (HF.out _ false h2);obtain rfl : b = false := by rw [← HBB.out]; simp [hle]
   clear h2 HF;go_wp2_with fail
   refine HF1.out.mono ?_;rintro e w3 ⟨rfl, h3⟩;have c59 := H59.out _ _ h3;have HY1 := Lib.hid (HY.out _ _ h3);clear h3 HF1 HY;go_wp2_with fail
   refine HY1.out.mono ?_;rintro e w4 ⟨v, rfl, hv, h4⟩;have c59b := H59.out _ _ h4;have HV := Lib.hid hv.sl;have HP1 := Lib.hid (HP.out _ _ h4);clear h4 hv HY1 HP c59;go_wp2_with (refine wpList_conv (.tmp 36) (by rfl) rfl rfl HV.out ?_)
   refine HP1.out.mono ?_;rintro e w5 ⟨rfl, h5⟩;have H5 := Lib.hid h5;clear h5 HP1;go_wp2_with fail
   go_ret
   exact ⟨rfl, H5.out⟩
 ·have hni : ¬ (n : Int) ≤ 1048576 := by omega
  have HF1 := Lib.hid (HF.out _ false h1);obtain rfl : b = false := by rw [← HBB.out]; simp [hn]
  clear h1 HF;go_wp2_with fail
  refine HF1.out.mono ?_;rintro e w3 ⟨rfl, h3⟩;have c59 := H59.out _ _ h3;have HY1 := Lib.hid (HY.out _ _ h3);clear h3 HF1 HY;go_wp2_with fail
  refine HY1.out.mono ?_;rintro e w4 ⟨v, rfl, hv, h4⟩;have c59b := H59.out _ _ h4;have HV := Lib.hid hv.sl;have HP1 := Lib.hid (HP.out _ _ h4);clear h4 hv HY1 HP c59;go_wp2_with (refine wpList_conv (.tmp 36) (by rfl) rfl rfl HV.out ?_)
  refine HP1.out.mono ?_;rintro e w5 ⟨rfl, h5⟩;have H5 := Lib.hid h5;clear h5 HP1;go_wp2_with fail
  go_ret
  exact ⟨rfl, H5.out⟩
end
end Go.Proofs.YtmfkggngjeolcaaGreatDoor
