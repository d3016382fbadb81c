import Derived.Test.YtmfkggngjeolcaaGreatDoorPk12
import Derived.WalkKit
import Derived.WalkSpells
import Derived.WalkLawsBesides
import Derived.Deep.WholeRow
import Derived.Deep.MidRow
import Derived.Laws.ResultCell
import Derived.Deep.RegionHeld3
import Derived.Shelf.Abstract
import Derived.ChangeKeysEq
import Derived.Laws.StructEq
import Derived.Lib.Hide
set_option linter.unusedSimpArgs false
set_option linter.unusedVariables false
set_option maxHeartbeats 8000000
set_option maxRecDepth 100000
namespace Go.Proofs.YtmfkggngjeolcaaGreatDoor
open Go.RowKit Bn
section
variable {B kb : Nat} {im : List Value} {o : Option Nat} {en : List Value} {w0 : World} {s : S} {w : World}
theorem roomX (h : Sx B kb im o en w0 s w) {base : Nat} (hi : im[0]? = some (.int .u64 (base : Int))) (hb : base ≤ 18446744073709551615) (hl : s.1.length + 160 ≤ 270000000000) : Calls Tryz.prog 47 #[.pointer (some ⟨kb, 0, none⟩)] w fun e w' => e = .returned (.tuple #[]) ∧ Sx B kb im o en w0 (zerosS 160 (fieldS (decide (base % 4096 = 0)) s)) w' := by
 have c0 : w.cell? ⟨kb, 0, none⟩ = some (.int .u64 (base : Int)) := (St.cell h 0).trans ((lyC_im h.him (by decide)).trans hi);have HC := Lib.hid (fieldX h (decide (base % 4096 = 0)));have HL : Hid (s.1.length + 160 ≤ 270000000000) := hl;have hr : Int.tmod (base : Int) 4096 = ((base % 4096 : Nat) : Int) := rfl;obtain ⟨q, hq⟩ : ∃ q, base % 4096 = q := ⟨_, rfl⟩
 have hd : ((q : Int) == 0) = decide (q = 0) := by
  by_cases h : q = 0
  ·rw [decide_eq_true h, h]; rfl
  ·rw [decide_eq_false h]; simp [h]
 rw [hq] at HC hr ⊢;clear h hl hi hq;obtain ⟨bb, hbb⟩ : ∃ bb, decide (q = 0) = bb := ⟨_, rfl⟩
 rw [hbb] at HC hd ⊢;clear hbb;go_enter Tryz.func47, Tryz.ntmps47
 go_wp2_with fail
 refine HC.out.mono ?_;rintro e w1 ⟨rfl, h1⟩;have HC1 := Lib.hid (zerosX h1 (c := 160) (by rw [field_len]; have := HL.out; omega));clear h1 HC;go_wp2_with fail
 refine HC1.out.mono ?_;rintro e w2 ⟨rfl, h2⟩;have H2 := Lib.hid h2;clear h2 HC1;go_wp2_with fail
 go_end0
 exact ⟨rfl, H2.out⟩
theorem busX (h : Sx B kb im o en w0 s w) {rv dv : Value} {rs ds : List Rg} (hi1 : im[1]? = some rv) (hi2 : im[2]? = some dv) (hr : ∀ W, Fx B w0 W → RowG 2 rgE W rv rs) (hd : ∀ W, Fx B w0 W → RowG 2 rgE W dv ds) (ho1 : ∀ x ∈ rs, rgOk x) (ho2 : ∀ x ∈ ds, rgOk x) (hl : s.1.length + 8 + 16 * rs.length + 16 * ds.length ≤ 274877906944) : Calls Tryz.prog 48 #[.pointer (some ⟨kb, 0, none⟩)] w fun e w' => e = .returned (.tuple #[]) ∧ Sx B kb im o en w0 (eachS rangeS ds (eachS rangeS rs (zerosS 4 (halfS (ds.length : Int) (halfS (rs.length : Int) s))))) w' := by
 have HL : Hid (s.1.length + 8 + 16 * rs.length + 16 * ds.length ≤ 274877906944) := hl;have c1 : w.cell? ⟨kb, 1, none⟩ = some rv := (St.cell h 1).trans ((lyC_im h.him (by decide)).trans hi1);have c2 : w.cell? ⟨kb, 2, none⟩ = some dv := (St.cell h 2).trans ((lyC_im h.him (by decide)).trans hi2);obtain ⟨ao, cap, rfl, q1, q2, _⟩ := hr w h.fr;obtain ⟨bo, bap, rfl, p1, p2, _⟩ := hd w h.fr;unfold maxLen at q2 p2;have HF0 : Hid (Fx B w0 (w.alloc (.cells #[.slice ao rs.length cap, .slice bo ds.length bap] 25))) := h.fr.trans (Fx.of_below ((Below.refl _ _).alloc (Nat.le_refl _) _));have HS0 : Hid (Sx B kb im o en (w.alloc (.cells #[.slice ao rs.length cap, .slice bo ds.length bap] 25)) s (w.alloc (.cells #[.slice ao rs.length cap, .slice bo ds.length bap] 25))) := (St.below h ((Below.refl _ _).alloc (Nat.le_refl _) _)).here;have HBx : Hid (∀ W, Fx B (w.alloc (.cells #[.slice ao rs.length cap, .slice bo ds.length bap] 25)) W → W.cell? ⟨w.heap.size, 0, none⟩ = some (.slice ao rs.length cap) ∧ W.cell? ⟨w.heap.size, 1, none⟩ = some (.slice bo ds.length bap)) := fun W hW => by
  have hb := (hW.block' ⟨_, heap_alloc_new w _⟩ (by simp) (by decide) (by decide) (by decide)).trans (heap_alloc_new w _);refine ⟨?_, ?_⟩ <;> (rw [cell_of_row _ _ _ _ _ _ hb]; rfl)
 have HR1 : Hid (∀ W, Fx B (w.alloc (.cells #[.slice ao rs.length cap, .slice bo ds.length bap] 25)) W → RowG 2 rgE W (.slice ao rs.length cap) rs) := fun W hW => hr W (HF0.out.trans hW);have HR2 : Hid (∀ W, Fx B (w.alloc (.cells #[.slice ao rs.length cap, .slice bo ds.length bap] 25)) W → RowG 2 rgE W (.slice bo ds.length bap) ds) := fun W hW => hd W (HF0.out.trans hW);have HO1 : Hid (∀ x ∈ rs, rgOk x) := ho1;have HO2 : Hid (∀ x ∈ ds, rgOk x) := ho2;clear h hl hi1 hi2 hr hd ho1 ho2;obtain ⟨n, hn⟩ : ∃ n, rs.length = n := ⟨_, rfl⟩
 obtain ⟨m, hm⟩ : ∃ m, ds.length = m := ⟨_, rfl⟩
 have HN := Lib.hid hn;have HM := Lib.hid hm;rw [hn, hm] at HF0 HS0 HBx HR1 HR2;rw [hn] at HL q1 c1;rw [hm] at HL p1 c2;rw [hn, hm];clear hn hm;go_enter Tryz.func48, Tryz.ntmps48
 go_wp2_with fail
 obtain ⟨d0, d1⟩ := HBx.out _ (Fx.refl _ _);refine (halfX HS0.out (k := (n : Int)) ⟨by omega, by omega⟩ (by have := HL.out; omega)).mono ?_;rintro e w1 ⟨rfl, h1⟩;have H1 := Lib.hid h1;clear d0 d1;obtain ⟨d0, d1⟩ := HBx.out _ h1.fr;clear h1 HS0;go_wp2_with fail
 refine (halfX H1.out (k := (m : Int)) ⟨by omega, by omega⟩ (by rw [half_len]; have := HL.out; omega)).mono ?_;rintro e w2 ⟨rfl, h2⟩;have H2 := Lib.hid h2;clear d0 d1;obtain ⟨d0, d1⟩ := HBx.out _ h2.fr;clear h2 H1;go_wp2_with fail
 refine (zerosX H2.out (c := 4) (by rw [half_len, half_len]; have := HL.out; omega)).mono ?_;rintro e w3 ⟨rfl, h3⟩;have H3 := Lib.hid h3;clear d0 d1;obtain ⟨d0, d1⟩ := HBx.out _ h3.fr;clear h3 H2;go_wp2_with fail
 refine (rangesX H3.out HR1.out HO1.out (by rw [zeros_len, half_len, half_len, HN.out]; have := HL.out; omega)).mono ?_;rintro e w4 ⟨rfl, h4⟩;have H4 := Lib.hid h4;clear d0 d1;obtain ⟨d0, d1⟩ := HBx.out _ h4.fr;clear h4 H3;go_wp2_with fail
 refine (rangesX H4.out HR2.out HO2.out (by rw [each_len rangeS_len, zeros_len, half_len, half_len, HN.out, HM.out]; have := HL.out; omega)).mono ?_;rintro e w5 ⟨rfl, h5⟩;have H5 := Lib.hid (St.since h5 HF0.out);clear d0 d1 h5 H4;go_wp2_with fail
 go_end0
 exact ⟨rfl, H5.out⟩
theorem portsX (h : Sx B kb im o en w0 s w) {v : Value} {xs : List Int} {da : Option Addr} {dn dc : Nat} (hi : im[4]? = some v) (hi2 : im[2]? = some (.slice da dn dc)) (hr : ∀ W, Fx B w0 W → RowG 1 poE W v xs) (hok : ∀ x ∈ xs, I64R x) (hl : s.1.length + 8 + 8 * xs.length ≤ 274877906944) : Calls Tryz.prog 50 #[.pointer (some ⟨kb, 0, none⟩)] w fun e w' => e = .returned (.tuple #[]) ∧ Sx B kb im o en w0 (eachS portS xs (manyS xs.length (fieldS (decide (xs.length = dn)) s))) w' := by
 have HR : Hid (∀ W, Fx B w0 W → RowG 1 poE W v xs) := hr;have HL : Hid ((manyS xs.length (fieldS (decide (xs.length = dn)) s)).1.length + 8 * xs.length ≤ 274877906944) := show _ ≤ _ by rw [many_len, field_len]; exact hl
 have HOk : Hid (∀ x ∈ xs, I64R x) := hok;obtain ⟨ao, cap, rfl, h1, h2, _⟩ := hr w h.fr;unfold maxLen at h2;have HI : Hid (∀ W s', Sx B kb im o en w0 s' W → W.cell? ⟨kb, 4, none⟩ = some (.slice ao xs.length cap) ∧ W.cell? ⟨kb, 2, none⟩ = some (.slice da dn dc)) := fun W s' hW => ⟨(St.cell hW 4).trans ((lyC_im hW.him (by decide)).trans hi), (St.cell hW 2).trans ((lyC_im hW.him (by decide)).trans hi2)⟩
 have HD : Hid (Sx B kb im o en w0 s w.drew) := St.below h ⟨rfl, rfl, rfl, Nat.le_refl _, fun _ _ => rfl⟩;obtain ⟨c4, c2⟩ := HI.out _ _ h;have HS0 : Hid (w.drew.cell? ⟨kb, 4, none⟩ = some (.slice ao xs.length cap) ∧ w.drew.cell? ⟨kb, 2, none⟩ = some (.slice da dn dc)) := HI.out _ _ HD.out;obtain ⟨n, hn⟩ : ∃ n, xs.length = n := ⟨_, rfl⟩
 have HN := Lib.hid hn;have hd : ((n : Int) == (dn : Int)) = decide (n = dn) := by
  by_cases h : n = dn
  ·rw [decide_eq_true h, h]; simp
  ·rw [decide_eq_false h]; simp; omega
 have HMs : Hid (∀ W, Sx B kb im o en w0 (fieldS (decide (n = dn)) s) W → Calls Tryz.prog 89 #[.pointer (some ⟨kb, 0, none⟩), .int .i64 (n : Int)] W fun e w' => e = .returned (.tuple #[]) ∧ Sx B kb im o en w0 (manyS n (fieldS (decide (n = dn)) s)) w') := fun W hW => manyX hW (by omega) (by rw [field_len]; omega);rw [hn] at h1 HR HI c4 HS0 HL ⊢;obtain ⟨bb, hbb⟩ : ∃ bb, decide (n = dn) = bb := ⟨_, rfl⟩
 rw [hbb] at hd HL HMs ⊢;have HC := Lib.hid (fieldX HD.out bb);clear hn h hl hok hr hi hi2 hbb HD;obtain ⟨s0, hs0⟩ : ∃ s0, manyS n (fieldS bb s) = s0 := ⟨_, rfl⟩
 rw [hs0] at HL HMs ⊢;clear hs0;have HCf : Hid (Calls Tryz.prog 86 #[.pointer (some ⟨kb, 0, none⟩), .bool bb] w.drew fun e w' => e = .returned (.tuple #[]) ∧ (w'.cell? ⟨kb, 4, none⟩ = some (.slice ao n cap) ∧ w'.cell? ⟨kb, 2, none⟩ = some (.slice da dn dc)) ∧ Hid (Sx B kb im o en w0 (fieldS bb s) w')) := HC.out.mono (fun e w' h => ⟨h.1, HI.out _ _ h.2, h.2⟩);clear HC;go_enter Tryz.func50, Tryz.ntmps50
 go_upto_region 0 with fail
 go_region_held3 (fun w' => w'.cell? ⟨kb, 4, none⟩ = some (.slice ao n cap) ∧ w'.cell? ⟨kb, 2, none⟩ = some (.slice da dn dc)) (go_keep) (first | (go_at_call 86; refine HCf.out.mono ?_; rintro e w5 ⟨rfl, ⟨k4, k2⟩, H5⟩))
 go_wp2_with fail
 refine (HMs.out _ H5.out).mono ?_;rintro e w1 ⟨rfl, hm1⟩;have k4' := (HI.out _ _ hm1).1;have H0 : Hid (Sx B kb im o en w0 (eachS portS (xs.take 0) s0) w1) := Lib.hid hm1;clear hm1 HMs HI k4 k2 H5 c4 c2;go_wp2_with fail
 go_loopw [34] (fun iv wr => ∃ i : Nat, i ≤ n ∧ iv = .int .i64 (i : Int) ∧ Hid (Sx B kb im o en w0 (eachS portS (xs.take i) s0) wr)) (fun iv _ => n - (intOf iv).toNat)
 case atStart => exact ⟨0, Nat.zero_le _, rfl, H0⟩
 case round =>
  clear H0;obtain ⟨i, hi, rfl, HI⟩ := hrel
  by_cases hin : i < n
  ·have ji : (i : Int) < (n : Int) := by omega
   have hix : i < xs.length := by rw [HN.out]; exact hin
   have hw1 : IntKind.i64.wrap ((i : Int) + 1) = ((i + 1 : Nat) : Int) := by rw [IntKind.wrap_i64]; omega
   obtain ⟨_, _, e', _, _, hc⟩ := HR.out wr HI.out.fr;simp only [Value.slice.injEq] at e';obtain ⟨rfl, e9, rfl⟩ := e';clear e9;obtain ⟨b, of, rfl, _, hc⟩ := hc i hix;have c0 := hc 0 (by decide);simp only [poE, List.getElem?_cons_zero, List.getElem?_cons_succ, Nat.add_zero, Nat.mul_one] at c0;have hok1 := HOk.out xs[i] (List.getElem_mem _);have HE : Hid (∀ W, Sx B kb im o en w0 (portS xs[i] (eachS portS (xs.take i) s0)) W → Sx B kb im o en w0 (eachS portS (xs.take (i + 1)) s0) W) := fun W hW => by rw [eachS_take _ _ _ _ hix]; exact hW
   have HLi : Hid ((eachS portS (xs.take i) s0).1.length + 8 ≤ 274877906944) := show _ ≤ _ by
    rw [each_len portS_len, List.length_take];have := HL.out;omega
   generalize eachS portS (xs.take i) s0 = si at HI HE HLi;generalize xs[i] = x at *;clear hc;have HF0 : Hid (Fx B w0 (wr.alloc (.cells #[.int .i64 x] 68))) := HI.out.fr.trans (Fx.of_below ((Below.refl _ _).alloc (Nat.le_refl _) _));have HS0 : Hid (Sx B kb im o en (wr.alloc (.cells #[.int .i64 x] 68)) si (wr.alloc (.cells #[.int .i64 x] 68))) := (St.below HI.out ((Below.refl _ _).alloc (Nat.le_refl _) _)).here;have HBx : Hid (∀ W, Fx B (wr.alloc (.cells #[.int .i64 x] 68)) W → W.cell? ⟨wr.heap.size, 0, none⟩ = some (.int .i64 x)) := fun W hW => by
    have hb := (hW.block' ⟨_, heap_alloc_new wr _⟩ (by simp) (by decide) (by decide) (by decide)).trans (heap_alloc_new wr _);refine ?_ <;> (rw [cell_of_row _ _ _ _ _ _ hb]; rfl)
   go_wp2_with fail
   refine (noneX HS0.out (k := x) hok1 (by (try simp only [byte_len, half_len, none_len, word_len, long_len, zeros_len, flag_len, field_len, many_len, ask_len, bytes_len]); have := HLi.out; omega)).mono ?_;rintro e w1 ⟨rfl, h1⟩;obtain d0 := HBx.out _ h1.fr;have HS1 := Lib.hid h1;clear h1 HS0;go_wp2_with fail
   clear d0;refine (zerosX HS1.out (c := 6) (by (try simp only [byte_len, half_len, none_len, word_len, long_len, zeros_len, flag_len, field_len, many_len, ask_len, bytes_len]); have := HLi.out; omega)).mono ?_;rintro e w2 ⟨rfl, h2⟩;have HS2 := Lib.hid h2;clear h2 HS1;go_wp2_with fail
   go_roundw
   case rel => exact ⟨i + 1, by omega, rfl, HE.out _ (HS2.out.since HF0.out)⟩
   case measure => simp [intOf]; omega
  ·obtain rfl : i = n := by omega
   have ji : ¬ (i : Int) < (i : Int) := by omega
   have HE : Hid (eachS portS (xs.take i) s0 = eachS portS xs s0) := show _ = _ by rw [List.take_of_length_le (by rw [HN.out]; exact Nat.le_refl _)]
   rw [HE.out] at HI;go_wp2_with fail
   go_end0
   exact ⟨rfl, HI.out⟩
end
end Go.Proofs.YtmfkggngjeolcaaGreatDoor
namespace Go.Proofs.YtmfkggngjeolcaaGreatDoor
open Go.RowKit Bn
def LnG (w : World) (v : Value) (ls : List (List (Int × Int))) : Prop :=
 ∃ ao cap, v = .slice ao ls.length cap ∧ ls.length ≤ cap ∧ cap ≤ maxLen ∧ ∀ j (h : j < ls.length), ∃ b o u, ao = some ⟨b, o, none⟩ ∧ w.cell? ⟨b, o + j, none⟩ = some u ∧ RowG 2 stE w u ls[j]
def PlG (w : World) (v : Value) (xs : List Sc) : Prop :=
 ∃ ao cap, v = .slice ao xs.length cap ∧ xs.length ≤ cap ∧ cap ≤ maxLen ∧ ∀ i (h : i < xs.length), ∃ b o u, ao = some ⟨b, o, none⟩ ∧ w.cell? ⟨b, o + i * 2, none⟩ = some (.int .i64 xs[i].maj) ∧ w.cell? ⟨b, o + i * 2 + 1, none⟩ = some u ∧ LnG w u xs[i].lanes
theorem cell_low {w w' : World} (hb : Below w.heap.size w w') {b o : Nat} {v : Value} (h : w.cell? ⟨b, o, none⟩ = some v) : w'.cell? ⟨b, o, none⟩ = some v := (World.cell?_of_block (a := ⟨b, o, none⟩) (hb.block b (World.block_lt_of_cell? w _ h))).trans h
theorem LnG.below {w w' : World} {v : Value} {ls : List (List (Int × Int))} (h : LnG w v ls) (hb : Below w.heap.size w w') : LnG w' v ls := by
 obtain ⟨ao, cap, rfl, h1, h2, h3⟩ := h;refine ⟨ao, cap, rfl, h1, h2, fun j hj => ?_⟩;obtain ⟨b, o, u, rfl, hc, hr⟩ := h3 j hj;exact ⟨b, o, u, rfl, cell_low hb hc, hr.below hb⟩
theorem PlG.below {w w' : World} {v : Value} {xs : List Sc} (h : PlG w v xs) (hb : Below w.heap.size w w') : PlG w' v xs := by
 obtain ⟨ao, cap, rfl, h1, h2, h3⟩ := h;refine ⟨ao, cap, rfl, h1, h2, fun j hj => ?_⟩;obtain ⟨b, o, u, rfl, hc, hd, hr⟩ := h3 j hj;exact ⟨b, o, u, rfl, cell_low hb hc, cell_low hb hd, hr.below hb⟩
def lnOk (l : List (Int × Int)) : Prop := ∀ x ∈ l, stOk x
def scOk (p : Sc) : Prop := I64R p.maj ∧ ∀ l ∈ p.lanes, lnOk l
def lsum : List (List (Int × Int)) → Nat
 | [] => 0
 | l :: ls => 8 + 8 * l.length + lsum ls
def psum : List Sc → Nat
 | [] => 0
 | p :: ps => 8 + lsum p.lanes + psum ps
theorem lane_len (l : List (Int × Int)) (s : S) : (laneS l s).1.length = s.1.length + 8 + 8 * l.length := by rw [laneS, each_len stS_len, many_len]
theorem lanes_len : ∀ (ls : List (List (Int × Int))) (s : S), (eachS laneS ls s).1.length = s.1.length + lsum ls
 | [], s => rfl
 | l :: ls, s => by rw [eachS, lanes_len ls, lane_len, lsum]; omega
theorem plan_len (n : Nat) (p : Sc) (s : S) : (planS n p s).1.length = s.1.length + 8 + lsum p.lanes := by rw [planS, lanes_len, zeros_len, word_len, field_len]
theorem plans_len (n : Nat) : ∀ (ps : List Sc) (s : S), (eachS (planS n) ps s).1.length = s.1.length + psum ps
 | [], s => rfl
 | p :: ps, s => by rw [eachS, plans_len n ps, plan_len, psum]; omega
theorem lsum_take : ∀ (ls : List (List (Int × Int))) (i : Nat) (h : i < ls.length), lsum (ls.take i) + 8 + 8 * ls[i].length ≤ lsum ls
 | l :: ls, 0, h => by simp [lsum]
 | l :: ls, i + 1, h => by
  have := lsum_take ls i (by simpa using h);simp only [List.take_succ_cons, lsum, List.getElem_cons_succ];omega
theorem psum_take : ∀ (ps : List Sc) (i : Nat) (h : i < ps.length), psum (ps.take i) + 8 + lsum ps[i].lanes ≤ psum ps
 | p :: ps, 0, h => by simp [psum]
 | p :: ps, i + 1, h => by
  have := psum_take ps i (by simpa using h);simp only [List.take_succ_cons, psum, List.getElem_cons_succ];omega
def lanesL : List Sc → Nat
 | [] => 0
 | p :: _ => p.lanes.length
section
variable {B kb : Nat} {im : List Value} {o : Option Nat} {en : List Value} {w0 : World} {s : S} {w : World}
theorem plansX (h : Sx B kb im o en w0 s w) {v : Value} {xs : List Sc} {ms st : Int} (hi : im[8]? = some v) (hi9 : im[9]? = some (.int .i64 ms)) (hi10 : im[10]? = some (.int .i64 st)) {wz : World} (hz : PlG wz v xs) (hbz : ∀ W, Fx B w0 W → Below wz.heap.size wz W) (hok : ∀ x ∈ xs, scOk x) (hms : I64R ms) (hst : I64R st) (hl : s.1.length + 8 + psum xs ≤ 274877906944) : Calls Tryz.prog 54 #[.pointer (some ⟨kb, 0, none⟩)] w fun e w' => e = .returned (.tuple #[]) ∧ Sx B kb im o en w0 (eachS (planS (lanesL xs)) xs (halfS st (noneS ms (halfS (lanesL xs : Int) (halfS (xs.length : Int) s))))) w' := by
 have HBz : Hid (∀ W, Fx B w0 W → Below wz.heap.size wz W) := hbz;have HL : Hid ((halfS st (noneS ms (halfS (lanesL xs : Int) (halfS (xs.length : Int) s)))).1.length + psum xs ≤ 274877906944) := show _ ≤ _ by rw [half_len, none_len, half_len, half_len]; omega
 have HLs : Hid (s.1.length + 8 ≤ 274877906944) := show _ ≤ _ by omega
 have HOk : Hid (∀ x ∈ xs, scOk x) := hok;obtain ⟨ao, cap, rfl, h1, h2, h3⟩ := hz;have HRz : Hid (∀ i (h : i < xs.length), ∃ b o u, ao = some ⟨b, o, none⟩ ∧ wz.cell? ⟨b, o + i * 2, none⟩ = some (.int .i64 xs[i].maj) ∧ wz.cell? ⟨b, o + i * 2 + 1, none⟩ = some u ∧ LnG wz u xs[i].lanes) := h3;unfold maxLen at h2;have HI : Hid (∀ W s', Sx B kb im o en w0 s' W → W.cell? ⟨kb, 8, none⟩ = some (.slice ao xs.length cap) ∧ W.cell? ⟨kb, 9, none⟩ = some (.int .i64 ms) ∧ W.cell? ⟨kb, 10, none⟩ = some (.int .i64 st)) := fun W s' hW => ⟨(St.cell hW 8).trans ((lyC_im hW.him (by decide)).trans hi), (St.cell hW 9).trans ((lyC_im hW.him (by decide)).trans hi9), (St.cell hW 10).trans ((lyC_im hW.him (by decide)).trans hi10)⟩
 obtain ⟨c8, c9, c10⟩ := HI.out _ _ h;have HFst : Hid (0 < xs.length → ∃ b of la lc, ao = some ⟨b, of, none⟩ ∧ w.cell? ⟨b, of + 1, none⟩ = some (.slice la (lanesL xs) lc) ∧ lanesL xs ≤ 9223372036854775807) := fun hp => by
  obtain ⟨b, of, u, e, _, hc, hL⟩ := h3 0 hp;obtain ⟨la, lc, rfl, k1, k2, _⟩ := hL;unfold maxLen at k2;have e2 : xs[0].lanes.length = lanesL xs := by
   cases xs with
   | nil => simp at hp
   | cons p ps => rfl
  rw [e2] at hc k1;refine ⟨b, of, la, lc, e, ?_, by omega⟩;have := cell_low (hbz w h.fr) hc
  simpa using this
 obtain ⟨n, hn⟩ : ∃ n, xs.length = n := ⟨_, rfl⟩
 obtain ⟨q, hq⟩ : ∃ q, lanesL xs = q := ⟨_, rfl⟩
 have HN := Lib.hid hn;have HQ0 : Hid (n = 0 → q = 0) := fun e => by
  rw [← hq]
  cases xs with
  | nil => rfl
  | cons p ps => simp at hn; omega
 have H0 := Lib.hid h;rw [hn, hq] at HL;rw [hn] at h1 HI c8 HFst;rw [hq] at HFst;rw [hn, hq];obtain ⟨s0, hs0⟩ : ∃ s0, halfS st (noneS ms (halfS (q : Int) (halfS (n : Int) s))) = s0 := ⟨_, rfl⟩
 have HS0 : Hid (halfS st (noneS ms (halfS (q : Int) (halfS (n : Int) s))) = s0) := hs0;rw [hs0] at HL ⊢;clear hn hq hs0 h hl hok hbz hi hi9 hi10 h3;go_enter Tryz.func54, Tryz.ntmps54
 go_upto_if 13 with fail
 go_cut [2] (fun y wx => y = .int .i64 (q : Int) ∧ wx = w ∧ Hid (q ≤ 9223372036854775807))
 case first =>
  by_cases hp : 0 < n
  ·obtain ⟨b, of, la, lc, rfl, hc, hq9⟩ := HFst.out hp;have jp : (0 : Int) < (n : Int) := by omega
   go_wp2_with fail
   go_meet
   exact ⟨rfl, rfl, hq9⟩
  ·have jp : ¬ (0 : Int) < (n : Int) := by omega
   have hq0 : q = 0 := HQ0.out (by omega);go_wp2_with fail
   go_meet
   exact ⟨by rw [hq0]; rfl, rfl, by rw [hq0]; exact Lib.hid (Nat.zero_le _)⟩
 case rest =>
  obtain ⟨rfl, hw, HQ9⟩ := hcut;have hw := hw.symm;subst hw;have hq9 := HQ9.out;go_wp2_with fail
  refine (halfX H0.out (k := (n : Int)) ⟨by omega, by omega⟩ (by have := HLs.out; omega)).mono ?_;rintro e w1 ⟨rfl, h1'⟩;have H1 := Lib.hid h1';clear c8 c9 c10;obtain ⟨c8, c9, c10⟩ := HI.out _ _ h1';clear h1' H0;go_wp2_with fail
  refine (halfX H1.out (k := (q : Int)) ⟨by omega, by omega⟩ (by rw [half_len]; have := HLs.out; omega)).mono ?_;rintro e w2 ⟨rfl, h2'⟩;have H2 := Lib.hid h2';clear c8 c9 c10;obtain ⟨c8, c9, c10⟩ := HI.out _ _ h2';clear h2' H1;go_wp2_with fail
  refine (noneX H2.out (k := ms) hms (by rw [half_len, half_len]; have := HLs.out; omega)).mono ?_;rintro e w3 ⟨rfl, h3'⟩;have H3 := Lib.hid h3';clear c8 c9 c10;obtain ⟨c8, c9, c10⟩ := HI.out _ _ h3';clear h3' H2;go_wp2_with fail
  refine (halfX H3.out (k := st) hst (by rw [none_len, half_len, half_len]; have := HLs.out; omega)).mono ?_;rintro e w4 ⟨rfl, h4'⟩;rw [HS0.out] at h4';have H4 : Hid (Sx B kb im o en w0 (eachS (planS q) (xs.take 0) s0) w4) := Lib.hid h4';clear c8 c9 c10;obtain ⟨c8, c9, c10⟩ := HI.out _ _ h4';clear h4' H3 HI HFst HQ0 HS0;go_wp2_with fail
  go_loopw [54] (fun iv wr => ∃ i : Nat, i ≤ n ∧ iv = .int .i64 (i : Int) ∧ Hid (Sx B kb im o en w0 (eachS (planS q) (xs.take i) s0) wr)) (fun iv _ => n - (intOf iv).toNat)
  case atStart => exact ⟨0, Nat.zero_le _, rfl, H4⟩
  case round =>
   clear H4;obtain ⟨i, hi, rfl, HI⟩ := hrel
   by_cases hin : i < n
   ·have ji : (i : Int) < (n : Int) := by omega
    have hix : i < xs.length := by rw [HN.out]; exact hin
    have hw1 : IntKind.i64.wrap ((i : Int) + 1) = ((i + 1 : Nat) : Int) := by rw [IntKind.wrap_i64]; omega
    obtain ⟨b, of, u, rfl, c0z, c1z, hLn⟩ := HRz.out i hix;have c0 := cell_low (HBz.out wr HI.out.fr) c0z;have c1 := cell_low (HBz.out wr HI.out.fr) c1z;clear c0z c1z;obtain ⟨hmj, hlo⟩ := HOk.out xs[i] (List.getElem_mem _);have HE : Hid (∀ W, Sx B kb im o en w0 (planS q xs[i] (eachS (planS q) (xs.take i) s0)) W → Sx B kb im o en w0 (eachS (planS q) (xs.take (i + 1)) s0) W) := fun W hW => by rw [eachS_take _ _ _ _ hix]; exact hW
    have HLi : Hid ((eachS (planS q) (xs.take i) s0).1.length + 8 + lsum xs[i].lanes ≤ 274877906944) := show _ ≤ _ by
     rw [plans_len];have := psum_take xs i hix;have := HL.out;omega
    generalize eachS (planS q) (xs.take i) s0 = si at HI HE HLi;generalize xs[i] = x at *;obtain ⟨mj, lns⟩ := x;simp only at hmj hlo HLi c0 hLn;have HLo : Hid (∀ l ∈ lns, lnOk l) := hlo;obtain ⟨la, lc, rfl, k1, k2, k3⟩ := hLn;unfold maxLen at k2;have HK3 : Hid (∀ j (h : j < lns.length), ∃ b o u, la = some ⟨b, o, none⟩ ∧ wz.cell? ⟨b, o + j, none⟩ = some u ∧ RowG 2 stE wz u lns[j]) := k3;obtain ⟨ll, hll⟩ : ∃ ll, lns.length = ll := ⟨_, rfl⟩
    have HLL := Lib.hid hll;rw [hll] at k1 c1;have hd : ((ll : Int) == (q : Int)) = decide (lns.length = q) := by
     rw [hll]
     by_cases h : ll = q
     ·rw [decide_eq_true h, h]; simp
     ·rw [decide_eq_false h]; simp; omega
    obtain ⟨bb, hbb⟩ : ∃ bb, decide (lns.length = q) = bb := ⟨_, rfl⟩
    rw [hbb] at hd;have HEp : Hid (planS q ⟨mj, lns⟩ si = eachS laneS lns (zerosS 4 (wordS mj (fieldS bb si)))) := show _ = _ by rw [planS]; simp only [hbb]
    clear hbb hll hlo k3;have HF0 : Hid (Fx B w0 (wr.alloc (.cells #[.int .i64 mj, .slice la ll lc] 78))) := HI.out.fr.trans (Fx.of_below ((Below.refl _ _).alloc (Nat.le_refl _) _));have HS0 : Hid (Sx B kb im o en (wr.alloc (.cells #[.int .i64 mj, .slice la ll lc] 78)) si (wr.alloc (.cells #[.int .i64 mj, .slice la ll lc] 78))) := (St.below HI.out ((Below.refl _ _).alloc (Nat.le_refl _) _)).here;have HBx : Hid (∀ W, Fx B (wr.alloc (.cells #[.int .i64 mj, .slice la ll lc] 78)) W → W.cell? ⟨wr.heap.size, 0, none⟩ = some (.int .i64 mj) ∧ W.cell? ⟨wr.heap.size, 1, none⟩ = some (.slice la ll lc)) := fun W hW => by
     have hb := (hW.block' ⟨_, heap_alloc_new wr _⟩ (by simp) (by decide) (by decide) (by decide)).trans (heap_alloc_new wr _);refine ⟨?_, ?_⟩ <;> (rw [cell_of_row _ _ _ _ _ _ hb]; rfl)
    go_wp2_with fail
    refine (fieldX HS0.out bb).mono ?_;rintro e w1 ⟨rfl, g1⟩;obtain ⟨d0, d1⟩ := HBx.out _ g1.fr;have G1 := Lib.hid g1;clear g1 HS0;go_wp2_with fail
    refine (wordX G1.out (k := mj) hmj (by rw [field_len]; have := HLi.out; omega)).mono ?_;rintro e w2 ⟨rfl, g2⟩;clear d0 d1;obtain ⟨d0, d1⟩ := HBx.out _ g2.fr;have G2 := Lib.hid g2;clear g2 G1;go_wp2_with fail
    refine (zerosX G2.out (c := 4) (by rw [word_len, field_len]; have := HLi.out; omega)).mono ?_;rintro e w3 ⟨rfl, g3⟩;clear d0 d1;obtain ⟨d0, d1⟩ := HBx.out _ g3.fr;have HL3 : Hid ((zerosS 4 (wordS mj (fieldS bb si))).1.length + lsum lns ≤ 274877906944) := show _ ≤ _ by rw [zeros_len, word_len, field_len]; have := HLi.out; omega
    obtain ⟨s3, hs3⟩ : ∃ s3, zerosS 4 (wordS mj (fieldS bb si)) = s3 := ⟨_, rfl⟩
    rw [hs3] at g3 HEp HL3;have G3 : Hid (Sx B kb im o en (wr.alloc (.cells #[.int .i64 mj, .slice la ll lc] 78)) (eachS laneS (lns.take 0) s3) w3) := Lib.hid g3;clear g3 G2 hs3 HBx HI;generalize (wr.alloc (.cells #[.int .i64 mj, .slice la ll lc] 78)) = W0 at G3 HF0;go_wp2_with fail
    go_loopw [74] (fun jv wq => ∃ j : Nat, j ≤ ll ∧ jv = .int .i64 (j : Int) ∧ Hid (Sx B kb im o en W0 (eachS laneS (lns.take j) s3) wq)) (fun jv _ => ll - (intOf jv).toNat)
    case atStart => exact ⟨0, Nat.zero_le _, rfl, G3⟩
    case round =>
     clear G3 d0 d1;obtain ⟨j, hj, rfl, HJ⟩ := hrel
     by_cases hjn : j < ll
     ·have jj : (j : Int) < (ll : Int) := by omega
      have hjx : j < lns.length := by rw [HLL.out]; exact hjn
      have hw2 : IntKind.i64.wrap ((j : Int) + 1) = ((j + 1 : Nat) : Int) := by rw [IntKind.wrap_i64]; omega
      obtain ⟨b2, o2, u2, rfl, e0z, hrz⟩ := HK3.out j hjx;have e0 := cell_low (HBz.out _ (HF0.out.trans HJ.out.fr)) e0z;have HRw : Hid (∀ W, Fx B W0 W → RowG 2 stE W u2 lns[j]) := fun W hW => hrz.below (HBz.out _ (HF0.out.trans hW));obtain ⟨va, vc, rfl, _⟩ := hrz;have HEj : Hid (∀ W, Sx B kb im o en W0 (laneS lns[j] (eachS laneS (lns.take j) s3)) W → Sx B kb im o en W0 (eachS laneS (lns.take (j + 1)) s3) W) := fun W hW => by rw [eachS_take _ _ _ _ hjx]; exact hW
      have HLj : Hid ((eachS laneS (lns.take j) s3).1.length + 8 + 8 * lns[j].length ≤ 274877906944) := show _ ≤ _ by
       rw [lanes_len];have := lsum_take lns j hjx;have := HL3.out;omega
      have hok2 := HLo.out lns[j] (List.getElem_mem _);clear e0z;generalize eachS laneS (lns.take j) s3 = sj at HJ HEj HLj;generalize lns[j] = l2 at *;go_wp2_with fail
      refine (laneX HJ.out HRw.out hok2 HLj.out).mono ?_;rintro e w5 ⟨rfl, g5⟩;have G5 := Lib.hid (HEj.out _ g5);clear g5 HJ;go_wp2_with fail
      go_roundw
      case rel => exact ⟨j + 1, by omega, rfl, G5⟩
      case measure => simp [intOf]; omega
     ·obtain rfl : j = ll := by omega
      have jj : ¬ (j : Int) < (j : Int) := by omega
      have HT : Hid (eachS laneS (lns.take j) s3 = eachS laneS lns s3) := show _ = _ by rw [List.take_of_length_le (by rw [HLL.out]; exact Nat.le_refl _)]
      rw [HT.out, ← HEp.out] at HJ;go_wp2_with fail
      go_roundw
      case rel => exact ⟨i + 1, by omega, rfl, HE.out _ (HJ.out.since HF0.out)⟩
      case measure => simp [intOf]; omega
   ·obtain rfl : i = n := by omega
    have ji : ¬ (i : Int) < (i : Int) := by omega
    have HE : Hid (eachS (planS q) (xs.take i) s0 = eachS (planS q) xs s0) := show _ = _ by rw [List.take_of_length_le (by rw [HN.out]; exact Nat.le_refl _)]
    rw [HE.out] at HI;go_wp2_with fail
    go_end0
    exact ⟨rfl, HI.out⟩
end
end Go.Proofs.YtmfkggngjeolcaaGreatDoor
namespace Go.Proofs.YtmfkggngjeolcaaGreatDoor
open Go.RowKit Go.Shelf
def tabV (f : Nat → Nat) : Array Value := ((List.range 512).map fun i => Value.int .u64 (f i : Int)).toArray
theorem tabV_size (f : Nat → Nat) : (tabV f).size = 512 := by simp [tabV]
theorem tabV_get (f : Nat → Nat) {i : Nat} (h : i < 512) : (tabV f)[i]? = some (.int .u64 (f i : Int)) := by
 simp [tabV, h]
theorem tabV_ext {f g : Nat → Nat} (h : ∀ i, i < 512 → f i = g i) : tabV f = tabV g := by
 unfold tabV;rw [List.map_congr_left fun i hi => by rw [h i (List.mem_range.1 hi)]]
theorem tabV_one (f : Nat → Nat) : (tabV f).all (·.oneCell') = true := by
 rw [Array.all_eq_true_iff_forall_mem];intro v hv;simp only [tabV, List.mem_toArray, List.mem_map] at hv;obtain ⟨i, _, rfl⟩ := hv
 rfl
def setT (f : Nat → Nat) (p : Nat) (v : Nat) : Nat → Nat := fun q => if q = p then v else f q
theorem tabV_set (f : Nat → Nat) {p : Nat} (h : p < 512) (v : Nat) : (tabV f).setIfInBounds p (.int .u64 (v : Int)) = tabV (setT f p v) := by
 apply Array.ext_getElem?;intro i;rw [Array.getElem?_setIfInBounds, tabV_size]
 by_cases e : p = i
 ·subst e;simp [h, tabV_get, setT]
 ·rw [if_neg e]
  by_cases hi : i < 512
  ·rw [tabV_get _ hi, tabV_get _ hi];simp [setT, show i ≠ p from fun a => e a.symm]
  ·rw [Array.getElem?_eq_none (by rw [tabV_size]; omega), Array.getElem?_eq_none (by rw [tabV_size]; omega)]

def TabAt (w : World) (b : Nat) (f : Nat → Nat) : Prop := w.heap[b]? = some (.cells (tabV f) 80 (0, 0))
theorem TabAt.lt {w : World} {b : Nat} {f : Nat → Nat} (h : TabAt w b f) : b < w.heap.size := (Array.getElem?_eq_some_iff.1 h).1
theorem TabAt.cell {w : World} {b : Nat} {f : Nat → Nat} (h : TabAt w b f) {p : Nat} (hp : p < 512) : w.cell? ⟨b, p, none⟩ = some (.int .u64 (f p : Int)) := by
 rw [cell_of_row _ _ p _ _ _ h, tabV_get f hp]
theorem TabAt.free {w : World} {b : Nat} {f : Nat → Nat} (h : TabAt w b f) (p : Nat) : w.frozen? ⟨b, p, none⟩ = false := by
 unfold TabAt at h;simp [World.frozen?, h]
theorem TabAt.alloc {w : World} {b : Nat} {f : Nat → Nat} (h : TabAt w b f) (o : Obj) : TabAt (w.alloc o) b f := (Below.heap_alloc w o b h.lt).trans h
theorem TabAt.new (w : World) (f : Nat → Nat) : TabAt (w.alloc (.cells (tabV f) 80)) w.heap.size f := heap_alloc_new w _
theorem TabAt.below {w w' : World} {b : Nat} {f : Nat → Nat} {B : Nat} (h : TabAt w b f) (hb : Below B w w') (hB : b < B) : TabAt w' b f := (hb.block b hB).trans h
theorem TabAt.other {w : World} {b c i : Nat} {f : Nat → Nat} {u : Value} (h : TabAt w b f) (hc : b ≠ c) : TabAt (w.setCell ⟨c, i, none⟩ u) b f := (Below.heap_setCell _ _ _ _ hc).trans h
theorem TabAt.set {w : World} {b : Nat} {f : Nat → Nat} (h : TabAt w b f) {p : Nat} (hp : p < 512) (v : Nat) : TabAt (w.setCell ⟨b, p, none⟩ (.int .u64 (v : Int))) b (setT f p v) := by
 unfold TabAt at h ⊢;rw [← tabV_set f hp v];simp [World.setCell, Array.getElem?_modify, h]
theorem tab_zero : (∀ w, (zeroValue 80).run Tryz.prog w = .ok (.agg (tabV fun _ => 0)) w) ∧ (Tryz.prog.info? 80).map (·.size) = some 512 :=
 zero_of_info (by kernel_rfl)
theorem TabAt.load {w : World} {b : Nat} {f : Nat → Nat} (h : TabAt w b f) : (Instr.loadAt 80 (.pointer (some ⟨b, 0, none⟩))).run Tryz.prog w = .ok (.agg (tabV f)) w := by
 have hu : Tryz.prog.underlying 80 = some (.array 512 22) := by kernel_rfl
 have := run_loadAt_mid (P := Tryz.prog) w b 0 80 (tabV f).toList (.array 512 22) (fun j v hv => by
  have hj : j < 512 := by have := (List.getElem?_eq_some_iff.1 hv).1; rw [Array.length_toList, tabV_size] at this; exact this
  rw [Nat.zero_add, h.cell hj];rw [Array.getElem?_toList, tabV_get f hj] at hv;exact hv) hu rfl (by rw [Array.length_toList, tabV_size]; exact tab_zero.2)
 simpa using this
theorem TabAt.ext {w : World} {b : Nat} {f g : Nat → Nat} (h : TabAt w b f) (e : ∀ i, i < 512 → f i = g i) : TabAt w b g := by
 unfold TabAt at h ⊢;rw [← tabV_ext e]; exact h
theorem below_setRow (w : World) (b : Nat) (c : Array Value) (n : Nat) (h : n ≤ b) : Below n w (w.setRow b c) := by
 refine ⟨rfl, rfl, rfl, by simp [World.setRow], fun k hk => ?_⟩;simp only [World.setRow, Array.getElem?_modify];rw [if_neg (by omega)]
theorem TabAt.store {w : World} {b : Nat} {f : Nat → Nat} (h : TabAt w b f) (g : Nat → Nat) : (Instr.storeAt 80 (.pointer (some ⟨b, 0, none⟩)) (.agg (tabV g))).run Tryz.prog w = .ok () (w.setRow b (tabV g)) := by
 simp only [Instr.storeAt, Instr.sureAddr, Sem.run_bind, Sem.run_pure, Result.andThen];exact run_storeVar_row w b 80 80 (tabV f) (tabV g) h (by rw [tabV_size]; exact tab_zero.2) (by rw [tabV_size, tabV_size]) (tabV_one g)
theorem TabAt.setRow {w : World} {b : Nat} {f : Nat → Nat} (h : TabAt w b f) (g : Nat → Nat) : TabAt (w.setRow b (tabV g)) b g := by
 unfold TabAt at h ⊢;simp [World.setRow, Array.getElem?_modify, h]
theorem TabAt.row_other {w : World} {b c : Nat} {f : Nat → Nat} (h : TabAt w b f) (hc : b ≠ c) (d : Array Value) : TabAt (w.setRow c d) b f := by
 unfold TabAt at h ⊢;simp [World.setRow, Array.getElem?_modify, h, show ¬ c = b from fun e => hc e.symm]
theorem wp_load_tab {o : Oper} {a : Act} {w : World} {K : Act → World → Prop} {Q : Exit → Act → World → Prop} (x : Operand) (ho : o.op = .load 80 x) {b : Nat} {f : Nat → Nat} (hx : a.eval x = .pointer (some ⟨b, 0, none⟩)) (h : TabAt w b f) (hk : K (a.put o.dst (.agg (tabV f))) w) : o.wp Tryz.prog a w K Q := by
 unfold Oper.wp execOp;simp only [ho, hx, Sem.run_bind, Sem.run_pure, Result.andThen_ok, h.load];exact hk
theorem wp_store_tab {o : Oper} {a : Act} {w : World} {K : Act → World → Prop} {Q : Exit → Act → World → Prop} (x y : Operand) (ho : o.op = .store 80 x y) {b : Nat} {f g : Nat → Nat} (hx : a.eval x = .pointer (some ⟨b, 0, none⟩)) (hy : a.eval y = .agg (tabV g)) (hd : o.dst = none) (h : TabAt w b f) (hk : K a (w.setRow b (tabV g))) : o.wp Tryz.prog a w K Q := by
 unfold Oper.wp execOp;simp only [ho, hx, hy, Sem.run_bind, Sem.run_pure, Result.andThen_ok, h.store g];rw [Oper.upon_skip, hd];exact hk
theorem wpList_load_tab {ops : Array Oper} {rest : List Oper} {o : Oper} {a : Act} {w : World} {Q : Exit → Act → World → Prop} (hgd : o.guard = none) (x : Operand) (ho : o.op = .load 80 x) {b : Nat} {f : Nat → Nat} (hx : a.eval x = .pointer (some ⟨b, 0, none⟩)) (h : TabAt w b f) (hk : wpList Tryz.prog ops Q rest (a.put o.dst (.agg (tabV f))) w) : wpList Tryz.prog ops Q (o :: rest) a w :=
 wpList_plain hgd fun _ hK => wp_load_tab x ho hx h (hK _ _ hk)
theorem wpList_store_tab {ops : Array Oper} {rest : List Oper} {o : Oper} {a : Act} {w : World} {Q : Exit → Act → World → Prop} (hgd : o.guard = none) (x y : Operand) (ho : o.op = .store 80 x y) {b : Nat} {f g : Nat → Nat} (hx : a.eval x = .pointer (some ⟨b, 0, none⟩)) (hy : a.eval y = .agg (tabV g)) (hd : o.dst = none) (h : TabAt w b f) (hk : wpList Tryz.prog ops Q rest a (w.setRow b (tabV g))) : wpList Tryz.prog ops Q (o :: rest) a w :=
 wpList_plain hgd fun _ hK => wp_store_tab x y ho hx hy hd h (hK _ _ hk)
theorem results_cell_one {fn : Func} {p : Tmp} {ty : TypeId} (h : fn.results = #[.cell p ty]) (tmps : Array Value) (P : Program) (w : World) :
  (results fn tmps).run P w = ((asAddr (tmps.getD p undef)).run P w).andThen fun a w => (loadVar ty a).run P w := by
 simp only [results, h];simp [Sem.run_bind, Result.andThen]
theorem ret_tab {fn : Func} {p : Tmp} (h : fn.results = #[.cell p 80]) {tmps : Array Value} {w : World} {b : Nat} {g : Nat → Nat} (hp : tmps.getD p undef = .pointer (some ⟨b, 0, none⟩)) (hg : TabAt w b g) :
  (results fn tmps).run Tryz.prog w = .ok (.agg (tabV g)) w := by
 have hl := hg.load;simp only [Instr.loadAt, Instr.sureAddr, Sem.run_bind, Sem.run_pure, Result.andThen] at hl;rw [results_cell_one h, hp];simp [asAddr, Result.andThen, hl]
theorem wpList_wanted {ops : Array Oper} {rest : List Oper} {o : Oper} {a : Act} {w : World} {Q : Exit → Act → World → Prop} (hw : Region.wanted o (yielded ops a.tmps) = true) (h : o.wp Tryz.prog a w (wpList Tryz.prog ops Q rest) Q) : wpList Tryz.prog ops Q (o :: rest) a w := by
 unfold wpList;rw [if_pos hw];exact .inl h
theorem tab_index (f : Nat → Nat) {k : Nat} (hk : k < 512) (w : World) : (Instr.index 80 (.agg (tabV f)) (.int .i64 (k : Int))).run Tryz.prog w = .ok (.int .u64 (f k : Int)) w := by
 have hu : Tryz.prog.underlying 80 = some (.array 512 22) := by kernel_rfl
 have hb : Tryz.prog.underlying 22 = some (.int .u64) := by kernel_rfl
 have hi : (Tryz.prog.info? 22).map (·.size) = some 1 := by kernel_rfl
 obtain ⟨i, hi1, hi2⟩ := Option.map_eq_some_iff.1 hi;have := tabV_get f hk;simp [Instr.index, run_underlying hu, asIntOf, sizeOf, typeInfo, hi1, hi2, part, isAgg, run_underlying hb, this, go_sem]
 omega
def tbN (f : Nat → Nat) : Nat → List Nat
 | 0 => []
 | k + 1 => tbN f k ++ Pl.le 8 (f k)
theorem tbN_len (f : Nat → Nat) : ∀ k, (tbN f k).length = 8 * k
 | 0 => rfl
 | k + 1 => by
  simp only [tbN, List.length_append, Pl.le_length, tbN_len f k];omega
theorem tbN_small (f : Nat → Nat) : ∀ k, ∀ z ∈ tbN f k, z < 256
 | 0, z, h => by cases h
 | k + 1, z, h => by
  rcases List.mem_append.1 h with h | h
  ·exact tbN_small f k z h
  ·exact Pl.le_small 8 (f k) z h
theorem pbytes_any {f : Nat → Nat} (hf : ∀ i, i < 512 → f i ≤ 18446744073709551615) (w : World) : Calls Tryz.prog 97 #[.agg (tabV f)] w fun e w' => ∃ g, e = .returned (.slice (some ⟨g, 0, none⟩) 4096 4096) ∧ w.heap.size ≤ g ∧ Row w' g (tbN f 512) ∧ Below w.heap.size w w' := by
 have HF : Hid (∀ i, i < 512 → f i ≤ 18446744073709551615) := hf;have HT0 : Hid (TabAt (w.alloc (.cells (tabV f) 80)) w.heap.size f) := TabAt.new w f;have HB0 : Hid (Below w.heap.size w (w.alloc (.cells (tabV f) 80))) := (Below.refl _ _).alloc (Nat.le_refl _) _;clear hf;go_enter Tryz.func97, Tryz.ntmps97
 go_wp2_with fail
 refine (newWriter_any _).mono ?_;rintro e w1 ⟨rfl, hwr, hb1⟩;have HT1 : Hid (TabAt w1 w.heap.size f) := HT0.out.below hb1 (by simp);have HB1 : Hid (Below w.heap.size w w1) := HB0.out.trans (hb1.mono HB0.out.size);have hsz : (w.alloc (.cells (tabV f) 80)).heap.size = w.heap.size + 1 := by simp
 rw [hsz] at hwr;have HW1 := Lib.hid hwr;have hz9 : (Value.pointer (some ⟨(w.alloc (.cells (tabV f) 80)).heap.size, 0, none⟩)) = .pointer (some ⟨w.heap.size + 1, 0, none⟩) := by rw [hsz]
 clear hb1 hwr HT0 HB0 hsz;rw [hz9];go_wp2_with (refine wpList_load_tab (b := w.heap.size) (f := f) rfl (.tmp 1) rfl rfl HT1.out ?_)
 go_loopw [8] (fun kv wr => ∃ k : Nat, k ≤ 512 ∧ kv = .int .i64 (k : Int) ∧ ∃ v, Hid (Wr wr (w.heap.size + 1) v (tbN f k) 0 (w.heap.size + 1)) ∧ Hid (Below w.heap.size w wr)) (fun kv _ => 512 - (intOf kv).toNat)
 case atStart => exact ⟨0, by omega, rfl, _, HW1, HB1⟩
 case round =>
  clear HW1 HB1 HT1;obtain ⟨k, hk, rfl, v, HW, HB⟩ := hrel
  by_cases hk5 : k < 512
  ·have jk : (k : Int) < 512 := by omega
   have hwk : IntKind.i64.wrap ((k : Int) + 1) = ((k + 1 : Nat) : Int) := by rw [IntKind.wrap_i64]; omega
   have hg : (tabV f)[k]? = some (.int .u64 (f k : Int)) := tabV_get f hk5;have hx : ∀ W, (Instr.index 80 (.agg (tabV f)) (.int .i64 (k : Int))).run Tryz.prog W = .ok (.int .u64 (f k : Int)) W := tab_index f hk5;have HS : Hid (w.heap.size + 1 ≤ wr.heap.size) := Nat.le_of_lt HW.out.lt;have HP := Lib.hid (put_u64 HW.out (HF.out k hk5) (by rw [tbN_len]; omega) HS.out);have HBn : Hid (∀ w', Keeps (Foot (w.heap.size + 1) v) wr w' → Below w.heap.size w w') := fun w' hk' => HB.out.trans (hk'.below HB.out.size (fun i _ e => by
    rcases e with e | e
    ·omega
    ·have := (HW.out.2.1.lt i e).1; omega))
   clear hg;go_wp2_with fail
   refine HP.out.mono ?_;rintro e w2 ⟨rfl, v2, hw2, hk2, _⟩;have HW2 : Hid (Wr w2 (w.heap.size + 1) v2 (tbN f (k + 1)) 0 (w.heap.size + 1)) := hw2;have HB2 := Lib.hid (HBn.out _ hk2);clear hw2 hk2 HP HBn HW HB;go_wp2_with fail
   go_roundw
   case rel => exact ⟨k + 1, by omega, rfl, _, HW2, HB2⟩
   case measure => simp [intOf]; omega
  ·have jk : ¬ (k : Int) < 512 := by omega
   have HA : Hid (Calls Tryz.prog 58 #[.pointer (some ⟨w.heap.size + 1, 0, none⟩)] wr fun e w' => e = .returned (.slice (some ⟨wr.heap.size, 0, none⟩) 4096 4096) ∧ Row w' wr.heap.size (tbN f 512) ∧ Below wr.heap.size wr w') := by
    have h5 := all_any HW.out (by rw [tbN_len]; omega);rw [show k = 512 by omega, tbN_len] at h5;exact h5
   go_wp2_with fail
   refine HA.out.mono ?_;rintro e w2 ⟨rfl, hr2, hb2⟩;have HR2 := Lib.hid hr2;have HB2 : Hid (Below w.heap.size w w2) := HB.out.trans (hb2.mono HB.out.size);have HS2 : Hid (w.heap.size ≤ wr.heap.size) := HB.out.size;clear hr2 hb2 HA;go_wp2_with fail
   go_ret
   exact ⟨_, rfl, HS2.out, HR2.out, HB2.out⟩
end Go.Proofs.YtmfkggngjeolcaaGreatDoor
