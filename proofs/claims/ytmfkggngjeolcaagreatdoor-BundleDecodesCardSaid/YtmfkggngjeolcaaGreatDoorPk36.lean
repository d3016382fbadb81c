import Derived.Test.YtmfkggngjeolcaaGreatDoorPk33
import Derived.BigQuiet
import Derived.Test.YtmfkggngjeolcaaGreatDoorPk34
import Derived.Deep.CutRange
import Derived.Deep.CutBlock
import Derived.Test.YtmfkggngjeolcaaGreatDoorPk35
set_option linter.unusedSimpArgs false
set_option linter.unusedVariables false
set_option maxHeartbeats 32000000
set_option maxRecDepth 100000
namespace Go.Proofs.YtmfkggngjeolcaaGreatDoor
open Go.RowKit Bn Dd
def ldT (p : Value) : Sem Value := Instr.loadAt 80 p
theorem ldT_eq (p : Value) : Instr.loadAt 80 p = ldT p := rfl
def mkT (q : Array (Nat × Value)) : Sem Value := Instr.buildSlice 31 1 q
theorem mkT_eq (q : Array (Nat × Value)) : Instr.buildSlice 31 1 q = mkT q := rfl
theorem ldT_run {w : World} {b : Nat} {f : Nat → Nat} (h : TabAt w b f) : (ldT (.pointer (some ⟨b, 0, none⟩))).run Tryz.prog w = .ok (.agg (tabV f)) w := h.load
theorem mkT_run (w : World) (f : Nat → Nat) : (mkT #[(0, .agg (tabV f))]).run Tryz.prog w = .ok (.slice (some ⟨w.heap.size, 0, none⟩) 1 1) (w.alloc (.cells (tabV f) 80)) := run_slice1 w 31 80 512 4096 _ Tryz.underlying31 info_tab (by decide) (by decide) (.agg (tabV f)) (tabV_size f)
def psOf (rb : Nat) (w : World) : Nat := match w.cell? ⟨rb, 1, none⟩ with | some (.int _ x) => x.toNat | _ => 0
theorem Rk.psOf' {rb : Nat} {raw : Value} {p : Q} {w0 w : World} {r : R} (h : Rk rb raw p w0 r w) : psOf rb w = r.ps := by simp [psOf, h.cell1]
section
variable {rb ib : Nat} {raw : Value} {p : Q} {w0 w : World} {r : R} {idx : Nat} {im : List Value} {xs : List (Nat → Nat)} {v : Value} {m : Nat} {f : Nat → Nat}
theorem Bx1.tab (h : Bx1 80 512 tbE rb ib raw p w0 idx im r xs v (tbE f) m w) : TabAt w m f := by
 have h9 := h.bx;unfold tbE at h9;rw [Array.toArray_toList] at h9;exact h9
theorem tbE_arr (f : Nat → Nat) : (tbE f).toArray = tabV f := by
 unfold tbE;exact Array.toArray_toList
theorem Rd1.boxedT (h : Rd1 80 512 tbE rb ib raw p w0 idx im r xs v w) (f : Nat → Nat) : Bx1 80 512 tbE rb ib raw p w0 idx im r xs v (tbE f) w.heap.size (w.alloc (.cells (tabV f) 80)) := by
 have h9 := h.boxed (tbE f)
 rwa [tbE_arr] at h9
theorem Bx1.setT (h : Bx1 80 512 tbE rb ib raw p w0 idx im r xs v (tbE f) m w) {k : Nat} (hk : k < 512) (x : Nat) : Bx1 80 512 tbE rb ib raw p w0 idx im r xs v (tbE (setT f k x)) m (w.setCell ⟨m, k, none⟩ (.int .u64 (x : Int))) :=
 ⟨(h.set k _).rd, by have h9 := h.tab.set hk x; unfold TabAt at h9; unfold tbE; rw [Array.toArray_toList]; exact h9, h.hm, h.hv⟩
theorem Bx1.ext (h : Bx1 80 512 tbE rb ib raw p w0 idx im r xs v (tbE f) m w) {g : Nat → Nat} (e : ∀ i, i < 512 → f i = g i) : Bx1 80 512 tbE rb ib raw p w0 idx im r xs v (tbE g) m w := ⟨h.rd, by have h9 := h.tab.ext e; unfold TabAt at h9; unfold tbE; rw [Array.toArray_toList]; exact h9, h.hm, h.hv⟩
end
theorem tab_next {p : Q} {r : R} (hb : r.bad < 0) (hl : r.ps + 4096 ≤ p.en) {k : Nat} (hk : k < 512) : numR p 8 ⟨r.ps + 8 * k, r.bad⟩ = (numT ((p.bs.drop r.ps).take 4096) k, ⟨r.ps + 8 * (k + 1), r.bad⟩) := by
 unfold numR numT;simp only;rw [if_pos hb, if_pos (by omega), ← num_take0 8 (p.bs.drop (r.ps + 8 * k)), ← num_take0 8 (((p.bs.drop r.ps).take 4096).drop (8 * k)), List.drop_take, List.take_take, List.drop_drop, Nat.min_eq_left (by omega)]
 rfl
theorem tabs_st (p : Q) (r : R) (hb : r.bad < 0) : ∀ k, (listR (tabR p) k r).2 = ⟨r.ps + 4096 * k, r.bad⟩
 | 0 => rfl
 | k + 1 => by
  have ih := tabs_st p r hb k;rw [listR_next (tabR p) k r (by rw [ih]; exact decide_eq_true hb), ih];simp only [tabR];rw [show r.ps + 4096 * (k + 1) = r.ps + 4096 * k + 4096 by omega]
attribute [local go_sem ↓ high] ldT_eq mkT_eq
theorem dtablesQ {rb ib : Nat} {raw : Value} {p : Q} {w : World} {r : R} {im : List Value} (h : Rk rb raw p w r w) (hb : r.bad < 0) (hbx : w.heap[ib]? = some (.cells im.toArray 33 (0, 0))) (hl : im.length = 12) (hi0 : im[11]? = some (.slice none 0 0)) (hne : ib ≠ rb) (hrw : ∀ k, raw.ownBlock = some k → k < w.heap.size) (hrn : raw.ownBlock ≠ some ib) (hcap : p.en ≤ 17179869184) : Calls Tryz.prog 77 #[.pointer (some ⟨rb, 0, none⟩), .pointer (some ⟨ib, 0, none⟩)] w fun e w' => e = .returned (.tuple #[]) ∧ ∃ v, Rd1 80 512 tbE rb ib raw p w 11 im (tabsR p r).2 (tabsR p r).1 v w' := by
 have h0 : Rd1 80 512 tbE rb ib raw p w 11 im r [] (.slice none 0 0) w := rd_start h hbx (by omega) hi0 hne hrw hrn;have hle := h.le;obtain ⟨n, hn⟩ : ∃ n, (p.en - r.ps) / 4096 = n := ⟨_, rfl⟩
 have HT : Hid (tabsR p r = listR (tabR p) n r) := show _ = _ by rw [tabsR, hn]
 rw [HT.out];have HSt := Lib.hid (tabs_st p r hb);have hz := tab_zero.1;have H0 : Hid (∃ v, Rd1 80 512 tbE rb ib raw p w 11 im (listR (tabR p) 0 r).2 (listR (tabR p) 0 r).1 v w) := ⟨_, h0⟩
 have HN := Lib.hid hn;have HCap := Lib.hid hcap;clear h h0 hbx hi0 hrw hrn hn HT hcap;go_enter Tryz.func77, Tryz.ntmps77
 go_wp2_with fail
 go_loopw [] (fun wr => ∃ i : Nat, i ≤ n ∧ Hid (∃ v, Rd1 80 512 tbE rb ib raw p w 11 im (listR (tabR p) i r).2 (listR (tabR p) i r).1 v wr)) (fun wr => p.en - psOf rb wr)
 case atStart => exact ⟨0, Nat.zero_le _, H0⟩
 case round =>
  clear H0;obtain ⟨i, hi, HI⟩ := hrel;obtain ⟨v, h9⟩ := HI.out;have HNext := Lib.hid (listR_next (tabR p) i r (by rw [HSt.out i]; exact decide_eq_true hb));have HLen := Lib.hid (listR_len (tabR p) i r);have e9 := HSt.out i;obtain ⟨⟨xs, rr⟩, hS⟩ : ∃ x, listR (tabR p) i r = x := ⟨_, rfl⟩
  rw [hS] at h9 HNext HLen e9;simp only at e9;subst e9;have HS := Lib.hid hS;clear HI hS;obtain ⟨ps, hps⟩ : ∃ ps, r.ps + 4096 * i = ps := ⟨_, rfl⟩
  rw [hps] at h9 HNext HS;have k1 := h9.rk.cell1;have k2 := h9.rk.cell2;have hpsl := h9.rk.le;have H9 := Lib.hid h9;have HPs := Lib.hid h9.rk.psOf';have hsz := h9.rk.sz;have hen := h9.rk.en;have hwp : wrap64 ((ps : Int) + 4096) = (ps : Int) + 4096 := IntWalk.wrap64_in _ ⟨by simp only at hpsl; omega, by simp only at hpsl; omega⟩;simp only at k1 k2 hpsl;clear h9
  by_cases hin : i < n
  ·have hlp : ps + 4096 ≤ p.en := by
    have h1 := HN.out;have : 4096 * ((p.en - r.ps) / 4096) ≤ p.en - r.ps := Nat.mul_div_le _ _;omega
   have d1 : decide ((ps : Int) + 4096 ≤ (p.en : Int)) = true := decide_eq_true (by omega);have d1n : decide (ps + 4096 ≤ p.en) = true := decide_eq_true hlp;have HXl : Hid (xs.length ≤ 4194304) := show _ ≤ _ by
    have h1 := HLen.out;have h2 := HN.out;have h3 := HCap.out;simp only at h1;omega
   obtain ⟨f, hf⟩ : ∃ f, numT ((p.bs.drop ps).take 4096) = f := ⟨_, rfl⟩
   have HNm : Hid (∀ k, k < 512 → numR p 8 ⟨ps + 8 * k, r.bad⟩ = (f k, ⟨ps + 8 * (k + 1), r.bad⟩)) := fun k hk => by rw [← hf]; exact tab_next (r := ⟨ps, r.bad⟩) hb hlp hk
   have HN1 : Hid (listR (tabR p) (i + 1) r = (xs ++ [f], ⟨ps + 4096, r.bad⟩)) := show _ = _ by rw [HNext.out]; unfold tabR; rw [hf]
   clear hf HNext HLen hpsl hsz hen;obtain ⟨wA, hwA⟩ : ∃ x, x = wr := ⟨_, rfl⟩
   subst hwA;go_wp2_with fail
   go_quiet (fail)
   simp only [hwp, d1];obtain ⟨W0, hW0⟩ : ∃ W0, (wA.drewN nq).alloc (.cells (tabV fun _ => 0) 80) = W0 := ⟨_, rfl⟩
   have HB0 : Hid (Bx1 80 512 tbE rb ib raw p w 11 im ⟨ps + 8 * 0, r.bad⟩ xs v (tbE (setN f 0)) wA.heap.size W0) := by
    rw [← hW0];exact ((H9.out.below (w' := wA.drewN nq) ⟨rfl, rfl, rfl, Nat.le_refl _, fun _ _ => rfl⟩).boxedT (fun _ => 0)).ext (fun i _ => by simp [setN])
   clear H9 HS;go_wp2_with fail
   clear hW0 k1 k2;go_loopw [5] (fun jv wi => ∃ k : Nat, k ≤ 512 ∧ jv = .int .i64 (k : Int) ∧ Hid (Bx1 80 512 tbE rb ib raw p w 11 im ⟨ps + 8 * k, r.bad⟩ xs v (tbE (setN f k)) wA.heap.size wi)) (fun jv _ => 512 - (intOf jv).toNat)
   case atStart => exact ⟨0, by omega, rfl, HB0⟩
   case round =>
    clear HB0;obtain ⟨k, hk, rfl, HK⟩ := hrel
    by_cases hk5 : k < 512
    ·have jk : (k : Int) < 512 := by omega
     have hwk : IntKind.i64.wrap ((k : Int) + 1) = ((k + 1 : Nat) : Int) := by rw [IntKind.wrap_i64]; omega
     have hC := dlongQ HK.out.rd.rk;rw [HNm.out k hk5] at hC;have HC := Lib.hid hC;clear hC;go_wp2_with fail
     refine HC.out.mono ?_;rintro e w2 ⟨rfl, h2⟩;have g2 := HK.out.call h2;have hc := g2.tab.cell (p := k) hk5;have hf := g2.tab.free k;have HF : Hid (Bx1 80 512 tbE rb ib raw p w 11 im ⟨ps + 8 * (k + 1), r.bad⟩ xs v (tbE (setN f (k + 1))) wA.heap.size (w2.setCell ⟨wA.heap.size, k, none⟩ (.int .u64 (f k : Int)))) := (g2.setT hk5 (f k)).ext (fun i _ => by
      simp only [setT, setN]
      by_cases e : i = k
      ·subst e;rw [if_pos rfl, if_pos (by omega)]
      ·rw [if_neg e]
       by_cases e2 : i < k
       ·rw [if_pos e2, if_pos (by omega)]
       ·rw [if_neg e2, if_neg (by omega)])
     clear h2 g2 HK HC;generalize setN f k k = Y at *;go_wp2_with fail
     go_roundw
     case rel => exact ⟨k + 1, by omega, rfl, HF⟩
     case measure => simp [intOf]; omega
    ·obtain rfl : k = 512 := by omega
     have jk : ¬ (512 : Int) < 512 := by omega
     have HB2 : Hid (Bx1 80 512 tbE rb ib raw p w 11 im ⟨ps + 4096, r.bad⟩ xs v (tbE f) wA.heap.size wr) := HK.out.ext (fun i hi => by simp only [setN]; rw [if_pos hi]);clear HK;obtain ⟨va, vc, rfl, _⟩ := HB2.out.rd.row.form;have hld := ldT_run HB2.out.drew.tab;have hmk := mkT_run wr.drew f;have ic := HB2.out.rd.ic (by omega);have hA0 := HB2.out.rd.boxedT f;have ica := hA0.rd.ic (by omega);have HAl := Lib.hid hA0.drew;have HPs2 : Hid (∀ (W : World) (v2 : Value) (ys : List (Nat → Nat)), Rd1 80 512 tbE rb ib raw p w 11 im ⟨ps + 4096, r.bad⟩ ys v2 W → psOf rb W = ps + 4096) := fun W v2 ys hW => hW.rk.psOf';clear HB2 hA0 hz;go_wp2_with fail
     go_region_law (first
      | (refine step_appG1 (enc := tbE) (x := f) (xs := xs) (by rfl) 31 80 (.tmp 28) (.tmp 30) rfl 512 4096 _ Tryz.underlying31 info_tab (by decide) (tabV_size _) (by decide) tb_ok (by rfl) HAl.out.rd.row (by rfl) HAl.out.bx HXl.out HAl.out.rd.size ?_; intro vb vd w20 H20 HG20; have HF := Lib.hid (HAl.out.rd.grown HG20.out H20.out); have kc := box_cell (HAl.out.rd.kept HG20.out) 11; have kf := box_free (HAl.out.rd.kept HG20.out) 11; rw [List.getElem?_set_self (show 11 < im.length by omega)] at kc; clear H20 HG20))
     all_goals
      clear HAl ic ica hld hmk;have HM := Lib.hid (HPs2.out _ _ _ HF.out);clear HPs2;go_wp2_with fail
      go_roundw
      case rel => exact ⟨i + 1, by omega, _, by rw [HN1.out]; exact HF.out⟩
      case measure => rw [HM.out, HPs.out]; omega
  ·have hlp : ¬ ps + 4096 ≤ p.en := by
    have h1 := HN.out;have h2 : p.en - r.ps < 4096 * ((p.en - r.ps) / 4096 + 1) := by
     have := Nat.div_add_mod (p.en - r.ps) 4096;have := Nat.mod_lt (p.en - r.ps) (show 0 < 4096 by decide);omega
    omega
   have d1 : decide ((ps : Int) + 4096 ≤ (p.en : Int)) = false := decide_eq_false (by omega);have d1n : decide (ps + 4096 ≤ p.en) = false := decide_eq_false hlp;have HQ : Hid (∀ q, ∃ v, Rd1 80 512 tbE rb ib raw p w 11 im (listR (tabR p) n r).2 (listR (tabR p) n r).1 v (wr.drewN q)) := fun q => ⟨v, by
    rw [show n = i by omega, HS.out];exact H9.out.below (w' := wr.drewN q) ⟨rfl, rfl, rfl, Nat.le_refl _, fun _ _ => rfl⟩⟩
   clear H9 HS HNext HLen hpsl hsz hen;go_wp2_with fail
   go_quiet (fail)
   go_wp2_with fail
   go_end0
   exact ⟨rfl, HQ.out _⟩
end Go.Proofs.YtmfkggngjeolcaaGreatDoor
namespace Go.Proofs.YtmfkggngjeolcaaGreatDoor
open Go.RowKit Bn Dd
theorem plans_keep {rb ib : Nat} {raw : Value} {p : Q} {w : World} {im : List Value} {r : R} {us : List (Int × SlV)} {va : Option Addr} {vc n : Nat} {W0 W1 W' : World} {Z : Nat} {ps : List Sc} {x : Int} {lv : SlV} {ls : List (List (Int × Int))} (h : Rd1 78 2 scE rb ib raw p w 8 im r us (.slice va n vc) W1) (ht : T2 (ScO Z W0) us ps) (hl : LaO Z W0 lv ls) (hb : Below W0.heap.size W0 W1) (hg : W1.grownBy W' (Value.slice va n vc).ownBlock) (u : Value) : T2 (ScO Z (W'.setCell ⟨ib, 8, none⟩ u)) (us ++ [(x, lv)]) (ps ++ [⟨x, ls⟩]) := by
 obtain ⟨_, _, _, _, _, hj⟩ := h.row.form;have hk1 : Keeps (fun j => (Value.slice va n vc).ownBlock = some j) W1 W' := ⟨hg.os, hg.tape, hg.output, hg.size, fun i hi hn => hg.block i hi (fun e => hn e.symm)⟩
 have hk2 := Keeps.setCell W' ib 8 u;have hbx := h.kept hg;have st : ∀ {v : SlV} {l : List (List (Int × Int))}, LaO Z W0 v l → LaO Z (W'.setCell ⟨ib, 8, none⟩ u) v l := fun o => ((o.kb (Keeps.of_below (S := fun _ => False) hb) (fun _ _ e => e)).kb hk1 (fun j ht e => by rcases ht with ht | ht <;> exact absurd (tag_same ht (hj _ e).2.2) (by decide))).kb hk2 (fun j ht e => by subst e; rcases ht with ht | ht <;> exact absurd (tag_same ht ⟨_, hbx⟩) (by decide));exact T2.snoc (r := ScO Z (W'.setCell ⟨ib, 8, none⟩ u)) ⟨rfl, st hl⟩ (ht.imp (fun x y h => ⟨h.1, st h.2⟩))
theorem dplansQ {rb ib : Nat} {raw : Value} {p : Q} {w : World} {r : R} {im : List Value} (h : Rk rb raw p w r w) (hbx : w.heap[ib]? = some (.cells im.toArray 33 (0, 0))) (hl : im.length = 12) (hi0 : im[8]? = some (.slice none 0 0)) (hi9 : ∃ u, im[9]? = some u) (hi10 : ∃ u, im[10]? = some u) (hne : ib ≠ rb) (hrw : ∀ k, raw.ownBlock = some k → k < w.heap.size) (hrn : raw.ownBlock ≠ some ib) : Calls Tryz.prog 76 #[.pointer (some ⟨rb, 0, none⟩), .pointer (some ⟨ib, 0, none⟩)] w fun e w' => e = .returned (.tuple #[]) ∧ ∃ v us, Rd1 78 2 scE rb ib raw p w 8 ((im.set 9 (.int .i64 (plansR p r).1.master)).set 10 (.int .i64 ((plansR p r).1.start : Int))) (plansR p r).2 us v w' ∧ T2 (ScO w.heap.size w') us (plansR p r).1.plans := by
 have h0 : Rd1 78 2 scE rb ib raw p w 8 im r [] (.slice none 0 0) w := rd_start h hbx (by omega) hi0 hne hrw hrn;obtain ⟨n, ra, ea⟩ : ∃ v t, numR p 2 r = (v, t) := ⟨_, _, rfl⟩
 have Ka : Hid (∀ W, Rk rb raw p W r W → Calls Tryz.prog 106 #[.pointer (some ⟨rb, 0, none⟩), .int .i64 2] W fun e w' => e = .returned (.int .i64 (n : Nat)) ∧ Rk rb raw p W ra w') := fun W hW => by have h9 := dnum2Q hW; rw [ea] at h9; exact h9
 obtain ⟨N, rbb, eb⟩ : ∃ v t, numR p 2 ra = (v, t) := ⟨_, _, rfl⟩
 have Kb : Hid (∀ W, Rk rb raw p W ra W → Calls Tryz.prog 106 #[.pointer (some ⟨rb, 0, none⟩), .int .i64 2] W fun e w' => e = .returned (.int .i64 (N : Nat)) ∧ Rk rb raw p W rbb w') := fun W hW => by have h9 := dnum2Q hW; rw [eb] at h9; exact h9
 obtain ⟨rc, ec⟩ : ∃ t, (if n = 0 ∧ 0 < N then refR ra.ps rbb else rbb) = t := ⟨_, rfl⟩
 obtain ⟨ms, rd, ed⟩ : ∃ v t, noneR p rc = (v, t) := ⟨_, _, rfl⟩
 have Kc : Hid (∀ W, Rk rb raw p W rc W → Calls Tryz.prog 111 #[.pointer (some ⟨rb, 0, none⟩)] W fun e w' => e = .returned (.int .i64 ms) ∧ Rk rb raw p W rd w') := fun W hW => by have h9 := dnoneQ hW; rw [ed] at h9; exact h9
 obtain ⟨st, re, ee⟩ : ∃ v t, numR p 2 rd = (v, t) := ⟨_, _, rfl⟩
 have Kd : Hid (∀ W, Rk rb raw p W rd W → Calls Tryz.prog 106 #[.pointer (some ⟨rb, 0, none⟩), .int .i64 2] W fun e w' => e = .returned (.int .i64 (st : Nat)) ∧ Rk rb raw p W re w') := fun W hW => by have h9 := dnum2Q hW; rw [ee] at h9; exact h9
 have hn : n ≤ 65535 := by have h9 := numR_sm (p := p) h.sl 2 r; rw [ea] at h9; exact Nat.le_of_lt_succ h9
 have hN : N ≤ 65535 := by have h9 := numR_sm (p := p) h.sl 2 ra; rw [eb] at h9; exact Nat.le_of_lt_succ h9
 have HP : Hid (plansR p r = (⟨(listR (planR p N) n re).1, ms, st⟩, (listR (planR p N) n re).2)) := show _ = _ by simp only [plansR, ea, eb, ec, ed, ee]
 rw [HP.out];have HEc := Lib.hid ec;obtain ⟨u9, hi9⟩ := hi9;obtain ⟨u10, hi10⟩ := hi10;obtain ⟨bb, hbb⟩ : ∃ bb, decide (n = 0 ∧ 0 < N) = bb := ⟨_, rfl⟩
 have HBB := Lib.hid hbb;have HS0 := Lib.hid h0;have HSz : Hid (rb < w.heap.size) := h.lt;clear h h0 hbx hi0 ea eb ec ed ee HP hbb hrw;go_enter Tryz.func76, Tryz.ntmps76
 go_wp2_with fail
 refine (Ka.out _ HS0.out.rk).mono ?_;rintro e w1 ⟨rfl, h1⟩;have HSa := Lib.hid (HS0.out.call h1);clear h1 HS0 Ka;have k1 := HSa.out.rk.cell1;have HPs : Hid (ra.ps ≤ p.en) := HSa.out.rk.le;go_wp2_with fail
 refine (Kb.out _ HSa.out.rk).mono ?_;rintro e w2 ⟨rfl, h1⟩;have HSb := Lib.hid (HSa.out.call h1);clear h1 HSa Kb k1;go_upto_region 3 with fail
 go_cut [27] (fun y wx => y = .bool bb ∧ wx = w2)
 case first =>
  by_cases hn0 : n = 0
  ·have d3 : ((n : Int) == 0) = true := by rw [hn0]; rfl
   by_cases hN0 : 0 < N
   ·have d4 : decide ((N : Int) > 0) = true := decide_eq_true (by omega);go_wp2_with fail
    go_meet
    exact ⟨by rw [← HBB.out, decide_eq_true (show n = 0 ∧ 0 < N from ⟨hn0, hN0⟩)], rfl⟩
   ·have d4 : decide ((N : Int) > 0) = false := decide_eq_false (by omega);go_wp2_with fail
    go_meet
    exact ⟨by rw [← HBB.out, decide_eq_false (show ¬ (n = 0 ∧ 0 < N) from fun k => hN0 k.2)], rfl⟩
  ·have d3 : ((n : Int) == 0) = false := by simp; omega
   go_wp2_with fail
   go_meet
   exact ⟨by rw [← HBB.out, decide_eq_false (show ¬ (n = 0 ∧ 0 < N) from fun k => hn0 k.1)], rfl⟩
 case rest =>
 obtain ⟨rfl, hw9⟩ := hcut;subst hw9;go_upto_if 27 with fail
 go_cut [] (fun wx => Hid (Rd1 78 2 scE rb ib raw p w 8 im rc [] (.slice none 0 0) wx))
 case first =>
  cases bb with
  | true =>
   have HX : Hid (rc = refR ra.ps rbb) := show _ = _ by rw [← HEc.out, if_pos (of_decide_eq_true HBB.out)]
   have HRf := Lib.hid (drefuseQ HSb.out.rk (a := ra.ps) HPs.out);go_wp2_with fail
   refine HRf.out.mono ?_;rintro e w3 ⟨rfl, h2⟩;have H2 := Lib.hid (HSb.out.call h2);clear h2 HRf;go_wp2_with fail
   go_meet
   exact (by rw [HX.out]; exact H2)
  | false =>
   have HX : Hid (rc = rbb) := show _ = _ by rw [← HEc.out, if_neg (of_decide_eq_false HBB.out)]
   go_wp2_with fail
   go_meet
   exact (by rw [HX.out]; exact HSb)
 case rest =>
 clear HSb HBB HEc HPs;go_wp2_with fail
 refine (Kc.out _ hcut.out.rk).mono ?_;rintro e w3 ⟨rfl, h3⟩;have g3 := hcut.out.call h3;have x9 := g3.io (j := 9) (by decide);rw [hi9] at x9;have y9 := g3.iF 9;have HSc := Lib.hid (g3.setIm (j := 9) (by decide) (.int .i64 ms));clear h3 g3 hcut Kc;go_wp2_with fail
 refine (Kd.out _ HSc.out.rk).mono ?_;rintro e w4 ⟨rfl, h3⟩;have g3 := HSc.out.call h3;have x10 := g3.io (j := 10) (by decide);rw [List.getElem?_set_ne (by decide), hi10] at x10;have y10 := g3.iF 10;have HSd := Lib.hid (g3.setIm (j := 10) (by decide) (.int .i64 (st : Int)));clear h3 g3 HSc Kd x9 y9;go_wp2_with fail
 clear x10 y10;have H0 : Hid (∃ v us, Rd1 78 2 scE rb ib raw p w 8 (((im.set 9 (.int .i64 ms))).set 10 (.int .i64 (st : Int))) (listR (planR p N) 0 re).2 us v (w4.setCell ⟨ib, 10, none⟩ (.int .i64 (st : Int))) ∧ T2 (ScO w.heap.size (w4.setCell ⟨ib, 10, none⟩ (.int .i64 (st : Int)))) us (listR (planR p N) 0 re).1) := ⟨_, _, HSd.out, .nil⟩
 clear HSd;go_loopw [7] (fun iv wr => ∃ i : Nat, i ≤ n ∧ iv = .int .i64 (i : Int) ∧ Hid (∃ v us, Rd1 78 2 scE rb ib raw p w 8 (((im.set 9 (.int .i64 ms))).set 10 (.int .i64 (st : Int))) (listR (planR p N) i re).2 us v wr ∧ T2 (ScO w.heap.size wr) us (listR (planR p N) i re).1)) (fun iv _ => n - (intOf iv).toNat)
 case atStart => exact ⟨0, Nat.zero_le _, rfl, H0⟩
 case round =>
  clear H0;obtain ⟨i, hi, rfl, HI⟩ := hrel;obtain ⟨v, us, h9, ht9⟩ := HI.out;have HStop := Lib.hid (listR_stop (planR p N) i re);have HNext := Lib.hid (listR_next (planR p N) i re);have HLen := Lib.hid (listR_len (planR p N) i re);obtain ⟨⟨ps, rr⟩, hS⟩ : ∃ x, listR (planR p N) i re = x := ⟨_, rfl⟩
  rw [hS] at h9 ht9 HStop HNext HLen;clear HI;have k3 := h9.rk.cell3;have H9 := Lib.hid h9;have HT9 := Lib.hid ht9;have HS := Lib.hid hS;clear h9 ht9 hS;obtain ⟨wA, hwA⟩ : ∃ x, x = wr := ⟨_, rfl⟩
  subst hwA
  by_cases hb : rr.bad < 0
  ·have d3 : decide (rr.bad < 0) = true := decide_eq_true hb
   by_cases hin : i < n
   ·have ji : (i : Int) < (n : Int) := by omega
    have hw1 : IntKind.i64.wrap ((i : Int) + 1) = ((i + 1 : Nat) : Int) := by rw [IntKind.wrap_i64]; omega
    have HXl : Hid (us.length ≤ 65535) := show _ ≤ _ by have h1 := HLen.out; have h2 := HT9.out.len; simp only at h1 h2; omega
    have HN : Hid (listR (planR p N) (i + 1) re = (ps ++ [(planR p N rr).1], (planR p N rr).2)) := HNext.out (show goR rr = true from decide_eq_true hb);clear HStop HNext HLen HS;obtain ⟨x0, t0, e0⟩ : ∃ v t, numR p 4 rr = (v, t) := ⟨_, _, rfl⟩
    have K0 : Hid (∀ W, Rk rb raw p W rr W → Calls Tryz.prog 106 #[.pointer (some ⟨rb, 0, none⟩), .int .i64 4] W fun e w' => e = .returned (.int .i64 (x0 : Nat)) ∧ Rk rb raw p W t0 w') := fun W hW => by have h9 := dnum4Q hW; rw [e0] at h9; exact h9
    obtain ⟨t1, e1⟩ : ∃ t, zerosR p 4 t0 = t := ⟨_, rfl⟩
    have K1 : Hid (∀ W, Rk rb raw p W t0 W → Calls Tryz.prog 108 #[.pointer (some ⟨rb, 0, none⟩), .int .i64 4] W fun e w' => e = .returned (.tuple #[]) ∧ Rk rb raw p W t1 w') := fun W hW => by have h9 := dzerosQ hW (n := 4) (by decide); rw [e1] at h9; exact h9
    have HE : planR p N rr = (⟨x0, (listR (laneR p) N t1).1⟩, (listR (laneR p) N t1).2) := by simp only [planR, e0, e1]
    rw [HE] at HN;clear HE e0 e1;go_wp2_with fail
    refine (K0.out _ H9.out.rk).mono ?_;rintro e w2 ⟨rfl, h8⟩;have hlt9 : rb < wA.heap.size := Nat.lt_of_lt_of_le H9.out.lt.1 H9.out.size;have hrw9 : ∀ k, raw.ownBlock = some k → k < wA.heap.size := fun k e => Nat.lt_of_lt_of_le (H9.out.rw' k e) H9.out.size;have HLs : Hid (Ls2 rb w2.heap.size raw p wA (x0 : Int) t0 ⟨none, 0, 0⟩ [] [] (w2.alloc (.cells ([.int .i64 (x0 : Int), slE1 ⟨none, 0, 0⟩] : List Value).toArray 78))) := ⟨(h8.below ((Below.refl _ _).alloc (Nat.le_refl _) _)).here, heap_alloc_new w2 _, OwnG.nil _ _ _ _ _, .nil, h8.fr.size, hlt9, hrw9, h8.fr.trans (Keeps.of_below (S := fun k => k = rb) ((Below.refl _ _).alloc (Nat.le_refl _) _)) (fun _ _ e => e)⟩
    clear h8 K0 k3 hlt9 hrw9;go_wp2_with fail
    refine (K1.out _ HLs.out.rk).mono ?_;rintro e w3 ⟨rfl, h8⟩;have HL1 := Lib.hid (HLs.out.call h8);clear h8 HLs K1;go_wp2_with fail
    have H1 : Hid (∃ lv vs, Ls2 rb w2.heap.size raw p wA (x0 : Int) (listR (laneR p) 0 t1).2 lv vs (listR (laneR p) 0 t1).1 _) := ⟨_, _, HL1.out⟩
    clear HL1;go_loopw [9] (fun kv wr => ∃ k : Nat, k ≤ N ∧ kv = .int .i64 (k : Int) ∧ Hid (∃ lv vs, Ls2 rb w2.heap.size raw p wA (x0 : Int) (listR (laneR p) k t1).2 lv vs (listR (laneR p) k t1).1 wr)) (fun kv _ => N - (intOf kv).toNat)
    case atStart => exact ⟨0, Nat.zero_le _, rfl, H1⟩
    case round =>
     clear H1;obtain ⟨k, hk, rfl, HK⟩ := hrel;obtain ⟨lv, vs, h9⟩ := HK.out;have HStop := Lib.hid (listR_stop (laneR p) k t1);have HNext := Lib.hid (listR_next (laneR p) k t1);have HLen := Lib.hid (listR_len (laneR p) k t1);obtain ⟨⟨ls, tt⟩, hS⟩ : ∃ x, listR (laneR p) k t1 = x := ⟨_, rfl⟩
     rw [hS] at h9 HStop HNext HLen;clear HK;have k3 := h9.rk.cell3;have HL := Lib.hid h9;have HS := Lib.hid hS;clear h9 hS;obtain ⟨wB, hwB⟩ : ∃ x, x = wr := ⟨_, rfl⟩
     subst hwB
     by_cases hb2 : tt.bad < 0
     ·have d5 : decide (tt.bad < 0) = true := decide_eq_true hb2
      by_cases hkn : k < N
      ·have jk : (k : Int) < (N : Int) := by omega
       have hw2 : IntKind.i64.wrap ((k : Int) + 1) = ((k + 1 : Nat) : Int) := by rw [IntKind.wrap_i64]; omega
       have HVl : Hid (vs.length ≤ 65535) := show _ ≤ _ by have h1 := HLen.out; have h2 := HL.out.tw.len; simp only at h1 h2; omega
       have HN2 : Hid (listR (laneR p) (k + 1) t1 = (ls ++ [(laneR p tt).1], (laneR p tt).2)) := HNext.out (show goR tt = true from decide_eq_true hb2);clear HStop HNext HLen HS;obtain ⟨m, s1, e2⟩ : ∃ v t, manyR p tt = (v, t) := ⟨_, _, rfl⟩
       have K2 : Hid (∀ W, Rk rb raw p W tt W → Calls Tryz.prog 109 #[.pointer (some ⟨rb, 0, none⟩)] W fun e w' => e = .returned (.int .i64 (m : Nat)) ∧ Rk rb raw p W s1 w') := fun W hW => by have h9 := dcountQ hW; rw [e2] at h9; exact h9
       have hm : m ≤ 65535 := by have h9 := numR_sm (p := p) HL.out.rk.sl 2 tt; rw [show (numR p 2 tt).1 = (manyR p tt).1 from rfl, e2] at h9; exact Nat.le_of_lt_succ h9
       have HE2 : laneR p tt = listR (stR p) m s1 := by simp only [laneR, e2]
       rw [HE2] at HN2;clear HE2 e2;go_wp2_with fail
       refine (K2.out _ HL.out.rk).mono ?_;rintro e w4 ⟨rfl, h8⟩;have HR0 : Hid (Rw1 74 2 stE rb raw p wB s1 [] (slE1 ⟨none, 0, 0⟩) w4) := ⟨h8.here, OwnG.nil _ _ _ _ _, Nat.lt_of_lt_of_le HL.out.lt HL.out.fr.size, fun k e => Nat.lt_of_lt_of_le (HL.out.rw' k e) HL.out.fr.size, h8.fr⟩
       clear h8 K2 k3;go_wp2_with fail
       have H2 : Hid (Rw1 74 2 stE rb raw p wB (listR (stR p) 0 s1).2 (listR (stR p) 0 s1).1 (slE1 ⟨none, 0, 0⟩) w4) := HR0;clear HR0;go_loopw [12, 10] (fun xv yv wr => ∃ x : Nat, x ≤ m ∧ xv = .int .i64 (x : Int) ∧ ∃ y : SlV, yv = slE1 y ∧ Hid (Rw1 74 2 stE rb raw p wB (listR (stR p) x s1).2 (listR (stR p) x s1).1 (slE1 y) wr)) (fun xv _ _ => m - (intOf xv).toNat)
       case atStart => exact ⟨0, Nat.zero_le _, rfl, ⟨none, 0, 0⟩, rfl, H2⟩
       case round =>
        clear H2;obtain ⟨x, hx, rfl, y, rfl, HX⟩ := hrel;have HStop := Lib.hid (listR_stop (stR p) x s1);have HNext := Lib.hid (listR_next (stR p) x s1);have HLen := Lib.hid (listR_len (stR p) x s1);have h9 := HX.out;obtain ⟨⟨xs, q0⟩, hS⟩ : ∃ z, listR (stR p) x s1 = z := ⟨_, rfl⟩
        rw [hS] at h9 HStop HNext HLen;clear HX;have k3 := h9.rk.cell3;have HX := Lib.hid h9;have HS := Lib.hid hS;obtain ⟨ya, yn, yc⟩ := y;obtain ⟨a9, c9, hy, _⟩ := h9.row.form;simp only [slE1, Value.slice.injEq] at hy;obtain ⟨rfl, rfl, rfl⟩ := hy;simp only [slE1] at HX ⊢;clear h9 hS
        by_cases hb3 : q0.bad < 0
        ·have d6 : decide (q0.bad < 0) = true := decide_eq_true hb3
         by_cases hxm : x < m
         ·have jx : (x : Int) < (m : Int) := by omega
          have hw3 : IntKind.i64.wrap ((x : Int) + 1) = ((x + 1 : Nat) : Int) := by rw [IntKind.wrap_i64]; omega
          have HYl : Hid (xs.length ≤ 65535) := show _ ≤ _ by have h1 := HLen.out; simp only at h1; omega
          have HN3 : Hid (listR (stR p) (x + 1) s1 = (xs ++ [(stR p q0).1], (stR p q0).2)) := HNext.out (show goR q0 = true from decide_eq_true hb3);clear HStop HNext HLen HS;obtain ⟨z0, q1, e3⟩ : ∃ v t, noneR p q0 = (v, t) := ⟨_, _, rfl⟩
          have K3 : Hid (∀ W, Rk rb raw p W q0 W → Calls Tryz.prog 111 #[.pointer (some ⟨rb, 0, none⟩)] W fun e w' => e = .returned (.int .i64 z0) ∧ Rk rb raw p W q1 w') := fun W hW => by have h9 := dnoneQ hW; rw [e3] at h9; exact h9
          obtain ⟨q2, e4⟩ : ∃ t, zerosR p 2 q1 = t := ⟨_, rfl⟩
          have K4 : Hid (∀ W, Rk rb raw p W q1 W → Calls Tryz.prog 108 #[.pointer (some ⟨rb, 0, none⟩), .int .i64 2] W fun e w' => e = .returned (.tuple #[]) ∧ Rk rb raw p W q2 w') := fun W hW => by have h9 := dzerosQ hW (n := 2) (by decide); rw [e4] at h9; exact h9
          obtain ⟨z1, q3, e5⟩ : ∃ v t, numR p 4 q2 = (v, t) := ⟨_, _, rfl⟩
          have K5 : Hid (∀ W, Rk rb raw p W q2 W → Calls Tryz.prog 106 #[.pointer (some ⟨rb, 0, none⟩), .int .i64 4] W fun e w' => e = .returned (.int .i64 (z1 : Nat)) ∧ Rk rb raw p W q3 w') := fun W hW => by have h9 := dnum4Q hW; rw [e5] at h9; exact h9
          have HE3 : stR p q0 = ((z0, (z1 : Int)), q3) := by simp only [stR, e3, e4, e5]
          rw [HE3] at HN3;clear HE3 e3 e4 e5;go_wp2_with fail
          refine (K3.out _ HX.out.rk).mono ?_;rintro e w5 ⟨rfl, h8⟩;have G3 := Lib.hid ((HX.out.call h8).boxedAt [.int .i64 z0, .int .i64 0] rfl);clear h8 HX K3 k3;go_wp2_with fail
          refine (K4.out _ G3.out.rd.rk).mono ?_;rintro e w6 ⟨rfl, h8⟩;have G4 := Lib.hid (G3.out.call h8);clear h8 G3 K4;go_wp2_with fail
          refine (K5.out _ G4.out.rd.rk).mono ?_;rintro e w7 ⟨rfl, h8⟩;have G5 := Lib.hid (G4.out.call h8);clear h8 G4 K5;have d1 := G5.out.cell 1;have f1 := G5.out.free 1;simp only [List.getElem?_cons_zero, List.getElem?_cons_succ] at d1;have G6 := Lib.hid (G5.out.set 1 (.int .i64 (z1 : Int)));simp only [List.set_cons_zero, List.set_cons_succ] at G6;clear G5;have a0 := G6.out.cell 0;have a1 := G6.out.cell 1;simp only [List.getElem?_cons_zero, List.getElem?_cons_succ] at a0 a1;have HAl := Lib.hid (G6.out.rd.boxedAt [.int .i64 z0, .int .i64 (z1 : Int)] (m := w7.heap.size) (by simp [World.setCell]));clear G6;go_wp2_with (at_builtin; refine wpList_appG (enc := stE) (x := ((z0, (z1 : Int)) : Int × Int)) (xs := xs) rfl 75 74 (.tmp 92) (.tmp 94) rfl 2 16 _ Tryz.underlying75 infoSt (by decide) rfl (by decide) st_ok (by rfl) HAl.out.rd.row (by rfl) HAl.out.bx (Nat.le_trans HYl.out (by decide)) HAl.out.rd.fr.size ?_; intro vb vd w20 H20 HG20; have HF := Lib.hid (HAl.out.rd.grown HG20.out H20.out); clear H20 HG20 HAl a0 a1)
          go_roundw
          case rel => exact ⟨x + 1, by omega, rfl, ⟨vb, xs.length + 1, vd⟩, rfl, by rw [HN3.out]; exact HF⟩
          case measure => simp [intOf]; omega
         ·have jx : ¬ (x : Int) < (m : Int) := by omega
          have hlz : listR (stR p) m s1 = (xs, q0) := by rw [show m = x by omega, HS.out]
          rw [hlz] at HN2;have HO := Lib.hid (HL.out.over HX.out);have HY : Hid (OwnG 74 2 stE wr wA.heap.size (.slice ya xs.length yc) xs) := HX.out.row.low HL.out.fr.size;clear HX HL HStop HNext HLen HS hlz;obtain ⟨la, ln, lc⟩ := lv;have a1 := HO.out.cell;have f1 := HO.out.free 1;simp only [slE1] at a1;have HAb := Lib.hid (HO.out.bel (w' := wr.alloc (.cells ([.slice ya xs.length yc] : List Value).toArray 75)) ((Below.refl _ _).alloc (Nat.le_refl _) _));have HYb := Lib.hid (HY.out.below (w' := wr.alloc (.cells ([.slice ya xs.length yc] : List Value).toArray 75)) ((Below.refl _ _).alloc (Nat.le_refl _) _));have hNew := heap_alloc_new wr (.cells ([.slice ya xs.length yc] : List Value).toArray 75);have HNew := Lib.hid hNew;clear hNew HO HY;go_wp2_with (at_builtin; refine wpList_appG (enc := slE) (x := (⟨ya, xs.length, yc⟩ : SlV)) (xs := vs) rfl 76 75 (.tmp 97) (.tmp 99) rfl 1 24 _ Tryz.underlying76 infoLa (by decide) rfl (by decide) sl_ok (by rfl) HAb.out.row (by rfl) HNew.out (Nat.le_trans HVl.out (by decide)) HAb.out.fr.size ?_; intro vb vd w20 H20 HG20; have HF := Lib.hid (HAb.out.grown (y := (⟨ya, xs.length, yc⟩ : SlV)) (lv' := (⟨vb, vs.length + 1, vd⟩ : SlV)) HYb.out HG20.out H20.out); have kc := box_cell (HAb.out.kept HG20.out) 1; have kf := box_free (HAb.out.kept HG20.out) 1; simp only [List.getElem?_cons_zero, List.getElem?_cons_succ, slE1] at kc; clear H20 HG20 HAb HYb HNew a1 f1)
          go_roundw
          case rel => exact ⟨k + 1, by omega, rfl, _, _, by rw [HN2.out]; exact HF.out⟩
          case measure => simp [intOf]; omega
        ·have d6 : decide (q0.bad < 0) = false := decide_eq_false hb3;have hst := Lib.hid (HStop.out (show ¬ goR q0 = true from fun e => hb3 (of_decide_eq_true e)) m hx)
         by_cases hxm : x < m
         ·have jx : (x : Int) < (m : Int) := by omega
          have hlz : listR (stR p) m s1 = (xs, q0) := by rw [hst.out]
          rw [hlz] at HN2;have HO := Lib.hid (HL.out.over HX.out);have HY : Hid (OwnG 74 2 stE wr wA.heap.size (.slice ya xs.length yc) xs) := HX.out.row.low HL.out.fr.size;clear HX HL HStop HNext HLen HS hlz;obtain ⟨la, ln, lc⟩ := lv;have a1 := HO.out.cell;have f1 := HO.out.free 1;simp only [slE1] at a1;have HAb := Lib.hid (HO.out.bel (w' := wr.alloc (.cells ([.slice ya xs.length yc] : List Value).toArray 75)) ((Below.refl _ _).alloc (Nat.le_refl _) _));have HYb := Lib.hid (HY.out.below (w' := wr.alloc (.cells ([.slice ya xs.length yc] : List Value).toArray 75)) ((Below.refl _ _).alloc (Nat.le_refl _) _));have hNew := heap_alloc_new wr (.cells ([.slice ya xs.length yc] : List Value).toArray 75);have HNew := Lib.hid hNew;clear hNew HO HY;go_wp2_with (at_builtin; refine wpList_appG (enc := slE) (x := (⟨ya, xs.length, yc⟩ : SlV)) (xs := vs) rfl 76 75 (.tmp 97) (.tmp 99) rfl 1 24 _ Tryz.underlying76 infoLa (by decide) rfl (by decide) sl_ok (by rfl) HAb.out.row (by rfl) HNew.out (Nat.le_trans HVl.out (by decide)) HAb.out.fr.size ?_; intro vb vd w20 H20 HG20; have HF := Lib.hid (HAb.out.grown (y := (⟨ya, xs.length, yc⟩ : SlV)) (lv' := (⟨vb, vs.length + 1, vd⟩ : SlV)) HYb.out HG20.out H20.out); have kc := box_cell (HAb.out.kept HG20.out) 1; have kf := box_free (HAb.out.kept HG20.out) 1; simp only [List.getElem?_cons_zero, List.getElem?_cons_succ, slE1] at kc; clear H20 HG20 HAb HYb HNew a1 f1)
          go_roundw
          case rel => exact ⟨k + 1, by omega, rfl, _, _, by rw [HN2.out]; exact HF.out⟩
          case measure => simp [intOf]; omega
         ·have jx : ¬ (x : Int) < (m : Int) := by omega
          have hlz : listR (stR p) m s1 = (xs, q0) := by rw [hst.out]
          rw [hlz] at HN2;have HO := Lib.hid (HL.out.over HX.out);have HY : Hid (OwnG 74 2 stE wr wA.heap.size (.slice ya xs.length yc) xs) := HX.out.row.low HL.out.fr.size;clear HX HL HStop HNext HLen HS hlz;obtain ⟨la, ln, lc⟩ := lv;have a1 := HO.out.cell;have f1 := HO.out.free 1;simp only [slE1] at a1;have HAb := Lib.hid (HO.out.bel (w' := wr.alloc (.cells ([.slice ya xs.length yc] : List Value).toArray 75)) ((Below.refl _ _).alloc (Nat.le_refl _) _));have HYb := Lib.hid (HY.out.below (w' := wr.alloc (.cells ([.slice ya xs.length yc] : List Value).toArray 75)) ((Below.refl _ _).alloc (Nat.le_refl _) _));have hNew := heap_alloc_new wr (.cells ([.slice ya xs.length yc] : List Value).toArray 75);have HNew := Lib.hid hNew;clear hNew HO HY;go_wp2_with (at_builtin; refine wpList_appG (enc := slE) (x := (⟨ya, xs.length, yc⟩ : SlV)) (xs := vs) rfl 76 75 (.tmp 97) (.tmp 99) rfl 1 24 _ Tryz.underlying76 infoLa (by decide) rfl (by decide) sl_ok (by rfl) HAb.out.row (by rfl) HNew.out (Nat.le_trans HVl.out (by decide)) HAb.out.fr.size ?_; intro vb vd w20 H20 HG20; have HF := Lib.hid (HAb.out.grown (y := (⟨ya, xs.length, yc⟩ : SlV)) (lv' := (⟨vb, vs.length + 1, vd⟩ : SlV)) HYb.out HG20.out H20.out); have kc := box_cell (HAb.out.kept HG20.out) 1; have kf := box_free (HAb.out.kept HG20.out) 1; simp only [List.getElem?_cons_zero, List.getElem?_cons_succ, slE1] at kc; clear H20 HG20 HAb HYb HNew a1 f1)
          go_roundw
          case rel => exact ⟨k + 1, by omega, rfl, _, _, by rw [HN2.out]; exact HF.out⟩
          case measure => simp [intOf]; omega
      ·have jk : ¬ (k : Int) < (N : Int) := by omega
       have hlz : listR (laneR p) N t1 = (ls, tt) := by rw [show N = k by omega, HS.out]
       rw [hlz] at HN;have HB := Lib.hid (H9.out.over HL.out);have HSc : Hid (∀ {W : World}, Keeps (fun k => k = rb) wA W → T2 (ScO w.heap.size W) us ps) := fun {W} hk => HT9.out.imp (fun x y h => h.kb hk (fun j hj e => by subst e; rcases hj with hj | hj <;> exact absurd (tag_same hj ⟨_, H9.out.rk.blk⟩) (by decide)));have HTw := Lib.hid (HSc.out HL.out.fr);have HLa : Hid (LaO w.heap.size wB lv ls) := LaO.low ⟨_, HL.out.row, HL.out.tw⟩ H9.out.size;obtain ⟨la, ln, lc⟩ := lv;obtain ⟨va, vc, rfl, _⟩ := HB.out.rd.row.form;have a0 := HB.out.cell 0;have a1 := HB.out.cell 1;simp only [List.getElem?_cons_zero, List.getElem?_cons_succ, slE1] at a0 a1;have ic := HB.out.rd.ic (by simp only [List.length_set]; omega);have HA0 := Lib.hid (HB.out.rd.boxed [.int .i64 (x0 : Int), slE1 ⟨la, ln, lc⟩]);have ica := HA0.out.rd.ic (by simp only [List.length_set]; omega);have HAl := Lib.hid HA0.out.drew;have HFT : Hid (∀ W', World.grownBy (wB.alloc (.cells ([.int .i64 (x0 : Int), slE1 ⟨la, ln, lc⟩] : List Value).toArray 78)).drew W' (Value.slice va us.length vc).ownBlock → ∀ u, T2 (ScO w.heap.size (W'.setCell ⟨ib, 8, none⟩ u)) (us ++ [((x0 : Int), (⟨la, ln, lc⟩ : SlV))]) (ps ++ [⟨(x0 : Int), ls⟩])) := fun W' hg u => plans_keep HA0.out.drew.rd HTw.out HLa.out (Below.refl _ _ |>.alloc (Nat.le_refl _) _ |>.drew) hg u;clear HB HA0 H9 HT9 HSc HL HTw HLa HStop HNext HLen HS hlz;simp only [slE1] at HAl ica HFT;go_wp2_with fail
       go_region_law (first
        | (refine step_appG1 (enc := scE) (x := ((x0 : Int), (⟨la, ln, lc⟩ : SlV))) (xs := us) (by rfl) 30 78 (.tmp 106) (.tmp 108) rfl 2 32 _ Tryz.underlying30 infoSc (by decide) rfl (by decide) sc_ok (by rfl) HAl.out.rd.row (by rfl) HAl.out.bx (Nat.le_trans HXl.out (by decide)) HAl.out.rd.size ?_; intro vb vd w20 H20 HG20; have HF := Lib.hid (HAl.out.rd.grown HG20.out H20.out); have HF2 := Lib.hid (HFT.out _ HG20.out (.slice vb (us.length + 1) vd)); have kc := box_cell (HAl.out.rd.kept HG20.out) 8; have kf := box_free (HAl.out.rd.kept HG20.out) 8; rw [List.getElem?_set_self (by simp only [List.length_set]; omega)] at kc; clear H20 HG20))
       all_goals
        clear HAl ic ica a0 a1 HFT;go_wp2_with fail
        go_roundw
        case rel => exact ⟨i + 1, by omega, rfl, _, _, by rw [HN.out]; exact ⟨HF.out, HF2.out⟩⟩
        case measure => simp [intOf]; omega
     ·have d5 : decide (tt.bad < 0) = false := decide_eq_false hb2;have hst := Lib.hid (HStop.out (show ¬ goR tt = true from fun e => hb2 (of_decide_eq_true e)) N hk)
      by_cases hkn : k < N
      ·have jk : (k : Int) < (N : Int) := by omega
       have hlz : listR (laneR p) N t1 = (ls, tt) := by rw [hst.out]
       rw [hlz] at HN;have HB := Lib.hid (H9.out.over HL.out);have HSc : Hid (∀ {W : World}, Keeps (fun k => k = rb) wA W → T2 (ScO w.heap.size W) us ps) := fun {W} hk => HT9.out.imp (fun x y h => h.kb hk (fun j hj e => by subst e; rcases hj with hj | hj <;> exact absurd (tag_same hj ⟨_, H9.out.rk.blk⟩) (by decide)));have HTw := Lib.hid (HSc.out HL.out.fr);have HLa : Hid (LaO w.heap.size wB lv ls) := LaO.low ⟨_, HL.out.row, HL.out.tw⟩ H9.out.size;obtain ⟨la, ln, lc⟩ := lv;obtain ⟨va, vc, rfl, _⟩ := HB.out.rd.row.form;have a0 := HB.out.cell 0;have a1 := HB.out.cell 1;simp only [List.getElem?_cons_zero, List.getElem?_cons_succ, slE1] at a0 a1;have ic := HB.out.rd.ic (by simp only [List.length_set]; omega);have HA0 := Lib.hid (HB.out.rd.boxed [.int .i64 (x0 : Int), slE1 ⟨la, ln, lc⟩]);have ica := HA0.out.rd.ic (by simp only [List.length_set]; omega);have HAl := Lib.hid HA0.out.drew;have HFT : Hid (∀ W', World.grownBy (wB.alloc (.cells ([.int .i64 (x0 : Int), slE1 ⟨la, ln, lc⟩] : List Value).toArray 78)).drew W' (Value.slice va us.length vc).ownBlock → ∀ u, T2 (ScO w.heap.size (W'.setCell ⟨ib, 8, none⟩ u)) (us ++ [((x0 : Int), (⟨la, ln, lc⟩ : SlV))]) (ps ++ [⟨(x0 : Int), ls⟩])) := fun W' hg u => plans_keep HA0.out.drew.rd HTw.out HLa.out (Below.refl _ _ |>.alloc (Nat.le_refl _) _ |>.drew) hg u;clear HB HA0 H9 HT9 HSc HL HTw HLa HStop HNext HLen HS hlz;simp only [slE1] at HAl ica HFT;go_wp2_with fail
       go_region_law (first
        | (refine step_appG1 (enc := scE) (x := ((x0 : Int), (⟨la, ln, lc⟩ : SlV))) (xs := us) (by rfl) 30 78 (.tmp 106) (.tmp 108) rfl 2 32 _ Tryz.underlying30 infoSc (by decide) rfl (by decide) sc_ok (by rfl) HAl.out.rd.row (by rfl) HAl.out.bx (Nat.le_trans HXl.out (by decide)) HAl.out.rd.size ?_; intro vb vd w20 H20 HG20; have HF := Lib.hid (HAl.out.rd.grown HG20.out H20.out); have HF2 := Lib.hid (HFT.out _ HG20.out (.slice vb (us.length + 1) vd)); have kc := box_cell (HAl.out.rd.kept HG20.out) 8; have kf := box_free (HAl.out.rd.kept HG20.out) 8; rw [List.getElem?_set_self (by simp only [List.length_set]; omega)] at kc; clear H20 HG20))
       all_goals
        clear HAl ic ica a0 a1 HFT;go_wp2_with fail
        go_roundw
        case rel => exact ⟨i + 1, by omega, rfl, _, _, by rw [HN.out]; exact ⟨HF.out, HF2.out⟩⟩
        case measure => simp [intOf]; omega
      ·have jk : ¬ (k : Int) < (N : Int) := by omega
       have hlz : listR (laneR p) N t1 = (ls, tt) := by rw [hst.out]
       rw [hlz] at HN;have HB := Lib.hid (H9.out.over HL.out);have HSc : Hid (∀ {W : World}, Keeps (fun k => k = rb) wA W → T2 (ScO w.heap.size W) us ps) := fun {W} hk => HT9.out.imp (fun x y h => h.kb hk (fun j hj e => by subst e; rcases hj with hj | hj <;> exact absurd (tag_same hj ⟨_, H9.out.rk.blk⟩) (by decide)));have HTw := Lib.hid (HSc.out HL.out.fr);have HLa : Hid (LaO w.heap.size wB lv ls) := LaO.low ⟨_, HL.out.row, HL.out.tw⟩ H9.out.size;obtain ⟨la, ln, lc⟩ := lv;obtain ⟨va, vc, rfl, _⟩ := HB.out.rd.row.form;have a0 := HB.out.cell 0;have a1 := HB.out.cell 1;simp only [List.getElem?_cons_zero, List.getElem?_cons_succ, slE1] at a0 a1;have ic := HB.out.rd.ic (by simp only [List.length_set]; omega);have HA0 := Lib.hid (HB.out.rd.boxed [.int .i64 (x0 : Int), slE1 ⟨la, ln, lc⟩]);have ica := HA0.out.rd.ic (by simp only [List.length_set]; omega);have HAl := Lib.hid HA0.out.drew;have HFT : Hid (∀ W', World.grownBy (wB.alloc (.cells ([.int .i64 (x0 : Int), slE1 ⟨la, ln, lc⟩] : List Value).toArray 78)).drew W' (Value.slice va us.length vc).ownBlock → ∀ u, T2 (ScO w.heap.size (W'.setCell ⟨ib, 8, none⟩ u)) (us ++ [((x0 : Int), (⟨la, ln, lc⟩ : SlV))]) (ps ++ [⟨(x0 : Int), ls⟩])) := fun W' hg u => plans_keep HA0.out.drew.rd HTw.out HLa.out (Below.refl _ _ |>.alloc (Nat.le_refl _) _ |>.drew) hg u;clear HB HA0 H9 HT9 HSc HL HTw HLa HStop HNext HLen HS hlz;simp only [slE1] at HAl ica HFT;go_wp2_with fail
       go_region_law (first
        | (refine step_appG1 (enc := scE) (x := ((x0 : Int), (⟨la, ln, lc⟩ : SlV))) (xs := us) (by rfl) 30 78 (.tmp 106) (.tmp 108) rfl 2 32 _ Tryz.underlying30 infoSc (by decide) rfl (by decide) sc_ok (by rfl) HAl.out.rd.row (by rfl) HAl.out.bx (Nat.le_trans HXl.out (by decide)) HAl.out.rd.size ?_; intro vb vd w20 H20 HG20; have HF := Lib.hid (HAl.out.rd.grown HG20.out H20.out); have HF2 := Lib.hid (HFT.out _ HG20.out (.slice vb (us.length + 1) vd)); have kc := box_cell (HAl.out.rd.kept HG20.out) 8; have kf := box_free (HAl.out.rd.kept HG20.out) 8; rw [List.getElem?_set_self (by simp only [List.length_set]; omega)] at kc; clear H20 HG20))
       all_goals
        clear HAl ic ica a0 a1 HFT;go_wp2_with fail
        go_roundw
        case rel => exact ⟨i + 1, by omega, rfl, _, _, by rw [HN.out]; exact ⟨HF.out, HF2.out⟩⟩
        case measure => simp [intOf]; omega
   ·have ji : ¬ (i : Int) < (n : Int) := by omega
    have HQ : Hid (∃ v us, Rd1 78 2 scE rb ib raw p w 8 (((im.set 9 (.int .i64 ms))).set 10 (.int .i64 (st : Int))) (listR (planR p N) n re).2 us v wA ∧ T2 (ScO w.heap.size wA) us (listR (planR p N) n re).1) := ⟨v, us, by rw [show n = i by omega, HS.out]; exact ⟨H9.out, HT9.out⟩⟩
    clear H9 HT9 HNext HStop HLen HS;go_wp2_with fail
    go_end0
    exact ⟨rfl, HQ.out⟩
  ·have d3 : decide (rr.bad < 0) = false := decide_eq_false hb;have hst := Lib.hid (HStop.out (show ¬ goR rr = true from fun e => hb (of_decide_eq_true e)) n hi)
   by_cases hin : i < n
   ·have ji : (i : Int) < (n : Int) := by omega
    have HQ : Hid (∃ v us, Rd1 78 2 scE rb ib raw p w 8 (((im.set 9 (.int .i64 ms))).set 10 (.int .i64 (st : Int))) (listR (planR p N) n re).2 us v wA ∧ T2 (ScO w.heap.size wA) us (listR (planR p N) n re).1) := ⟨v, us, by rw [hst.out]; exact ⟨H9.out, HT9.out⟩⟩
    clear H9 HT9 HNext HStop HLen HS;go_wp2_with fail
    go_end0
    exact ⟨rfl, HQ.out⟩
   ·have ji : ¬ (i : Int) < (n : Int) := by omega
    have HQ : Hid (∃ v us, Rd1 78 2 scE rb ib raw p w 8 (((im.set 9 (.int .i64 ms))).set 10 (.int .i64 (st : Int))) (listR (planR p N) n re).2 us v wA ∧ T2 (ScO w.heap.size wA) us (listR (planR p N) n re).1) := ⟨v, us, by rw [hst.out]; exact ⟨H9.out, HT9.out⟩⟩
    clear H9 HT9 HNext HStop HLen HS;go_wp2_with fail
    go_end0
    exact ⟨rfl, HQ.out⟩
end Go.Proofs.YtmfkggngjeolcaaGreatDoor
namespace Go.Proofs.YtmfkggngjeolcaaGreatDoor
open Go.RowKit Bn Dd
open Dc
theorem ImD.kg {Z : Nat} {S : Nat → Prop} {w w' : World} {im : List Value} {J : Im} (h : ImD Z w im J) (hf : Keeps S w w') (hn : ∀ t, t ≠ 33 → t ≠ 138 → ∀ j, Tagd w t j → ¬ S j) : ImD Z w' im J := by
 obtain ⟨h0, ⟨v1, a1, b1⟩, ⟨v2, a2, b2⟩, ⟨v3, a3, b3⟩, ⟨v4, a4, b4⟩, ⟨v5, a5, b5⟩, ⟨v6, a6, b6⟩, ⟨v7, a7, b7⟩, ⟨v8, a8, us, b8, c8⟩, h9, h10, ⟨v11, a11, b11⟩⟩ := h;exact ⟨h0, ⟨v1, a1, b1.kt2 hf (hn _ (by decide) (by decide))⟩, ⟨v2, a2, b2.kt2 hf (hn _ (by decide) (by decide))⟩, ⟨v3, a3, b3.kt2 hf (hn _ (by decide) (by decide))⟩, ⟨v4, a4, b4.kt2 hf (hn _ (by decide) (by decide))⟩, ⟨v5, a5, b5.kt2 hf (hn _ (by decide) (by decide))⟩, ⟨v6, a6, b6.kt2 hf (hn _ (by decide) (by decide))⟩, ⟨v7, a7, b7.kt2 hf (hn _ (by decide) (by decide))⟩, ⟨v8, a8, us, b8.kt2 hf (hn _ (by decide) (by decide)), c8.imp (fun x y h => h.kb hf (fun j e => by rcases e with e | e; exact hn _ (by decide) (by decide) j e; exact hn _ (by decide) (by decide) j e))⟩, h9, h10, ⟨v11, a11, b11.kt2 hf (hn _ (by decide) (by decide))⟩⟩
def nilL : Nat → List Nat
 | 0 => [1, 2, 3, 4, 5, 6, 7, 8, 11]
 | 1 => [3, 4, 5, 6, 7, 8, 11]
 | 2 => [4, 5, 6, 7, 8, 11]
 | 3 => [5, 6, 7, 8, 11]
 | 4 => [6, 7, 8, 11]
 | 5 => [7, 8, 11]
 | 6 => [8, 11]
 | 7 => [11]
 | _ => []
structure ImS (bs : List Nat) (Z ib j : Nat) (im : List Value) (w : World) : Prop where
 blk : w.heap[ib]? = some (.cells im.toArray 33 (0, 0))
 len : im.length = 12
 dt : ImD Z w im (prJ bs j)
 nl : ∀ i ∈ nilL j, im[i]? = some (.slice none 0 0)
def SecX (bs : List Nat) (Z rb ib : Nat) (raw : Value) (w : World) (j : Nat) (w' : World) : Prop := ∃ im, Rk rb raw (pOf bs j) w' (secR (j + 1) (pOf bs j) (prJ bs j) ⟨(entN bs j).f, -1⟩).2 w' ∧ ImS bs Z ib (j + 1) im w' ∧ Keeps (fun k => k = rb ∨ k = ib) w w'
section
variable {bs : List Nat} {Z rb ib : Nat} {raw : Value} {w : World} {im : List Value}
theorem secX_of {j : Nat} {im' : List Value} {w' : World} (S : Im × R) (hS : secR (j + 1) (pOf bs j) (prJ bs j) ⟨(entN bs j).f, -1⟩ = S) (hk : Rk rb raw (pOf bs j) w' S.2 w') (hb : w'.heap[ib]? = some (.cells im'.toArray 33 (0, 0))) (hl : im'.length = 12) (hd : ImD Z w' im' S.1) (hn : ∀ i ∈ nilL (j + 1), im'[i]? = some (.slice none 0 0)) (hf : Keeps (fun k => k = rb ∨ k = ib) w w') : SecX bs Z rb ib raw w j w' := by
 subst hS;exact ⟨im', hk, ⟨hb, hl, hd, hn⟩, hf⟩
theorem two_tags {w : World} (h1 : Tagd w 138 rb) (h2 : Tagd w 33 ib) : ∀ t, t ≠ 33 → t ≠ 138 → ∀ j, Tagd w t j → ¬ (j = rb ∨ j = ib) := fun t n1 n2 j hj e => by
 rcases e with e | e
 ·subst e; exact n2 (tag_same hj h1)
 ·subst e; exact n1 (tag_same hj h2)
theorem sec0S (h : Rk rb raw (pOf bs 0) w ⟨(entN bs 0).f, -1⟩ w) (hI : ImS bs Z ib 0 im w) (hne : ib ≠ rb) (hrw : ∀ k, raw.ownBlock = some k → k < w.heap.size) (hrn : raw.ownBlock ≠ some ib) (hZ : Z ≤ w.heap.size) : Calls Tryz.prog 70 #[.pointer (some ⟨rb, 0, none⟩), .pointer (some ⟨ib, 0, none⟩)] w fun e w' => e = .returned (.tuple #[]) ∧ SecX bs Z rb ib raw w 0 w' := by
 have hT := two_tags (rb := rb) (ib := ib) (w := w) ⟨_, h.blk⟩ ⟨_, hI.blk⟩;refine (dbusQ h hI.blk hI.len (hI.nl 1 (by decide)) (hI.nl 2 (by decide)) hne hrw hrn).mono (fun e w' ⟨he, v, v', hk, hb, ho, ho', hf⟩ => ⟨he, secX_of ({ prJ bs 0 with rams := (busR (pOf bs 0) ⟨(entN bs 0).f, -1⟩).1.rams, devs := (busR (pOf bs 0) ⟨(entN bs 0).f, -1⟩).1.devs }, (busR (pOf bs 0) ⟨(entN bs 0).f, -1⟩).2) rfl hk hb (by rw [List.length_set, List.length_set]; exact hI.len) ?_ ?_ hf⟩)
 ·have hl := hI.len;obtain ⟨i0, ⟨v1, a1, b1⟩, ⟨v2, a2, b2⟩, ⟨v3, a3, b3⟩, ⟨v4, a4, b4⟩, ⟨v5, a5, b5⟩, ⟨v6, a6, b6⟩, ⟨v7, a7, b7⟩, ⟨v8, a8, b8⟩, h9, h10, ⟨v11, a11, b11⟩⟩ := hI.dt.kg hf hT;exact ⟨get_ne (by decide) (get_ne (by decide) (i0)), ⟨v, get_ne (by decide) (get_eq (by omega)), ho.low hZ⟩, ⟨v', get_eq (by rw [List.length_set]; omega), ho'.low hZ⟩, ⟨v3, get_ne (by decide) (get_ne (by decide) (a3)), b3⟩, ⟨v4, get_ne (by decide) (get_ne (by decide) (a4)), b4⟩, ⟨v5, get_ne (by decide) (get_ne (by decide) (a5)), b5⟩, ⟨v6, get_ne (by decide) (get_ne (by decide) (a6)), b6⟩, ⟨v7, get_ne (by decide) (get_ne (by decide) (a7)), b7⟩, ⟨v8, get_ne (by decide) (get_ne (by decide) (a8)), b8⟩, get_ne (by decide) (get_ne (by decide) (h9)), get_ne (by decide) (get_ne (by decide) (h10)), ⟨v11, get_ne (by decide) (get_ne (by decide) (a11)), b11⟩⟩
 ·intro i hi;rw [List.getElem?_set_ne ((by decide : ∀ i ∈ nilL 1, 2 ≠ i) i hi), List.getElem?_set_ne ((by decide : ∀ i ∈ nilL 1, 1 ≠ i) i hi)];exact hI.nl i ((by decide : ∀ i ∈ nilL 1, i ∈ nilL 0) i hi)
theorem sec1S (h : Rk rb raw (pOf bs 1) w ⟨(entN bs 1).f, -1⟩ w) (hI : ImS bs Z ib 1 im w) (hne : ib ≠ rb) (hrw : ∀ k, raw.ownBlock = some k → k < w.heap.size) (hrn : raw.ownBlock ≠ some ib) (hZ : Z ≤ w.heap.size) : Calls Tryz.prog 71 #[.pointer (some ⟨rb, 0, none⟩), .pointer (some ⟨ib, 0, none⟩)] w fun e w' => e = .returned (.tuple #[]) ∧ SecX bs Z rb ib raw w 1 w' := by
 have hT := two_tags (rb := rb) (ib := ib) (w := w) ⟨_, h.blk⟩ ⟨_, hI.blk⟩;refine (dsubjectsQ h hI.blk hI.len (hI.nl 3 (by decide)) hne hrw hrn).mono (fun e w' ⟨he, v, hr⟩ => ⟨he, secX_of ({ prJ bs 1 with subs := (listR (tenR (pOf bs 1)) (manyR (pOf bs 1) ⟨(entN bs 1).f, -1⟩).1 (manyR (pOf bs 1) ⟨(entN bs 1).f, -1⟩).2).1 }, (listR (tenR (pOf bs 1)) (manyR (pOf bs 1) ⟨(entN bs 1).f, -1⟩).1 (manyR (pOf bs 1) ⟨(entN bs 1).f, -1⟩).2).2) rfl hr.rk hr.box (by rw [List.length_set]; exact hI.len) ?_ ?_ hr.fr⟩)
 ·have hl := hI.len;obtain ⟨i0, ⟨v1, a1, b1⟩, ⟨v2, a2, b2⟩, ⟨v3, a3, b3⟩, ⟨v4, a4, b4⟩, ⟨v5, a5, b5⟩, ⟨v6, a6, b6⟩, ⟨v7, a7, b7⟩, ⟨v8, a8, b8⟩, h9, h10, ⟨v11, a11, b11⟩⟩ := hI.dt.kg hr.fr hT;exact ⟨get_ne (by decide) (i0), ⟨v1, get_ne (by decide) (a1), b1⟩, ⟨v2, get_ne (by decide) (a2), b2⟩, ⟨v, get_eq (by omega), hr.row.low hZ⟩, ⟨v4, get_ne (by decide) (a4), b4⟩, ⟨v5, get_ne (by decide) (a5), b5⟩, ⟨v6, get_ne (by decide) (a6), b6⟩, ⟨v7, get_ne (by decide) (a7), b7⟩, ⟨v8, get_ne (by decide) (a8), b8⟩, get_ne (by decide) (h9), get_ne (by decide) (h10), ⟨v11, get_ne (by decide) (a11), b11⟩⟩
 ·intro i hi;rw [List.getElem?_set_ne ((by decide : ∀ i ∈ nilL 2, 3 ≠ i) i hi)];exact hI.nl i ((by decide : ∀ i ∈ nilL 2, i ∈ nilL 1) i hi)
theorem sec2S (h : Rk rb raw (pOf bs 2) w ⟨(entN bs 2).f, -1⟩ w) (hI : ImS bs Z ib 2 im w) (hne : ib ≠ rb) (hrw : ∀ k, raw.ownBlock = some k → k < w.heap.size) (hrn : raw.ownBlock ≠ some ib) (hZ : Z ≤ w.heap.size) : Calls Tryz.prog 72 #[.pointer (some ⟨rb, 0, none⟩), .pointer (some ⟨ib, 0, none⟩)] w fun e w' => e = .returned (.tuple #[]) ∧ SecX bs Z rb ib raw w 2 w' := by
 have hT := two_tags (rb := rb) (ib := ib) (w := w) ⟨_, h.blk⟩ ⟨_, hI.blk⟩;obtain ⟨_, e2, o2⟩ := hI.dt.devs;obtain ⟨da, dc, rfl, _⟩ := o2.form;refine (dportsQ h hI.blk hI.len (hI.nl 4 (by decide)) e2 hne hrw hrn).mono (fun e w' ⟨he, v, hr⟩ => ⟨he, secX_of ({ prJ bs 2 with ports := (portsR (pOf bs 2) (prJ bs 2).devs.length ⟨(entN bs 2).f, -1⟩).1 }, (portsR (pOf bs 2) (prJ bs 2).devs.length ⟨(entN bs 2).f, -1⟩).2) rfl hr.rk hr.box (by rw [List.length_set]; exact hI.len) ?_ ?_ hr.fr⟩)
 ·have hl := hI.len;obtain ⟨i0, ⟨v1, a1, b1⟩, ⟨v2, a2, b2⟩, ⟨v3, a3, b3⟩, ⟨v4, a4, b4⟩, ⟨v5, a5, b5⟩, ⟨v6, a6, b6⟩, ⟨v7, a7, b7⟩, ⟨v8, a8, b8⟩, h9, h10, ⟨v11, a11, b11⟩⟩ := hI.dt.kg hr.fr hT;exact ⟨get_ne (by decide) (i0), ⟨v1, get_ne (by decide) (a1), b1⟩, ⟨v2, get_ne (by decide) (a2), b2⟩, ⟨v3, get_ne (by decide) (a3), b3⟩, ⟨v, get_eq (by omega), hr.row.low hZ⟩, ⟨v5, get_ne (by decide) (a5), b5⟩, ⟨v6, get_ne (by decide) (a6), b6⟩, ⟨v7, get_ne (by decide) (a7), b7⟩, ⟨v8, get_ne (by decide) (a8), b8⟩, get_ne (by decide) (h9), get_ne (by decide) (h10), ⟨v11, get_ne (by decide) (a11), b11⟩⟩
 ·intro i hi;rw [List.getElem?_set_ne ((by decide : ∀ i ∈ nilL 3, 4 ≠ i) i hi)];exact hI.nl i ((by decide : ∀ i ∈ nilL 3, i ∈ nilL 2) i hi)
theorem sec3S (h : Rk rb raw (pOf bs 3) w ⟨(entN bs 3).f, -1⟩ w) (hI : ImS bs Z ib 3 im w) (hne : ib ≠ rb) (hrw : ∀ k, raw.ownBlock = some k → k < w.heap.size) (hrn : raw.ownBlock ≠ some ib) (hZ : Z ≤ w.heap.size) : Calls Tryz.prog 73 #[.pointer (some ⟨rb, 0, none⟩), .pointer (some ⟨ib, 0, none⟩)] w fun e w' => e = .returned (.tuple #[]) ∧ SecX bs Z rb ib raw w 3 w' := by
 have hT := two_tags (rb := rb) (ib := ib) (w := w) ⟨_, h.blk⟩ ⟨_, hI.blk⟩;refine (dregionsQ h hI.blk hI.len (hI.nl 5 (by decide)) hne hrw hrn).mono (fun e w' ⟨he, v, hr⟩ => ⟨he, secX_of ({ prJ bs 3 with regs := (listR (gdR (pOf bs 3)) (manyR (pOf bs 3) ⟨(entN bs 3).f, -1⟩).1 (manyR (pOf bs 3) ⟨(entN bs 3).f, -1⟩).2).1 }, (listR (gdR (pOf bs 3)) (manyR (pOf bs 3) ⟨(entN bs 3).f, -1⟩).1 (manyR (pOf bs 3) ⟨(entN bs 3).f, -1⟩).2).2) rfl hr.rk hr.box (by rw [List.length_set]; exact hI.len) ?_ ?_ hr.fr⟩)
 ·have hl := hI.len;obtain ⟨i0, ⟨v1, a1, b1⟩, ⟨v2, a2, b2⟩, ⟨v3, a3, b3⟩, ⟨v4, a4, b4⟩, ⟨v5, a5, b5⟩, ⟨v6, a6, b6⟩, ⟨v7, a7, b7⟩, ⟨v8, a8, b8⟩, h9, h10, ⟨v11, a11, b11⟩⟩ := hI.dt.kg hr.fr hT;exact ⟨get_ne (by decide) (i0), ⟨v1, get_ne (by decide) (a1), b1⟩, ⟨v2, get_ne (by decide) (a2), b2⟩, ⟨v3, get_ne (by decide) (a3), b3⟩, ⟨v4, get_ne (by decide) (a4), b4⟩, ⟨v, get_eq (by omega), hr.row.low hZ⟩, ⟨v6, get_ne (by decide) (a6), b6⟩, ⟨v7, get_ne (by decide) (a7), b7⟩, ⟨v8, get_ne (by decide) (a8), b8⟩, get_ne (by decide) (h9), get_ne (by decide) (h10), ⟨v11, get_ne (by decide) (a11), b11⟩⟩
 ·intro i hi;rw [List.getElem?_set_ne ((by decide : ∀ i ∈ nilL 4, 5 ≠ i) i hi)];exact hI.nl i ((by decide : ∀ i ∈ nilL 4, i ∈ nilL 3) i hi)
theorem sec4S (h : Rk rb raw (pOf bs 4) w ⟨(entN bs 4).f, -1⟩ w) (hI : ImS bs Z ib 4 im w) (hne : ib ≠ rb) (hrw : ∀ k, raw.ownBlock = some k → k < w.heap.size) (hrn : raw.ownBlock ≠ some ib) (hZ : Z ≤ w.heap.size) : Calls Tryz.prog 74 #[.pointer (some ⟨rb, 0, none⟩), .pointer (some ⟨ib, 0, none⟩)] w fun e w' => e = .returned (.tuple #[]) ∧ SecX bs Z rb ib raw w 4 w' := by
 have hT := two_tags (rb := rb) (ib := ib) (w := w) ⟨_, h.blk⟩ ⟨_, hI.blk⟩;refine (dchannelsQ h hI.blk hI.len (hI.nl 6 (by decide)) hne hrw hrn).mono (fun e w' ⟨he, v, hr⟩ => ⟨he, secX_of ({ prJ bs 4 with chs := (listR (chR (pOf bs 4)) (manyR (pOf bs 4) ⟨(entN bs 4).f, -1⟩).1 (manyR (pOf bs 4) ⟨(entN bs 4).f, -1⟩).2).1 }, (listR (chR (pOf bs 4)) (manyR (pOf bs 4) ⟨(entN bs 4).f, -1⟩).1 (manyR (pOf bs 4) ⟨(entN bs 4).f, -1⟩).2).2) rfl hr.rk hr.box (by rw [List.length_set]; exact hI.len) ?_ ?_ hr.fr⟩)
 ·have hl := hI.len;obtain ⟨i0, ⟨v1, a1, b1⟩, ⟨v2, a2, b2⟩, ⟨v3, a3, b3⟩, ⟨v4, a4, b4⟩, ⟨v5, a5, b5⟩, ⟨v6, a6, b6⟩, ⟨v7, a7, b7⟩, ⟨v8, a8, b8⟩, h9, h10, ⟨v11, a11, b11⟩⟩ := hI.dt.kg hr.fr hT;exact ⟨get_ne (by decide) (i0), ⟨v1, get_ne (by decide) (a1), b1⟩, ⟨v2, get_ne (by decide) (a2), b2⟩, ⟨v3, get_ne (by decide) (a3), b3⟩, ⟨v4, get_ne (by decide) (a4), b4⟩, ⟨v5, get_ne (by decide) (a5), b5⟩, ⟨v, get_eq (by omega), hr.row.low hZ⟩, ⟨v7, get_ne (by decide) (a7), b7⟩, ⟨v8, get_ne (by decide) (a8), b8⟩, get_ne (by decide) (h9), get_ne (by decide) (h10), ⟨v11, get_ne (by decide) (a11), b11⟩⟩
 ·intro i hi;rw [List.getElem?_set_ne ((by decide : ∀ i ∈ nilL 5, 6 ≠ i) i hi)];exact hI.nl i ((by decide : ∀ i ∈ nilL 5, i ∈ nilL 4) i hi)
theorem sec5S (h : Rk rb raw (pOf bs 5) w ⟨(entN bs 5).f, -1⟩ w) (hI : ImS bs Z ib 5 im w) (hne : ib ≠ rb) (hrw : ∀ k, raw.ownBlock = some k → k < w.heap.size) (hrn : raw.ownBlock ≠ some ib) (hZ : Z ≤ w.heap.size) : Calls Tryz.prog 75 #[.pointer (some ⟨rb, 0, none⟩), .pointer (some ⟨ib, 0, none⟩)] w fun e w' => e = .returned (.tuple #[]) ∧ SecX bs Z rb ib raw w 5 w' := by
 have hT := two_tags (rb := rb) (ib := ib) (w := w) ⟨_, h.blk⟩ ⟨_, hI.blk⟩;refine (dirqsQ h hI.blk hI.len (hI.nl 7 (by decide)) hne hrw hrn).mono (fun e w' ⟨he, v, hr⟩ => ⟨he, secX_of ({ prJ bs 5 with irqs := (listR (iqR (pOf bs 5)) (manyR (pOf bs 5) ⟨(entN bs 5).f, -1⟩).1 (manyR (pOf bs 5) ⟨(entN bs 5).f, -1⟩).2).1 }, (listR (iqR (pOf bs 5)) (manyR (pOf bs 5) ⟨(entN bs 5).f, -1⟩).1 (manyR (pOf bs 5) ⟨(entN bs 5).f, -1⟩).2).2) rfl hr.rk hr.box (by rw [List.length_set]; exact hI.len) ?_ ?_ hr.fr⟩)
 ·have hl := hI.len;obtain ⟨i0, ⟨v1, a1, b1⟩, ⟨v2, a2, b2⟩, ⟨v3, a3, b3⟩, ⟨v4, a4, b4⟩, ⟨v5, a5, b5⟩, ⟨v6, a6, b6⟩, ⟨v7, a7, b7⟩, ⟨v8, a8, b8⟩, h9, h10, ⟨v11, a11, b11⟩⟩ := hI.dt.kg hr.fr hT;exact ⟨get_ne (by decide) (i0), ⟨v1, get_ne (by decide) (a1), b1⟩, ⟨v2, get_ne (by decide) (a2), b2⟩, ⟨v3, get_ne (by decide) (a3), b3⟩, ⟨v4, get_ne (by decide) (a4), b4⟩, ⟨v5, get_ne (by decide) (a5), b5⟩, ⟨v6, get_ne (by decide) (a6), b6⟩, ⟨v, get_eq (by omega), hr.row.low hZ⟩, ⟨v8, get_ne (by decide) (a8), b8⟩, get_ne (by decide) (h9), get_ne (by decide) (h10), ⟨v11, get_ne (by decide) (a11), b11⟩⟩
 ·intro i hi;rw [List.getElem?_set_ne ((by decide : ∀ i ∈ nilL 6, 7 ≠ i) i hi)];exact hI.nl i ((by decide : ∀ i ∈ nilL 6, i ∈ nilL 5) i hi)
theorem sec6S (h : Rk rb raw (pOf bs 6) w ⟨(entN bs 6).f, -1⟩ w) (hI : ImS bs Z ib 6 im w) (hne : ib ≠ rb) (hrw : ∀ k, raw.ownBlock = some k → k < w.heap.size) (hrn : raw.ownBlock ≠ some ib) (hZ : Z ≤ w.heap.size) : Calls Tryz.prog 76 #[.pointer (some ⟨rb, 0, none⟩), .pointer (some ⟨ib, 0, none⟩)] w fun e w' => e = .returned (.tuple #[]) ∧ SecX bs Z rb ib raw w 6 w' := by
 have hT := two_tags (rb := rb) (ib := ib) (w := w) ⟨_, h.blk⟩ ⟨_, hI.blk⟩;refine (dplansQ h hI.blk hI.len (hI.nl 8 (by decide)) ⟨_, hI.dt.master⟩ ⟨_, hI.dt.start⟩ hne hrw hrn).mono (fun e w' ⟨he, v, us, hr, ht⟩ => ⟨he, secX_of ({ prJ bs 6 with plans := (plansR (pOf bs 6) ⟨(entN bs 6).f, -1⟩).1.plans, master := (plansR (pOf bs 6) ⟨(entN bs 6).f, -1⟩).1.master, start := ((plansR (pOf bs 6) ⟨(entN bs 6).f, -1⟩).1.start : Int) }, (plansR (pOf bs 6) ⟨(entN bs 6).f, -1⟩).2) rfl hr.rk hr.box (by rw [List.length_set, List.length_set, List.length_set]; exact hI.len) ?_ ?_ hr.fr⟩)
 ·have hl := hI.len;obtain ⟨i0, ⟨v1, a1, b1⟩, ⟨v2, a2, b2⟩, ⟨v3, a3, b3⟩, ⟨v4, a4, b4⟩, ⟨v5, a5, b5⟩, ⟨v6, a6, b6⟩, ⟨v7, a7, b7⟩, ⟨v8, a8, b8⟩, h9, h10, ⟨v11, a11, b11⟩⟩ := hI.dt.kg hr.fr hT;generalize plansR (pOf bs 6) ⟨(entN bs 6).f, -1⟩ = X at hr ht ⊢;exact ⟨get_ne (by decide) (get_ne (by decide) (get_ne (by decide) (i0))), ⟨v1, get_ne (by decide) (get_ne (by decide) (get_ne (by decide) (a1))), b1⟩, ⟨v2, get_ne (by decide) (get_ne (by decide) (get_ne (by decide) (a2))), b2⟩, ⟨v3, get_ne (by decide) (get_ne (by decide) (get_ne (by decide) (a3))), b3⟩, ⟨v4, get_ne (by decide) (get_ne (by decide) (get_ne (by decide) (a4))), b4⟩, ⟨v5, get_ne (by decide) (get_ne (by decide) (get_ne (by decide) (a5))), b5⟩, ⟨v6, get_ne (by decide) (get_ne (by decide) (get_ne (by decide) (a6))), b6⟩, ⟨v7, get_ne (by decide) (get_ne (by decide) (get_ne (by decide) (a7))), b7⟩, ⟨v, get_eq (by rw [List.length_set, List.length_set]; omega), us, hr.row.low hZ, ht.imp (fun x y h => ⟨h.1, LaO.low h.2 hZ⟩)⟩, get_ne (by decide) (get_ne (by decide) (get_eq (by omega))), get_ne (by decide) (get_eq (by rw [List.length_set]; omega)), ⟨v11, get_ne (by decide) (get_ne (by decide) (get_ne (by decide) (a11))), b11⟩⟩
 ·intro i hi;rw [List.getElem?_set_ne ((by decide : ∀ i ∈ nilL 7, 8 ≠ i) i hi), List.getElem?_set_ne ((by decide : ∀ i ∈ nilL 7, 10 ≠ i) i hi), List.getElem?_set_ne ((by decide : ∀ i ∈ nilL 7, 9 ≠ i) i hi)];exact hI.nl i ((by decide : ∀ i ∈ nilL 7, i ∈ nilL 6) i hi)
theorem sec7S (h : Rk rb raw (pOf bs 7) w ⟨(entN bs 7).f, -1⟩ w) (hI : ImS bs Z ib 7 im w) (hne : ib ≠ rb) (hrw : ∀ k, raw.ownBlock = some k → k < w.heap.size) (hrn : raw.ownBlock ≠ some ib) (hZ : Z ≤ w.heap.size) (hcap : (pOf bs 7).en ≤ 17179869184) : Calls Tryz.prog 77 #[.pointer (some ⟨rb, 0, none⟩), .pointer (some ⟨ib, 0, none⟩)] w fun e w' => e = .returned (.tuple #[]) ∧ SecX bs Z rb ib raw w 7 w' := by
 have hT := two_tags (rb := rb) (ib := ib) (w := w) ⟨_, h.blk⟩ ⟨_, hI.blk⟩;refine (dtablesQ h (show (-1 : Int) < 0 by decide) hI.blk hI.len (hI.nl 11 (by decide)) hne hrw hrn hcap).mono (fun e w' ⟨he, v, hr⟩ => ⟨he, secX_of ({ prJ bs 7 with tabs := (tabsR (pOf bs 7) ⟨(entN bs 7).f, -1⟩).1 }, (tabsR (pOf bs 7) ⟨(entN bs 7).f, -1⟩).2) rfl hr.rk hr.box (by rw [List.length_set]; exact hI.len) ?_ ?_ hr.fr⟩)
 ·have hl := hI.len;obtain ⟨i0, ⟨v1, a1, b1⟩, ⟨v2, a2, b2⟩, ⟨v3, a3, b3⟩, ⟨v4, a4, b4⟩, ⟨v5, a5, b5⟩, ⟨v6, a6, b6⟩, ⟨v7, a7, b7⟩, ⟨v8, a8, b8⟩, h9, h10, ⟨v11, a11, b11⟩⟩ := hI.dt.kg hr.fr hT;generalize tabsR (pOf bs 7) ⟨(entN bs 7).f, -1⟩ = X at hr ⊢;exact ⟨get_ne (by decide) (i0), ⟨v1, get_ne (by decide) (a1), b1⟩, ⟨v2, get_ne (by decide) (a2), b2⟩, ⟨v3, get_ne (by decide) (a3), b3⟩, ⟨v4, get_ne (by decide) (a4), b4⟩, ⟨v5, get_ne (by decide) (a5), b5⟩, ⟨v6, get_ne (by decide) (a6), b6⟩, ⟨v7, get_ne (by decide) (a7), b7⟩, ⟨v8, get_ne (by decide) (a8), b8⟩, get_ne (by decide) (h9), get_ne (by decide) (h10), ⟨v, get_eq (by omega), hr.row.low hZ⟩⟩
 ·intro i hi;rw [List.getElem?_set_ne ((by decide : ∀ i ∈ nilL 8, 11 ≠ i) i hi)];exact hI.nl i ((by decide : ∀ i ∈ nilL 8, i ∈ nilL 7) i hi)
end
end Go.Proofs.YtmfkggngjeolcaaGreatDoor
