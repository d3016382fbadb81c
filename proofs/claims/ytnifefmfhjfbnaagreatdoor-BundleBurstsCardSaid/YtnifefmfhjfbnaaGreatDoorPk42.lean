import Derived.Test.YtnifefmfhjfbnaaGreatDoorPk40
import Derived.Test.YtnifefmfhjfbnaaGreatDoorPk41
/- Bundle: all parts are read, one behind the other (written by parts/gen_dcall.py). Own work. -/
namespace Go.Proofs.YtnifefmfhjfbnaaGreatDoor
open Go.RowKit Bn Dc
set_option linter.unusedVariables false
set_option linter.unusedSimpArgs false
namespace Dc
def prA (bs : List Nat) (k : Nat) : A := partsA (hd0 bs).E bs k (headA bs)
theorem pr_zero {bs : List Nat} : ∀ {k : Nat}, (prA bs k).why = 0 → (headA bs).why = 0
 | 0, h => h
 | k + 1, h => by
  by_cases e : (prA bs k).why = 0
  ·exact pr_zero e
  ·rw [show prA bs (k + 1) = prA bs k from partsA_stop (k := k) e (k + 1) (by omega)] at h
   exact absurd h e
theorem end_zero {q : Pt} {s : D} (h : (endD q s).why = 0) : s.why = 0 ∧ s.rw = 0 ∧ s.pos = q.Z.length := by
 obtain ⟨h1, h2⟩ := ask_zero' (by decide) h
 exact ⟨h2, of_decide_eq_true h1⟩
theorem head_ok {bs : List Nat} (h : (headA bs).why = 0) : bs.length ≤ 4194304 ∧ ∀ j, 1 ≤ j → j ≤ 8 → okD (hd0 bs).E bs.length j = true := by
 have h1 := seal_zero 8 (end_zero h).1
 obtain ⟨h2, h3⟩ := dirS_ok 8 h1
 have h4 := asks_zero h2
 exact ⟨by omega, h3⟩
theorem dec_at {bs : List Nat} (h : 160 ≤ bs.length) {k : Nat} (hk : k ≤ 8) (hy : (prA bs k).why ≠ 0) : decA bs = prA bs k := by
 rw [decA, if_neg (by omega)]
 exact partsA_stop hy 8 hk
theorem dec_all {bs : List Nat} (h : 160 ≤ bs.length) : decA bs = prA bs 8 := by rw [decA, if_neg (by omega)]; rfl
theorem pr_next {bs : List Nat} {k : Nat} (h : (prA bs k).why = 0) : prA bs (k + 1) = ⟨(secD (k + 1) (qOf (hd0 bs).E bs (k + 1)) (prA bs k).J (startD (prA bs k))).1, (endD (qOf (hd0 bs).E bs (k + 1)) (secD (k + 1) (qOf (hd0 bs).E bs (k + 1)) (prA bs k).J (startD (prA bs k))).2).why, (endD (qOf (hd0 bs).E bs (k + 1)) (secD (k + 1) (qOf (hd0 bs).E bs (k + 1)) (prA bs k).J (startD (prA bs k))).2).sec, (endD (qOf (hd0 bs).E bs (k + 1)) (secD (k + 1) (qOf (hd0 bs).E bs (k + 1)) (prA bs k).J (startD (prA bs k))).2).ad⟩ := by
 show partA (hd0 bs).E bs (k + 1) (prA bs k) = _
 rw [partA, if_neg (fun e => e h)]
end Dc
def funR (kb : Nat) : Array Value := #[Value.func (.func 46) #[.pointer (some ⟨kb, 0, none⟩)] #[], Value.func (.func 47) #[.pointer (some ⟨kb, 0, none⟩)] #[], Value.func (.func 48) #[.pointer (some ⟨kb, 0, none⟩)] #[], Value.func (.func 49) #[.pointer (some ⟨kb, 0, none⟩)] #[], Value.func (.func 50) #[.pointer (some ⟨kb, 0, none⟩)] #[], Value.func (.func 51) #[.pointer (some ⟨kb, 0, none⟩)] #[], Value.func (.func 52) #[.pointer (some ⟨kb, 0, none⟩)] #[], Value.func (.func 53) #[.pointer (some ⟨kb, 0, none⟩)] #[], Value.func (.func 54) #[.pointer (some ⟨kb, 0, none⟩)] #[]]
theorem info_r (kb : Nat) : (Tryz.prog.info? 93).map (·.size) = some (funR kb).size := by kernel_rfl
theorem funR_one (kb : Nat) : (funR kb).all (·.oneCell') = true := by kernel_rfl
def nilR : Array Value := #[.nilFunc, .nilFunc, .nilFunc, .nilFunc, .nilFunc, .nilFunc, .nilFunc, .nilFunc, .nilFunc]
theorem funR_at0 (kb : Nat) (W : World) : (Instr.index 93 (.agg (funR kb)) (.int .i64 0)).run Tryz.prog W = .ok (.func (.func 46) #[.pointer (some ⟨kb, 0, none⟩)] #[]) W := by
 have hu := Tryz.underlying93
 have hz : (Tryz.prog.info? 1).map (·.size) = some 1 := by kernel_rfl
 have hb := Tryz.underlying1
 obtain ⟨i, hi1, hi2⟩ := Option.map_eq_some_iff.1 hz
 simp [Instr.index, run_underlying hu, asIntOf, sizeOf, typeInfo, hi1, hi2, part, isAgg, run_underlying hb, funR, go_sem]
theorem funR_at1 (kb : Nat) (W : World) : (Instr.index 93 (.agg (funR kb)) (.int .i64 1)).run Tryz.prog W = .ok (.func (.func 47) #[.pointer (some ⟨kb, 0, none⟩)] #[]) W := by
 have hu := Tryz.underlying93
 have hz : (Tryz.prog.info? 1).map (·.size) = some 1 := by kernel_rfl
 have hb := Tryz.underlying1
 obtain ⟨i, hi1, hi2⟩ := Option.map_eq_some_iff.1 hz
 simp [Instr.index, run_underlying hu, asIntOf, sizeOf, typeInfo, hi1, hi2, part, isAgg, run_underlying hb, funR, go_sem]
theorem funR_at2 (kb : Nat) (W : World) : (Instr.index 93 (.agg (funR kb)) (.int .i64 2)).run Tryz.prog W = .ok (.func (.func 48) #[.pointer (some ⟨kb, 0, none⟩)] #[]) W := by
 have hu := Tryz.underlying93
 have hz : (Tryz.prog.info? 1).map (·.size) = some 1 := by kernel_rfl
 have hb := Tryz.underlying1
 obtain ⟨i, hi1, hi2⟩ := Option.map_eq_some_iff.1 hz
 simp [Instr.index, run_underlying hu, asIntOf, sizeOf, typeInfo, hi1, hi2, part, isAgg, run_underlying hb, funR, go_sem]
theorem funR_at3 (kb : Nat) (W : World) : (Instr.index 93 (.agg (funR kb)) (.int .i64 3)).run Tryz.prog W = .ok (.func (.func 49) #[.pointer (some ⟨kb, 0, none⟩)] #[]) W := by
 have hu := Tryz.underlying93
 have hz : (Tryz.prog.info? 1).map (·.size) = some 1 := by kernel_rfl
 have hb := Tryz.underlying1
 obtain ⟨i, hi1, hi2⟩ := Option.map_eq_some_iff.1 hz
 simp [Instr.index, run_underlying hu, asIntOf, sizeOf, typeInfo, hi1, hi2, part, isAgg, run_underlying hb, funR, go_sem]
theorem funR_at4 (kb : Nat) (W : World) : (Instr.index 93 (.agg (funR kb)) (.int .i64 4)).run Tryz.prog W = .ok (.func (.func 50) #[.pointer (some ⟨kb, 0, none⟩)] #[]) W := by
 have hu := Tryz.underlying93
 have hz : (Tryz.prog.info? 1).map (·.size) = some 1 := by kernel_rfl
 have hb := Tryz.underlying1
 obtain ⟨i, hi1, hi2⟩ := Option.map_eq_some_iff.1 hz
 simp [Instr.index, run_underlying hu, asIntOf, sizeOf, typeInfo, hi1, hi2, part, isAgg, run_underlying hb, funR, go_sem]
theorem funR_at5 (kb : Nat) (W : World) : (Instr.index 93 (.agg (funR kb)) (.int .i64 5)).run Tryz.prog W = .ok (.func (.func 51) #[.pointer (some ⟨kb, 0, none⟩)] #[]) W := by
 have hu := Tryz.underlying93
 have hz : (Tryz.prog.info? 1).map (·.size) = some 1 := by kernel_rfl
 have hb := Tryz.underlying1
 obtain ⟨i, hi1, hi2⟩ := Option.map_eq_some_iff.1 hz
 simp [Instr.index, run_underlying hu, asIntOf, sizeOf, typeInfo, hi1, hi2, part, isAgg, run_underlying hb, funR, go_sem]
theorem funR_at6 (kb : Nat) (W : World) : (Instr.index 93 (.agg (funR kb)) (.int .i64 6)).run Tryz.prog W = .ok (.func (.func 52) #[.pointer (some ⟨kb, 0, none⟩)] #[]) W := by
 have hu := Tryz.underlying93
 have hz : (Tryz.prog.info? 1).map (·.size) = some 1 := by kernel_rfl
 have hb := Tryz.underlying1
 obtain ⟨i, hi1, hi2⟩ := Option.map_eq_some_iff.1 hz
 simp [Instr.index, run_underlying hu, asIntOf, sizeOf, typeInfo, hi1, hi2, part, isAgg, run_underlying hb, funR, go_sem]
theorem funR_at7 (kb : Nat) (W : World) : (Instr.index 93 (.agg (funR kb)) (.int .i64 7)).run Tryz.prog W = .ok (.func (.func 53) #[.pointer (some ⟨kb, 0, none⟩)] #[]) W := by
 have hu := Tryz.underlying93
 have hz : (Tryz.prog.info? 1).map (·.size) = some 1 := by kernel_rfl
 have hb := Tryz.underlying1
 obtain ⟨i, hi1, hi2⟩ := Option.map_eq_some_iff.1 hz
 simp [Instr.index, run_underlying hu, asIntOf, sizeOf, typeInfo, hi1, hi2, part, isAgg, run_underlying hb, funR, go_sem]
theorem funR_at8 (kb : Nat) (W : World) : (Instr.index 93 (.agg (funR kb)) (.int .i64 8)).run Tryz.prog W = .ok (.func (.func 54) #[.pointer (some ⟨kb, 0, none⟩)] #[]) W := by
 have hu := Tryz.underlying93
 have hz : (Tryz.prog.info? 1).map (·.size) = some 1 := by kernel_rfl
 have hb := Tryz.underlying1
 obtain ⟨i, hi1, hi2⟩ := Option.map_eq_some_iff.1 hz
 simp [Instr.index, run_underlying hu, asIntOf, sizeOf, typeInfo, hi1, hi2, part, isAgg, run_underlying hb, funR, go_sem]
/-- where the loop over the parts stands -/
def AtI (B kb : Nat) (raw : Value) (bs : List Nat) (w0 : World) (i : Nat) (wr : World) : Prop :=
 (i = 0 ∧ Dn B kb raw im0 (en0.set 3 (.int .i64 160)) 0 (.pointer none) w0 0 0 0 wr) ∨ (1 ≤ i ∧ (prA bs (i - 1)).why = 0 ∧ ∃ im en pt pv, EnR en (hd0 bs).E ∧ ImD wr im (prA bs (i - 1)).J ∧ Dn B kb raw im en pt pv w0 0 (prA bs (i - 1)).sec (prA bs (i - 1)).ad wr)
/-- what all leaves -/
def AllQ (B kb : Nat) (raw : Value) (bs : List Nat) (w0 : World) (w' : World) : Prop := ∃ im en pt pv, Dn B kb raw im en pt pv w0 (decA bs).why (decA bs).sec (decA bs).ad w' ∧ ((decA bs).why = 0 → ImD w' im (decA bs).J)
section
variable {B kb : Nat} {raw : Value} {im en : List Value} {pt : Int} {pv : Value} {q : Pt} {p g : Nat} {w0 : World} {s : D} {w w' : World} {why sec ad : Int}
theorem atI_next {bs : List Nat} {k : Nat} {J : Im} {im : List Value} (hk : prA bs k = ⟨J, why, sec, ad⟩) (hy : why = 0) (hE : EnR en (hd0 bs).E) (hI : ImD w im J) (hD : Dn B kb raw im en pt pv w0 why sec ad w) : AtI B kb raw bs w0 (k + 1) w := by
 subst hy
 refine Or.inr ⟨by omega, ?_, im, en, pt, pv, hE, ?_, ?_⟩
 ·show (prA bs k).why = 0
  rw [hk]
 ·show ImD w im (prA bs k).J
  rw [hk]
  exact hI
 ·show Dn B kb raw im en pt pv w0 0 (prA bs k).sec (prA bs k).ad w
  rw [hk]
  exact hD
theorem allQ_of {bs : List Nat} {k : Nat} {J : Im} {im : List Value} (h160 : 160 ≤ bs.length) (h8 : k ≤ 8) (hk : prA bs k = ⟨J, why, sec, ad⟩) (hy : why ≠ 0) (hD : Dn B kb raw im en pt pv w0 why sec ad w) : AllQ B kb raw bs w0 w := by
 have hd : decA bs = prA bs k := dec_at h160 h8 (by rw [hk]; exact hy)
 refine ⟨im, en, pt, pv, ?_, fun h => ?_⟩
 ·rw [hd, hk]
  exact hD
 ·rw [hd, hk] at h
  exact absurd h hy
theorem Dn.here (h : Dn B kb raw im en pt pv w0 why sec ad w) : Dn B kb raw im en pt pv w why sec ad w := ⟨h.blk, h.him, h.hen, h.hB, Fd.refl _ _⟩
theorem openR {bs : List Nat} {k f l : Nat} {c : Int} (h : Dn B kb raw im en pt pv w0 why sec ad w) (hraw : ∀ W, Fd B w0 W → Sl W raw bs) (hk : k ≤ 8) (he : EnAt en k f l c) (hfl : f + l ≤ bs.length) (hz : f + l ≤ 1099511627776) :
  Calls Tryz.prog 55 #[.pointer (some ⟨kb, 0, none⟩), .int .i64 (k : Int)] w fun e w' => e = .returned (.tuple #[]) ∧ ∃ p g, Dt B kb raw im en ⟨k, f, (bs.drop f).take l⟩ p g w0 ⟨0, 0, why, sec, ad⟩ w' ∧ Fd B w w' :=
 (openX h.here (fun W hW => hraw W (h.fr.trans hW)) hk he hfl hz).mono (fun e w' ⟨he, p, g, hd, _⟩ => ⟨he, p, g, hd.since h.fr, hd.fr⟩)
/-- a part's end is asked: the calls of the last region -/
theorem endX1 (h : Dt B kb raw im en q p g w0 s w) {bb : Bool} (hb : decide (s.rw = 0 ∧ s.pos = q.Z.length) = bb) : Calls Tryz.prog 57 #[.pointer (some ⟨p, 0, none⟩)] w fun e w' => ∃ r : Int, e = .returned (.int .i64 r) ∧ (r == 0) = bb ∧ Dt B kb raw im en q p g w0 s w' :=
 (rendX h).mono (fun e w' ⟨r, he, hr, hd⟩ => ⟨r, he, by
  rw [← hb]
  by_cases e : r = 0
  ·rw [decide_eq_true (hr.1 e), e]; rfl
  ·rw [decide_eq_false (fun h => e (hr.2 h))]; exact beq_eq_false_iff_ne.2 e, hd⟩)
theorem Dt.pos_le (h : Dt B kb raw im en q p g w0 s w) : s.pos ≤ 1099511627776 := by
 have h8 : s.pos ≤ q.Z.length := h.rd.2.2.2.1
 have := h.hlen
 omega
set_option maxRecDepth 100000 in
set_option maxHeartbeats 64000000 in
theorem dallX {bs : List Nat} {rb ro cap : Nat} (h : Dn B kb (.slice (some ⟨rb, ro, none⟩) bs.length cap) im0 en0 0 (.pointer none) w0 0 0 0 w) (hsz : 160 ≤ bs.length) (hraw : ∀ W, Fd B w0 W → Sl W (.slice (some ⟨rb, ro, none⟩) bs.length cap) bs) (ht : ∀ W, Fd B w0 W → Tab W) : Calls Tryz.prog 19 #[.pointer (some ⟨kb, 0, none⟩)] w fun e w' => e = .returned (.tuple #[]) ∧ AllQ B kb (.slice (some ⟨rb, ro, none⟩) bs.length cap) bs w0 w' := by
 have HRw := Lib.hid hraw
 have HTb := Lib.hid ht
 have HSz : Hid (160 ≤ bs.length) := hsz
 have hb1 : Below w.heap.size w ((w.alloc (.cells nilR 93)).setRow w.heap.size (funR kb)) := ((Below.refl _ _).alloc (Nat.le_refl _) _).trans (below_setRow _ _ _ _ (Nat.le_refl _))
 have HZ0 : Hid ((w.alloc (.cells nilR 93)).heap[w.heap.size]? = some (.cells nilR 93 (0, 0))) := heap_alloc_new w _
 have HZ1 : Hid (((w.alloc (.cells nilR 93)).setRow w.heap.size (funR kb)).heap[w.heap.size]? = some (.cells (funR kb) 93 (0, 0))) := setRow_heap _ _ _ _ _ _ HZ0.out
 have H1 : Hid (Dn B kb (.slice (some ⟨rb, ro, none⟩) bs.length cap) im0 en0 0 (.pointer none) w0 0 0 0 ((w.alloc (.cells nilR 93)).setRow w.heap.size (funR kb))) := h.below hb1
 have hne : kb ≠ w.heap.size := by have := h.lt; omega
 have HNe : Hid (kb ≠ w.heap.size) := hne
 clear h hraw ht hb1 hne
 obtain ⟨W1, hW1⟩ : ∃ W, (w.alloc (.cells nilR 93)).setRow w.heap.size (funR kb) = W := ⟨_, rfl⟩
 rw [hW1] at H1 HZ1
 go_enter Tryz.func19, Tryz.ntmps19
 go_upto_region 1 with (refine wpList_store_arr rfl 93 (.tmp 2) (.tmp 23) rfl (b := w.heap.size) (Z := nilR) (g := funR kb) rfl rfl rfl HZ0.out (info_r kb) rfl (funR_one kb) ?_)
 unfold nilR at hW1
 simp only [hW1]
 clear hW1 HZ0
 have c0 : W1.drew.cell? ⟨kb, 0, none⟩ = some (.slice (some ⟨rb, ro, none⟩) bs.length cap) := H1.out.drew.cell 0
 have c16 : W1.drew.cell? ⟨kb, 16, none⟩ = some (.int .i64 0) := H1.out.drew.cell 16
 have f16 : W1.drew.frozen? ⟨kb, 16, none⟩ = false := H1.out.drew.free 16
 have j1 : (160 : Int) ≤ (bs.length : Int) := by omega
 have j2 : min (160 : Int) (bs.length : Int) = 160 := by omega
 have H2 : Hid (Dn B kb (.slice (some ⟨rb, ro, none⟩) bs.length cap) im0 (en0.set 3 (.int .i64 160)) 0 (.pointer none) w0 0 0 0 (W1.drew.setCell ⟨kb, 16, none⟩ (.int .i64 160))) := Dn.set H1.out.drew (i := 16) rfl rfl rfl
 have HZ2 : Hid ((W1.drew.setCell ⟨kb, 16, none⟩ (.int .i64 160)).heap[w.heap.size]? = some (.cells (funR kb) 93 (0, 0))) := show _ = _ by
  have h9 := HZ1.out
  have hn := HNe.out
  have h8 : W1.drew.heap[w.heap.size]? = some (.cells (funR kb) 93 (0, 0)) := h9
  simp only [World.setCell, Array.getElem?_modify]
  rw [if_neg hn]
  exact h8
 clear H1 HZ1
 go_cut [] (fun wx => wx = W1.drew.setCell ⟨kb, 16, none⟩ (.int .i64 160))
 case first =>
  go_region
  all_goals
   go_wp2_with fail
   go_meet
   rfl
 case rest =>
  obtain rfl := hcut
  generalize W1.drew.setCell ⟨kb, 16, none⟩ (.int .i64 160) = W2 at *
  clear c0 c16 f16
  go_wp2_with (refine wpList_load_arr rfl 93 (.tmp 2) rfl (b := w.heap.size) (g := funR kb) rfl HZ2.out Tryz.underlying93 rfl (info_r kb) ?_)
  clear HZ2
  go_loopw [36] (fun iv wr => ∃ i : Nat, i ≤ 9 ∧ iv = .int .i64 (i : Int) ∧ Hid (AtI B kb (.slice (some ⟨rb, ro, none⟩) bs.length cap) bs w0 i wr)) (fun iv _ => 9 - (intOf iv).toNat)
  case atStart => exact ⟨0, by decide, rfl, .inl ⟨rfl, H2.out⟩⟩
  case round =>
   clear H2
   obtain ⟨i, hi, rfl, HI⟩ := hrel
   rcases (by omega : i = 9 ∨ i = 0 ∨ i = 1 ∨ i = 2 ∨ i = 3 ∨ i = 4 ∨ i = 5 ∨ i = 6 ∨ i = 7 ∨ i = 8) with rfl | rfl | rfl | rfl | rfl | rfl | rfl | rfl | rfl | rfl
   ·rcases HI.out with ⟨h, _⟩ | ⟨_, hy, im, en, pt, pv, hE, hI, hD⟩
    ·cases h
    have HF : Hid (AllQ B kb (.slice (some ⟨rb, ro, none⟩) bs.length cap) bs w0 wr) := Lib.hid (by
     refine ⟨im, en, pt, pv, ?_, ?_⟩
     ·rw [dec_all HSz.out, show (prA bs 8).why = 0 from hy]
      exact hD
     ·intro _
      rw [dec_all HSz.out]
      exact hI)
    clear HI hE hI hD
    go_wp2_with fail
    go_end0
    exact ⟨rfl, HF.out⟩
   ·-- part 0: header
    have hD : Dn B kb (.slice (some ⟨rb, ro, none⟩) bs.length cap) im0 (en0.set 3 (.int .i64 160)) 0 (.pointer none) w0 0 0 0 wr := by
     rcases HI.out with ⟨_, h⟩ | ⟨h, _⟩
     ·exact h
     ·cases h
    have HO := Lib.hid (openR hD HRw.out (k := 0) (f := 0) (l := 160) (c := 0) (by decide) ⟨rfl, rfl, rfl, rfl, rfl⟩ (by have := HSz.out; omega) (by decide))
    obtain ⟨sE, hsE⟩ : ∃ t, headS bs = t := ⟨_, rfl⟩
    obtain ⟨bA, hbA⟩ : ∃ t, (hd0 bs).x.base = t := ⟨_, rfl⟩
    obtain ⟨q, hq⟩ : ∃ t, hq bs = t := ⟨_, rfl⟩
    have HR : Hid (∀ W p g, Dt B kb (.slice (some ⟨rb, ro, none⟩) bs.length cap) im0 (en0.set 3 (.int .i64 160)) q p g w0 ⟨0, 0, 0, 0, 0⟩ W → Calls Tryz.prog 46 #[.pointer (some ⟨kb, 0, none⟩)] W fun e w' => e = .returned (.tuple #[]) ∧ ∃ en, EnR en (hd0 bs).E ∧ Dt B kb (.slice (some ⟨rb, ro, none⟩) bs.length cap) (im0.set 0 (.int .u64 (bA : Nat))) en q p g w0 sE w') := fun W p g hW => by
     rw [← hq] at hW
     have h9 := headerX hW rfl HSz.out HRw.out HTb.out
     rw [← hsE, ← hbA, ← hq]
     exact h9
    have HSec : Hid (∀ W im en p g s', Dt B kb (.slice (some ⟨rb, ro, none⟩) bs.length cap) im en q p g w0 s' W → True) := fun _ _ _ _ _ _ _ => trivial
    have HP : Hid (prA bs 0 = ⟨{ zeroI with base := bA }, (endD q sE).why, (endD q sE).sec, (endD q sE).ad⟩) := show _ = _ by
     rw [← hbA, ← hsE, ← hq]
     rfl
    have HJ : Hid (∀ W, ImD W (im0.set 0 (.int .u64 (bA : Nat))) { zeroI with base := bA }) := fun W => ImD.zero W bA
    have hx9 : ∀ W, (Instr.index 93 (.agg (funR kb)) (.int .i64 0)).run Tryz.prog W = .ok (.func (.func 46) #[.pointer (some ⟨kb, 0, none⟩)] #[]) W := funR_at0 kb
    rw [show (⟨0, 0, (bs.drop 0).take 160⟩ : Pt) = q from hq] at HO
    clear HI hD hsE hbA hq HSec
    go_wp2_with fail
    refine HO.out.mono ?_
    rintro e w1 ⟨rfl, p, g, h1, hf1⟩
    have HR1 := Lib.hid (HR.out _ _ _ h1)
    clear h1 hf1 HO HR
    go_wp2_with fail
    refine HR1.out.mono ?_
    rintro e w2 ⟨rfl, en, hE, h2⟩
    have HE := Lib.hid hE
    have HD := Lib.hid h2.drew
    clear hE HR1
    obtain ⟨bb, hbb⟩ : ∃ b, decide (sE.rw = 0 ∧ sE.pos = q.Z.length) = b := ⟨_, rfl⟩
    obtain ⟨ps, hps⟩ : ∃ b, sE.pos = b := ⟨_, rfl⟩
    have hpl := h2.pos_le
    rw [hps] at hpl
    have HpL : Hid (ps ≤ 1099511627776) := hpl
    obtain ⟨sF, hsF⟩ : ∃ t, endD q sE = t := ⟨_, rfl⟩
    have KE : Hid (∀ W, Dt B kb (.slice (some ⟨rb, ro, none⟩) bs.length cap) (im0.set 0 (.int .u64 (bA : Nat))) en q p g w2 sE W → Calls Tryz.prog 57 #[.pointer (some ⟨p, 0, none⟩)] W fun e w' => ∃ r : Int, e = .returned (.int .i64 r) ∧ (r == 0) = bb ∧ Dt B kb (.slice (some ⟨rb, ro, none⟩) bs.length cap) (im0.set 0 (.int .u64 (bA : Nat))) en q p g w2 sE w') := fun W hW => endX1 hW hbb
    have KA : Hid (∀ W, Dt B kb (.slice (some ⟨rb, ro, none⟩) bs.length cap) (im0.set 0 (.int .u64 (bA : Nat))) en q p g w2 sE W → Calls Tryz.prog 58 #[.pointer (some ⟨p, 0, none⟩)] W fun e w' => e = .returned (.int .i64 (ps : Int)) ∧ w' = W) := fun W hW => by rw [← hps]; exact rat_any hW.rd
    have KF : Hid (∀ W, Dt B kb (.slice (some ⟨rb, ro, none⟩) bs.length cap) (im0.set 0 (.int .u64 (bA : Nat))) en q p g w2 sE W → Calls Tryz.prog 56 #[.pointer (some ⟨kb, 0, none⟩), .bool bb, .int .i64 (ps : Int)] W fun e w' => e = .returned (.tuple #[]) ∧ Dt B kb (.slice (some ⟨rb, ro, none⟩) bs.length cap) (im0.set 0 (.int .u64 (bA : Nat))) en q p g w2 sF w') := fun W hW => by
     have h9 := dformX hW bb (a := ps) HpL.out
     rw [← hsF, endD, hbb, hps]
     exact h9
    have HD2 : Hid (Dt B kb (.slice (some ⟨rb, ro, none⟩) bs.length cap) (im0.set 0 (.int .u64 (bA : Nat))) en q p g w2 sE w2.drew) := h2.here.drew
    have HFr : Hid (Fd B w0 w2) := h2.fr
    have c59 := HD2.out.c59
    rw [hsF] at HP
    clear h2 HD hbb hps hpl hsF HpL
    go_wp2_with fail
    go_region_held3 (fun W => W.cell? ⟨kb, 59, none⟩ = some (.pointer (some ⟨p, 0, none⟩))) (first | (with_reducible assumption) | go_keep) (first | (go_at_call 57; refine (KE.out _ HD2.out).mono ?_; rintro e y1 ⟨r, rfl, hr, h1⟩; have HX := Lib.hid h1; have a59 := h1.c59; clear h1) | (go_at_call 58; (first | (refine (KA.out _ HX.out).mono ?_) | (refine (KA.out _ HD2.out).mono ?_)); rintro e y2 ⟨rfl, h9⟩; subst h9) | (go_at_call 56; refine (KF.out _ HX.out).mono ?_; rintro e y3 ⟨rfl, h3⟩; have HY := Lib.hid h3; have b59 := h3.c59; clear h3))
    all_goals
     have c62 := HY.out.c62
     obtain ⟨wy, hwy⟩ : ∃ t, sF.why = t := ⟨_, rfl⟩
     rw [hwy] at c62
     by_cases hw0 : wy = 0
     ·subst hw0
      have HF := Lib.hid (atI_next HP.out hwy HE.out (HJ.out _) (HY.out.since HFr.out).dn)
      clear HP HY HE HX HD2 KE KA KF a59 b59 c59 hwy HFr HJ
      go_wp2_with fail
      go_roundw
      case rel => exact ⟨1, by decide, rfl, HF⟩
      case measure => simp [intOf]
     ·have HF := Lib.hid (allQ_of HSz.out (by decide) HP.out (show sF.why ≠ 0 from fun e => hw0 (hwy.symm.trans e)) (HY.out.since HFr.out).dn)
      clear HP HY HE HX HD2 KE KA KF a59 b59 c59 hwy HFr HJ
      go_wp2_with fail
      refine bodyPost_ret (results_none rfl _ _ _) rfl ?_
      exact ⟨rfl, HF.out⟩
   ·-- part 1: bus
    obtain ⟨hy, im, en, pt, pv, hE, hI, hD⟩ : (prA bs 0).why = 0 ∧ ∃ im en pt pv, EnR en (hd0 bs).E ∧ ImD wr im (prA bs 0).J ∧ Dn B kb (.slice (some ⟨rb, ro, none⟩) bs.length cap) im en pt pv w0 0 (prA bs 0).sec (prA bs 0).ad wr := by
     rcases HI.out with ⟨h, _⟩ | ⟨_, h⟩
     ·cases h
     ·exact h
    obtain ⟨hN, hok⟩ := head_ok (pr_zero hy)
    obtain ⟨o1, o2, o3, o4, o5⟩ := ok_end (k := 1) (by decide) (by decide) (hok 1 (by decide) (by decide))
    have hfl : ((hd0 bs).E 1).f + ((hd0 bs).E 1).l ≤ bs.length := by omega
    have HO := Lib.hid (openR hD HRw.out (k := 1) (f := ((hd0 bs).E 1).f) (l := ((hd0 bs).E 1).l) (c := (((hd0 bs).E 1).c : Nat)) (by decide) (by
     have h9 := hE 1 (by decide) (by decide)
     rw [o1, o2] at h9
     exact h9) hfl (by omega))
    have HP0 := Lib.hid (pr_next hy)
    obtain ⟨x, hx⟩ : ∃ x, prA bs 0 = x := ⟨_, rfl⟩
    have hZl : (qOf (hd0 bs).E bs 1).Z.length ≤ 4194304000 := by
     show ((bs.drop _).take _).length ≤ _
     rw [List.length_take, List.length_drop]
     omega
    obtain ⟨q, hq⟩ : ∃ q, qOf (hd0 bs).E bs 1 = q := ⟨_, rfl⟩
    rw [show (⟨1, ((hd0 bs).E 1).f, (bs.drop ((hd0 bs).E 1).f).take ((hd0 bs).E 1).l⟩ : Pt) = q from hq] at HO
    rw [hq] at hZl
    rw [hx] at HO hI hy
    rw [hx] at HP0
    simp only [Nat.reduceAdd, hq] at HP0
    have HIm := Lib.hid hI
    have HE := Lib.hid hE
    have hst : (⟨0, 0, 0, x.sec, x.ad⟩ : D) = startD x := by unfold startD; rw [hy]
    rw [hst] at HO
    obtain ⟨J', s', hse⟩ : ∃ J' s', secD 1 q x.J (startD x) = (J', s') := ⟨_, _, rfl⟩
    have HP : Hid (prA bs 1 = ⟨J', (endD q s').why, (endD q s').sec, (endD q s').ad⟩) := show _ = _ by
     have h9 := HP0.out
     rw [hse] at h9
     exact h9
    have HR : Hid (∀ W p g, Dt B kb (.slice (some ⟨rb, ro, none⟩) bs.length cap) im en q p g w0 (startD x) W → ImD W im x.J → Calls Tryz.prog 47 #[.pointer (some ⟨kb, 0, none⟩)] W fun e w' => e = .returned (.tuple #[]) ∧ ∃ im', ImD w' im' J' ∧ Dt B kb (.slice (some ⟨rb, ro, none⟩) bs.length cap) im' en q p g w0 s' w') := fun W p g hW hJ => by
     have h9 := sec1Q hW hJ
     unfold SecQ at h9
     rw [hse] at h9
     exact h9
    have hx9 : ∀ W, (Instr.index 93 (.agg (funR kb)) (.int .i64 1)).run Tryz.prog W = .ok (.func (.func 47) #[.pointer (some ⟨kb, 0, none⟩)] #[]) W := funR_at1 kb
    clear HI hD hI hE hok o1 o2 o3 o4 o5 hfl HP0 hx hq hst hse hy hZl hN
    go_wp2_with fail
    refine HO.out.mono ?_
    rintro e w1 ⟨rfl, p, g, h1, hf1⟩
    have HR1 := Lib.hid (HR.out _ _ _ h1 (HIm.out.fd hf1))
    clear h1 hf1 HO HR HIm
    go_wp2_with fail
    refine HR1.out.mono ?_
    rintro e w2 ⟨rfl, im', hJ2, h2⟩
    have HJ2 := Lib.hid hJ2
    have HD := Lib.hid h2.drew
    clear hJ2 HR1
    obtain ⟨bb, hbb⟩ : ∃ b, decide (s'.rw = 0 ∧ s'.pos = q.Z.length) = b := ⟨_, rfl⟩
    obtain ⟨ps, hps⟩ : ∃ b, s'.pos = b := ⟨_, rfl⟩
    have hpl := h2.pos_le
    rw [hps] at hpl
    have HpL : Hid (ps ≤ 1099511627776) := hpl
    obtain ⟨sF, hsF⟩ : ∃ t, endD q s' = t := ⟨_, rfl⟩
    have KE : Hid (∀ W, Dt B kb (.slice (some ⟨rb, ro, none⟩) bs.length cap) im' en q p g w2 s' W → Calls Tryz.prog 57 #[.pointer (some ⟨p, 0, none⟩)] W fun e w' => ∃ r : Int, e = .returned (.int .i64 r) ∧ (r == 0) = bb ∧ Dt B kb (.slice (some ⟨rb, ro, none⟩) bs.length cap) im' en q p g w2 s' w') := fun W hW => endX1 hW hbb
    have KA : Hid (∀ W, Dt B kb (.slice (some ⟨rb, ro, none⟩) bs.length cap) im' en q p g w2 s' W → Calls Tryz.prog 58 #[.pointer (some ⟨p, 0, none⟩)] W fun e w' => e = .returned (.int .i64 (ps : Int)) ∧ w' = W) := fun W hW => by rw [← hps]; exact rat_any hW.rd
    have KF : Hid (∀ W, Dt B kb (.slice (some ⟨rb, ro, none⟩) bs.length cap) im' en q p g w2 s' W → Calls Tryz.prog 56 #[.pointer (some ⟨kb, 0, none⟩), .bool bb, .int .i64 (ps : Int)] W fun e w' => e = .returned (.tuple #[]) ∧ Dt B kb (.slice (some ⟨rb, ro, none⟩) bs.length cap) im' en q p g w2 sF w') := fun W hW => by
     have h9 := dformX hW bb (a := ps) HpL.out
     rw [← hsF, endD, hbb, hps]
     exact h9
    have HD2 : Hid (Dt B kb (.slice (some ⟨rb, ro, none⟩) bs.length cap) im' en q p g w2 s' w2.drew) := h2.here.drew
    have HFr : Hid (Fd B w0 w2) := h2.fr
    have c59 := HD2.out.c59
    rw [hsF] at HP
    clear h2 HD hbb hps hpl hsF HpL
    go_wp2_with fail
    go_region_held3 (fun W => W.cell? ⟨kb, 59, none⟩ = some (.pointer (some ⟨p, 0, none⟩))) (first | (with_reducible assumption) | go_keep) (first | (go_at_call 57; refine (KE.out _ HD2.out).mono ?_; rintro e y1 ⟨r, rfl, hr, h1⟩; have HX := Lib.hid h1; have a59 := h1.c59; clear h1) | (go_at_call 58; (first | (refine (KA.out _ HX.out).mono ?_) | (refine (KA.out _ HD2.out).mono ?_)); rintro e y2 ⟨rfl, h9⟩; subst h9) | (go_at_call 56; refine (KF.out _ HX.out).mono ?_; rintro e y3 ⟨rfl, h3⟩; have HY := Lib.hid h3; have b59 := h3.c59; clear h3))
    all_goals
     have c62 := HY.out.c62
     obtain ⟨wy, hwy⟩ : ∃ t, sF.why = t := ⟨_, rfl⟩
     rw [hwy] at c62
     by_cases hw0 : wy = 0
     ·subst hw0
      have HF := Lib.hid (atI_next HP.out hwy HE.out ((HJ2.out.fd HY.out.fr)) (HY.out.since HFr.out).dn)
      clear HP HY HE HX HD2 KE KA KF a59 b59 c59 hwy HFr HJ2
      go_wp2_with fail
      go_roundw
      case rel => exact ⟨2, by decide, rfl, HF⟩
      case measure => simp [intOf]
     ·have HF := Lib.hid (allQ_of HSz.out (by decide) HP.out (show sF.why ≠ 0 from fun e => hw0 (hwy.symm.trans e)) (HY.out.since HFr.out).dn)
      clear HP HY HE HX HD2 KE KA KF a59 b59 c59 hwy HFr HJ2
      go_wp2_with fail
      refine bodyPost_ret (results_none rfl _ _ _) rfl ?_
      exact ⟨rfl, HF.out⟩
   ·-- part 2: subjects
    obtain ⟨hy, im, en, pt, pv, hE, hI, hD⟩ : (prA bs 1).why = 0 ∧ ∃ im en pt pv, EnR en (hd0 bs).E ∧ ImD wr im (prA bs 1).J ∧ Dn B kb (.slice (some ⟨rb, ro, none⟩) bs.length cap) im en pt pv w0 0 (prA bs 1).sec (prA bs 1).ad wr := by
     rcases HI.out with ⟨h, _⟩ | ⟨_, h⟩
     ·cases h
     ·exact h
    obtain ⟨hN, hok⟩ := head_ok (pr_zero hy)
    obtain ⟨o1, o2, o3, o4, o5⟩ := ok_end (k := 2) (by decide) (by decide) (hok 2 (by decide) (by decide))
    have hfl : ((hd0 bs).E 2).f + ((hd0 bs).E 2).l ≤ bs.length := by omega
    have HO := Lib.hid (openR hD HRw.out (k := 2) (f := ((hd0 bs).E 2).f) (l := ((hd0 bs).E 2).l) (c := (((hd0 bs).E 2).c : Nat)) (by decide) (by
     have h9 := hE 2 (by decide) (by decide)
     rw [o1, o2] at h9
     exact h9) hfl (by omega))
    have HP0 := Lib.hid (pr_next hy)
    obtain ⟨x, hx⟩ : ∃ x, prA bs 1 = x := ⟨_, rfl⟩
    have hZl : (qOf (hd0 bs).E bs 2).Z.length ≤ 4194304000 := by
     show ((bs.drop _).take _).length ≤ _
     rw [List.length_take, List.length_drop]
     omega
    obtain ⟨q, hq⟩ : ∃ q, qOf (hd0 bs).E bs 2 = q := ⟨_, rfl⟩
    rw [show (⟨2, ((hd0 bs).E 2).f, (bs.drop ((hd0 bs).E 2).f).take ((hd0 bs).E 2).l⟩ : Pt) = q from hq] at HO
    rw [hq] at hZl
    rw [hx] at HO hI hy
    rw [hx] at HP0
    simp only [Nat.reduceAdd, hq] at HP0
    have HIm := Lib.hid hI
    have HE := Lib.hid hE
    have hst : (⟨0, 0, 0, x.sec, x.ad⟩ : D) = startD x := by unfold startD; rw [hy]
    rw [hst] at HO
    obtain ⟨J', s', hse⟩ : ∃ J' s', secD 2 q x.J (startD x) = (J', s') := ⟨_, _, rfl⟩
    have HP : Hid (prA bs 2 = ⟨J', (endD q s').why, (endD q s').sec, (endD q s').ad⟩) := show _ = _ by
     have h9 := HP0.out
     rw [hse] at h9
     exact h9
    have HR : Hid (∀ W p g, Dt B kb (.slice (some ⟨rb, ro, none⟩) bs.length cap) im en q p g w0 (startD x) W → ImD W im x.J → Calls Tryz.prog 48 #[.pointer (some ⟨kb, 0, none⟩)] W fun e w' => e = .returned (.tuple #[]) ∧ ∃ im', ImD w' im' J' ∧ Dt B kb (.slice (some ⟨rb, ro, none⟩) bs.length cap) im' en q p g w0 s' w') := fun W p g hW hJ => by
     have h9 := sec2Q hW hJ
     unfold SecQ at h9
     rw [hse] at h9
     exact h9
    have hx9 : ∀ W, (Instr.index 93 (.agg (funR kb)) (.int .i64 2)).run Tryz.prog W = .ok (.func (.func 48) #[.pointer (some ⟨kb, 0, none⟩)] #[]) W := funR_at2 kb
    clear HI hD hI hE hok o1 o2 o3 o4 o5 hfl HP0 hx hq hst hse hy hZl hN
    go_wp2_with fail
    refine HO.out.mono ?_
    rintro e w1 ⟨rfl, p, g, h1, hf1⟩
    have HR1 := Lib.hid (HR.out _ _ _ h1 (HIm.out.fd hf1))
    clear h1 hf1 HO HR HIm
    go_wp2_with fail
    refine HR1.out.mono ?_
    rintro e w2 ⟨rfl, im', hJ2, h2⟩
    have HJ2 := Lib.hid hJ2
    have HD := Lib.hid h2.drew
    clear hJ2 HR1
    obtain ⟨bb, hbb⟩ : ∃ b, decide (s'.rw = 0 ∧ s'.pos = q.Z.length) = b := ⟨_, rfl⟩
    obtain ⟨ps, hps⟩ : ∃ b, s'.pos = b := ⟨_, rfl⟩
    have hpl := h2.pos_le
    rw [hps] at hpl
    have HpL : Hid (ps ≤ 1099511627776) := hpl
    obtain ⟨sF, hsF⟩ : ∃ t, endD q s' = t := ⟨_, rfl⟩
    have KE : Hid (∀ W, Dt B kb (.slice (some ⟨rb, ro, none⟩) bs.length cap) im' en q p g w2 s' W → Calls Tryz.prog 57 #[.pointer (some ⟨p, 0, none⟩)] W fun e w' => ∃ r : Int, e = .returned (.int .i64 r) ∧ (r == 0) = bb ∧ Dt B kb (.slice (some ⟨rb, ro, none⟩) bs.length cap) im' en q p g w2 s' w') := fun W hW => endX1 hW hbb
    have KA : Hid (∀ W, Dt B kb (.slice (some ⟨rb, ro, none⟩) bs.length cap) im' en q p g w2 s' W → Calls Tryz.prog 58 #[.pointer (some ⟨p, 0, none⟩)] W fun e w' => e = .returned (.int .i64 (ps : Int)) ∧ w' = W) := fun W hW => by rw [← hps]; exact rat_any hW.rd
    have KF : Hid (∀ W, Dt B kb (.slice (some ⟨rb, ro, none⟩) bs.length cap) im' en q p g w2 s' W → Calls Tryz.prog 56 #[.pointer (some ⟨kb, 0, none⟩), .bool bb, .int .i64 (ps : Int)] W fun e w' => e = .returned (.tuple #[]) ∧ Dt B kb (.slice (some ⟨rb, ro, none⟩) bs.length cap) im' en q p g w2 sF w') := fun W hW => by
     have h9 := dformX hW bb (a := ps) HpL.out
     rw [← hsF, endD, hbb, hps]
     exact h9
    have HD2 : Hid (Dt B kb (.slice (some ⟨rb, ro, none⟩) bs.length cap) im' en q p g w2 s' w2.drew) := h2.here.drew
    have HFr : Hid (Fd B w0 w2) := h2.fr
    have c59 := HD2.out.c59
    rw [hsF] at HP
    clear h2 HD hbb hps hpl hsF HpL
    go_wp2_with fail
    go_region_held3 (fun W => W.cell? ⟨kb, 59, none⟩ = some (.pointer (some ⟨p, 0, none⟩))) (first | (with_reducible assumption) | go_keep) (first | (go_at_call 57; refine (KE.out _ HD2.out).mono ?_; rintro e y1 ⟨r, rfl, hr, h1⟩; have HX := Lib.hid h1; have a59 := h1.c59; clear h1) | (go_at_call 58; (first | (refine (KA.out _ HX.out).mono ?_) | (refine (KA.out _ HD2.out).mono ?_)); rintro e y2 ⟨rfl, h9⟩; subst h9) | (go_at_call 56; refine (KF.out _ HX.out).mono ?_; rintro e y3 ⟨rfl, h3⟩; have HY := Lib.hid h3; have b59 := h3.c59; clear h3))
    all_goals
     have c62 := HY.out.c62
     obtain ⟨wy, hwy⟩ : ∃ t, sF.why = t := ⟨_, rfl⟩
     rw [hwy] at c62
     by_cases hw0 : wy = 0
     ·subst hw0
      have HF := Lib.hid (atI_next HP.out hwy HE.out ((HJ2.out.fd HY.out.fr)) (HY.out.since HFr.out).dn)
      clear HP HY HE HX HD2 KE KA KF a59 b59 c59 hwy HFr HJ2
      go_wp2_with fail
      go_roundw
      case rel => exact ⟨3, by decide, rfl, HF⟩
      case measure => simp [intOf]
     ·have HF := Lib.hid (allQ_of HSz.out (by decide) HP.out (show sF.why ≠ 0 from fun e => hw0 (hwy.symm.trans e)) (HY.out.since HFr.out).dn)
      clear HP HY HE HX HD2 KE KA KF a59 b59 c59 hwy HFr HJ2
      go_wp2_with fail
      refine bodyPost_ret (results_none rfl _ _ _) rfl ?_
      exact ⟨rfl, HF.out⟩
   ·-- part 3: ports
    obtain ⟨hy, im, en, pt, pv, hE, hI, hD⟩ : (prA bs 2).why = 0 ∧ ∃ im en pt pv, EnR en (hd0 bs).E ∧ ImD wr im (prA bs 2).J ∧ Dn B kb (.slice (some ⟨rb, ro, none⟩) bs.length cap) im en pt pv w0 0 (prA bs 2).sec (prA bs 2).ad wr := by
     rcases HI.out with ⟨h, _⟩ | ⟨_, h⟩
     ·cases h
     ·exact h
    obtain ⟨hN, hok⟩ := head_ok (pr_zero hy)
    obtain ⟨o1, o2, o3, o4, o5⟩ := ok_end (k := 3) (by decide) (by decide) (hok 3 (by decide) (by decide))
    have hfl : ((hd0 bs).E 3).f + ((hd0 bs).E 3).l ≤ bs.length := by omega
    have HO := Lib.hid (openR hD HRw.out (k := 3) (f := ((hd0 bs).E 3).f) (l := ((hd0 bs).E 3).l) (c := (((hd0 bs).E 3).c : Nat)) (by decide) (by
     have h9 := hE 3 (by decide) (by decide)
     rw [o1, o2] at h9
     exact h9) hfl (by omega))
    have HP0 := Lib.hid (pr_next hy)
    obtain ⟨x, hx⟩ : ∃ x, prA bs 2 = x := ⟨_, rfl⟩
    have hZl : (qOf (hd0 bs).E bs 3).Z.length ≤ 4194304000 := by
     show ((bs.drop _).take _).length ≤ _
     rw [List.length_take, List.length_drop]
     omega
    obtain ⟨q, hq⟩ : ∃ q, qOf (hd0 bs).E bs 3 = q := ⟨_, rfl⟩
    rw [show (⟨3, ((hd0 bs).E 3).f, (bs.drop ((hd0 bs).E 3).f).take ((hd0 bs).E 3).l⟩ : Pt) = q from hq] at HO
    rw [hq] at hZl
    rw [hx] at HO hI hy
    rw [hx] at HP0
    simp only [Nat.reduceAdd, hq] at HP0
    have HIm := Lib.hid hI
    have HE := Lib.hid hE
    have hst : (⟨0, 0, 0, x.sec, x.ad⟩ : D) = startD x := by unfold startD; rw [hy]
    rw [hst] at HO
    obtain ⟨J', s', hse⟩ : ∃ J' s', secD 3 q x.J (startD x) = (J', s') := ⟨_, _, rfl⟩
    have HP : Hid (prA bs 3 = ⟨J', (endD q s').why, (endD q s').sec, (endD q s').ad⟩) := show _ = _ by
     have h9 := HP0.out
     rw [hse] at h9
     exact h9
    have HR : Hid (∀ W p g, Dt B kb (.slice (some ⟨rb, ro, none⟩) bs.length cap) im en q p g w0 (startD x) W → ImD W im x.J → Calls Tryz.prog 49 #[.pointer (some ⟨kb, 0, none⟩)] W fun e w' => e = .returned (.tuple #[]) ∧ ∃ im', ImD w' im' J' ∧ Dt B kb (.slice (some ⟨rb, ro, none⟩) bs.length cap) im' en q p g w0 s' w') := fun W p g hW hJ => by
     have h9 := sec3Q hW hJ
     unfold SecQ at h9
     rw [hse] at h9
     exact h9
    have hx9 : ∀ W, (Instr.index 93 (.agg (funR kb)) (.int .i64 3)).run Tryz.prog W = .ok (.func (.func 49) #[.pointer (some ⟨kb, 0, none⟩)] #[]) W := funR_at3 kb
    clear HI hD hI hE hok o1 o2 o3 o4 o5 hfl HP0 hx hq hst hse hy hZl hN
    go_wp2_with fail
    refine HO.out.mono ?_
    rintro e w1 ⟨rfl, p, g, h1, hf1⟩
    have HR1 := Lib.hid (HR.out _ _ _ h1 (HIm.out.fd hf1))
    clear h1 hf1 HO HR HIm
    go_wp2_with fail
    refine HR1.out.mono ?_
    rintro e w2 ⟨rfl, im', hJ2, h2⟩
    have HJ2 := Lib.hid hJ2
    have HD := Lib.hid h2.drew
    clear hJ2 HR1
    obtain ⟨bb, hbb⟩ : ∃ b, decide (s'.rw = 0 ∧ s'.pos = q.Z.length) = b := ⟨_, rfl⟩
    obtain ⟨ps, hps⟩ : ∃ b, s'.pos = b := ⟨_, rfl⟩
    have hpl := h2.pos_le
    rw [hps] at hpl
    have HpL : Hid (ps ≤ 1099511627776) := hpl
    obtain ⟨sF, hsF⟩ : ∃ t, endD q s' = t := ⟨_, rfl⟩
    have KE : Hid (∀ W, Dt B kb (.slice (some ⟨rb, ro, none⟩) bs.length cap) im' en q p g w2 s' W → Calls Tryz.prog 57 #[.pointer (some ⟨p, 0, none⟩)] W fun e w' => ∃ r : Int, e = .returned (.int .i64 r) ∧ (r == 0) = bb ∧ Dt B kb (.slice (some ⟨rb, ro, none⟩) bs.length cap) im' en q p g w2 s' w') := fun W hW => endX1 hW hbb
    have KA : Hid (∀ W, Dt B kb (.slice (some ⟨rb, ro, none⟩) bs.length cap) im' en q p g w2 s' W → Calls Tryz.prog 58 #[.pointer (some ⟨p, 0, none⟩)] W fun e w' => e = .returned (.int .i64 (ps : Int)) ∧ w' = W) := fun W hW => by rw [← hps]; exact rat_any hW.rd
    have KF : Hid (∀ W, Dt B kb (.slice (some ⟨rb, ro, none⟩) bs.length cap) im' en q p g w2 s' W → Calls Tryz.prog 56 #[.pointer (some ⟨kb, 0, none⟩), .bool bb, .int .i64 (ps : Int)] W fun e w' => e = .returned (.tuple #[]) ∧ Dt B kb (.slice (some ⟨rb, ro, none⟩) bs.length cap) im' en q p g w2 sF w') := fun W hW => by
     have h9 := dformX hW bb (a := ps) HpL.out
     rw [← hsF, endD, hbb, hps]
     exact h9
    have HD2 : Hid (Dt B kb (.slice (some ⟨rb, ro, none⟩) bs.length cap) im' en q p g w2 s' w2.drew) := h2.here.drew
    have HFr : Hid (Fd B w0 w2) := h2.fr
    have c59 := HD2.out.c59
    rw [hsF] at HP
    clear h2 HD hbb hps hpl hsF HpL
    go_wp2_with fail
    go_region_held3 (fun W => W.cell? ⟨kb, 59, none⟩ = some (.pointer (some ⟨p, 0, none⟩))) (first | (with_reducible assumption) | go_keep) (first | (go_at_call 57; refine (KE.out _ HD2.out).mono ?_; rintro e y1 ⟨r, rfl, hr, h1⟩; have HX := Lib.hid h1; have a59 := h1.c59; clear h1) | (go_at_call 58; (first | (refine (KA.out _ HX.out).mono ?_) | (refine (KA.out _ HD2.out).mono ?_)); rintro e y2 ⟨rfl, h9⟩; subst h9) | (go_at_call 56; refine (KF.out _ HX.out).mono ?_; rintro e y3 ⟨rfl, h3⟩; have HY := Lib.hid h3; have b59 := h3.c59; clear h3))
    all_goals
     have c62 := HY.out.c62
     obtain ⟨wy, hwy⟩ : ∃ t, sF.why = t := ⟨_, rfl⟩
     rw [hwy] at c62
     by_cases hw0 : wy = 0
     ·subst hw0
      have HF := Lib.hid (atI_next HP.out hwy HE.out ((HJ2.out.fd HY.out.fr)) (HY.out.since HFr.out).dn)
      clear HP HY HE HX HD2 KE KA KF a59 b59 c59 hwy HFr HJ2
      go_wp2_with fail
      go_roundw
      case rel => exact ⟨4, by decide, rfl, HF⟩
      case measure => simp [intOf]
     ·have HF := Lib.hid (allQ_of HSz.out (by decide) HP.out (show sF.why ≠ 0 from fun e => hw0 (hwy.symm.trans e)) (HY.out.since HFr.out).dn)
      clear HP HY HE HX HD2 KE KA KF a59 b59 c59 hwy HFr HJ2
      go_wp2_with fail
      refine bodyPost_ret (results_none rfl _ _ _) rfl ?_
      exact ⟨rfl, HF.out⟩
   ·-- part 4: regions
    obtain ⟨hy, im, en, pt, pv, hE, hI, hD⟩ : (prA bs 3).why = 0 ∧ ∃ im en pt pv, EnR en (hd0 bs).E ∧ ImD wr im (prA bs 3).J ∧ Dn B kb (.slice (some ⟨rb, ro, none⟩) bs.length cap) im en pt pv w0 0 (prA bs 3).sec (prA bs 3).ad wr := by
     rcases HI.out with ⟨h, _⟩ | ⟨_, h⟩
     ·cases h
     ·exact h
    obtain ⟨hN, hok⟩ := head_ok (pr_zero hy)
    obtain ⟨o1, o2, o3, o4, o5⟩ := ok_end (k := 4) (by decide) (by decide) (hok 4 (by decide) (by decide))
    have hfl : ((hd0 bs).E 4).f + ((hd0 bs).E 4).l ≤ bs.length := by omega
    have HO := Lib.hid (openR hD HRw.out (k := 4) (f := ((hd0 bs).E 4).f) (l := ((hd0 bs).E 4).l) (c := (((hd0 bs).E 4).c : Nat)) (by decide) (by
     have h9 := hE 4 (by decide) (by decide)
     rw [o1, o2] at h9
     exact h9) hfl (by omega))
    have HP0 := Lib.hid (pr_next hy)
    obtain ⟨x, hx⟩ : ∃ x, prA bs 3 = x := ⟨_, rfl⟩
    have hZl : (qOf (hd0 bs).E bs 4).Z.length ≤ 4194304000 := by
     show ((bs.drop _).take _).length ≤ _
     rw [List.length_take, List.length_drop]
     omega
    obtain ⟨q, hq⟩ : ∃ q, qOf (hd0 bs).E bs 4 = q := ⟨_, rfl⟩
    rw [show (⟨4, ((hd0 bs).E 4).f, (bs.drop ((hd0 bs).E 4).f).take ((hd0 bs).E 4).l⟩ : Pt) = q from hq] at HO
    rw [hq] at hZl
    rw [hx] at HO hI hy
    rw [hx] at HP0
    simp only [Nat.reduceAdd, hq] at HP0
    have HIm := Lib.hid hI
    have HE := Lib.hid hE
    have hst : (⟨0, 0, 0, x.sec, x.ad⟩ : D) = startD x := by unfold startD; rw [hy]
    rw [hst] at HO
    obtain ⟨J', s', hse⟩ : ∃ J' s', secD 4 q x.J (startD x) = (J', s') := ⟨_, _, rfl⟩
    have HP : Hid (prA bs 4 = ⟨J', (endD q s').why, (endD q s').sec, (endD q s').ad⟩) := show _ = _ by
     have h9 := HP0.out
     rw [hse] at h9
     exact h9
    have HR : Hid (∀ W p g, Dt B kb (.slice (some ⟨rb, ro, none⟩) bs.length cap) im en q p g w0 (startD x) W → ImD W im x.J → Calls Tryz.prog 50 #[.pointer (some ⟨kb, 0, none⟩)] W fun e w' => e = .returned (.tuple #[]) ∧ ∃ im', ImD w' im' J' ∧ Dt B kb (.slice (some ⟨rb, ro, none⟩) bs.length cap) im' en q p g w0 s' w') := fun W p g hW hJ => by
     have h9 := sec4Q hW hJ
     unfold SecQ at h9
     rw [hse] at h9
     exact h9
    have hx9 : ∀ W, (Instr.index 93 (.agg (funR kb)) (.int .i64 4)).run Tryz.prog W = .ok (.func (.func 50) #[.pointer (some ⟨kb, 0, none⟩)] #[]) W := funR_at4 kb
    clear HI hD hI hE hok o1 o2 o3 o4 o5 hfl HP0 hx hq hst hse hy hZl hN
    go_wp2_with fail
    refine HO.out.mono ?_
    rintro e w1 ⟨rfl, p, g, h1, hf1⟩
    have HR1 := Lib.hid (HR.out _ _ _ h1 (HIm.out.fd hf1))
    clear h1 hf1 HO HR HIm
    go_wp2_with fail
    refine HR1.out.mono ?_
    rintro e w2 ⟨rfl, im', hJ2, h2⟩
    have HJ2 := Lib.hid hJ2
    have HD := Lib.hid h2.drew
    clear hJ2 HR1
    obtain ⟨bb, hbb⟩ : ∃ b, decide (s'.rw = 0 ∧ s'.pos = q.Z.length) = b := ⟨_, rfl⟩
    obtain ⟨ps, hps⟩ : ∃ b, s'.pos = b := ⟨_, rfl⟩
    have hpl := h2.pos_le
    rw [hps] at hpl
    have HpL : Hid (ps ≤ 1099511627776) := hpl
    obtain ⟨sF, hsF⟩ : ∃ t, endD q s' = t := ⟨_, rfl⟩
    have KE : Hid (∀ W, Dt B kb (.slice (some ⟨rb, ro, none⟩) bs.length cap) im' en q p g w2 s' W → Calls Tryz.prog 57 #[.pointer (some ⟨p, 0, none⟩)] W fun e w' => ∃ r : Int, e = .returned (.int .i64 r) ∧ (r == 0) = bb ∧ Dt B kb (.slice (some ⟨rb, ro, none⟩) bs.length cap) im' en q p g w2 s' w') := fun W hW => endX1 hW hbb
    have KA : Hid (∀ W, Dt B kb (.slice (some ⟨rb, ro, none⟩) bs.length cap) im' en q p g w2 s' W → Calls Tryz.prog 58 #[.pointer (some ⟨p, 0, none⟩)] W fun e w' => e = .returned (.int .i64 (ps : Int)) ∧ w' = W) := fun W hW => by rw [← hps]; exact rat_any hW.rd
    have KF : Hid (∀ W, Dt B kb (.slice (some ⟨rb, ro, none⟩) bs.length cap) im' en q p g w2 s' W → Calls Tryz.prog 56 #[.pointer (some ⟨kb, 0, none⟩), .bool bb, .int .i64 (ps : Int)] W fun e w' => e = .returned (.tuple #[]) ∧ Dt B kb (.slice (some ⟨rb, ro, none⟩) bs.length cap) im' en q p g w2 sF w') := fun W hW => by
     have h9 := dformX hW bb (a := ps) HpL.out
     rw [← hsF, endD, hbb, hps]
     exact h9
    have HD2 : Hid (Dt B kb (.slice (some ⟨rb, ro, none⟩) bs.length cap) im' en q p g w2 s' w2.drew) := h2.here.drew
    have HFr : Hid (Fd B w0 w2) := h2.fr
    have c59 := HD2.out.c59
    rw [hsF] at HP
    clear h2 HD hbb hps hpl hsF HpL
    go_wp2_with fail
    go_region_held3 (fun W => W.cell? ⟨kb, 59, none⟩ = some (.pointer (some ⟨p, 0, none⟩))) (first | (with_reducible assumption) | go_keep) (first | (go_at_call 57; refine (KE.out _ HD2.out).mono ?_; rintro e y1 ⟨r, rfl, hr, h1⟩; have HX := Lib.hid h1; have a59 := h1.c59; clear h1) | (go_at_call 58; (first | (refine (KA.out _ HX.out).mono ?_) | (refine (KA.out _ HD2.out).mono ?_)); rintro e y2 ⟨rfl, h9⟩; subst h9) | (go_at_call 56; refine (KF.out _ HX.out).mono ?_; rintro e y3 ⟨rfl, h3⟩; have HY := Lib.hid h3; have b59 := h3.c59; clear h3))
    all_goals
     have c62 := HY.out.c62
     obtain ⟨wy, hwy⟩ : ∃ t, sF.why = t := ⟨_, rfl⟩
     rw [hwy] at c62
     by_cases hw0 : wy = 0
     ·subst hw0
      have HF := Lib.hid (atI_next HP.out hwy HE.out ((HJ2.out.fd HY.out.fr)) (HY.out.since HFr.out).dn)
      clear HP HY HE HX HD2 KE KA KF a59 b59 c59 hwy HFr HJ2
      go_wp2_with fail
      go_roundw
      case rel => exact ⟨5, by decide, rfl, HF⟩
      case measure => simp [intOf]
     ·have HF := Lib.hid (allQ_of HSz.out (by decide) HP.out (show sF.why ≠ 0 from fun e => hw0 (hwy.symm.trans e)) (HY.out.since HFr.out).dn)
      clear HP HY HE HX HD2 KE KA KF a59 b59 c59 hwy HFr HJ2
      go_wp2_with fail
      refine bodyPost_ret (results_none rfl _ _ _) rfl ?_
      exact ⟨rfl, HF.out⟩
   ·-- part 5: channels
    obtain ⟨hy, im, en, pt, pv, hE, hI, hD⟩ : (prA bs 4).why = 0 ∧ ∃ im en pt pv, EnR en (hd0 bs).E ∧ ImD wr im (prA bs 4).J ∧ Dn B kb (.slice (some ⟨rb, ro, none⟩) bs.length cap) im en pt pv w0 0 (prA bs 4).sec (prA bs 4).ad wr := by
     rcases HI.out with ⟨h, _⟩ | ⟨_, h⟩
     ·cases h
     ·exact h
    obtain ⟨hN, hok⟩ := head_ok (pr_zero hy)
    obtain ⟨o1, o2, o3, o4, o5⟩ := ok_end (k := 5) (by decide) (by decide) (hok 5 (by decide) (by decide))
    have hfl : ((hd0 bs).E 5).f + ((hd0 bs).E 5).l ≤ bs.length := by omega
    have HO := Lib.hid (openR hD HRw.out (k := 5) (f := ((hd0 bs).E 5).f) (l := ((hd0 bs).E 5).l) (c := (((hd0 bs).E 5).c : Nat)) (by decide) (by
     have h9 := hE 5 (by decide) (by decide)
     rw [o1, o2] at h9
     exact h9) hfl (by omega))
    have HP0 := Lib.hid (pr_next hy)
    obtain ⟨x, hx⟩ : ∃ x, prA bs 4 = x := ⟨_, rfl⟩
    have hZl : (qOf (hd0 bs).E bs 5).Z.length ≤ 4194304000 := by
     show ((bs.drop _).take _).length ≤ _
     rw [List.length_take, List.length_drop]
     omega
    obtain ⟨q, hq⟩ : ∃ q, qOf (hd0 bs).E bs 5 = q := ⟨_, rfl⟩
    rw [show (⟨5, ((hd0 bs).E 5).f, (bs.drop ((hd0 bs).E 5).f).take ((hd0 bs).E 5).l⟩ : Pt) = q from hq] at HO
    rw [hq] at hZl
    rw [hx] at HO hI hy
    rw [hx] at HP0
    simp only [Nat.reduceAdd, hq] at HP0
    have HIm := Lib.hid hI
    have HE := Lib.hid hE
    have hst : (⟨0, 0, 0, x.sec, x.ad⟩ : D) = startD x := by unfold startD; rw [hy]
    rw [hst] at HO
    obtain ⟨J', s', hse⟩ : ∃ J' s', secD 5 q x.J (startD x) = (J', s') := ⟨_, _, rfl⟩
    have HP : Hid (prA bs 5 = ⟨J', (endD q s').why, (endD q s').sec, (endD q s').ad⟩) := show _ = _ by
     have h9 := HP0.out
     rw [hse] at h9
     exact h9
    have HR : Hid (∀ W p g, Dt B kb (.slice (some ⟨rb, ro, none⟩) bs.length cap) im en q p g w0 (startD x) W → ImD W im x.J → Calls Tryz.prog 51 #[.pointer (some ⟨kb, 0, none⟩)] W fun e w' => e = .returned (.tuple #[]) ∧ ∃ im', ImD w' im' J' ∧ Dt B kb (.slice (some ⟨rb, ro, none⟩) bs.length cap) im' en q p g w0 s' w') := fun W p g hW hJ => by
     have h9 := sec5Q hW hJ
     unfold SecQ at h9
     rw [hse] at h9
     exact h9
    have hx9 : ∀ W, (Instr.index 93 (.agg (funR kb)) (.int .i64 5)).run Tryz.prog W = .ok (.func (.func 51) #[.pointer (some ⟨kb, 0, none⟩)] #[]) W := funR_at5 kb
    clear HI hD hI hE hok o1 o2 o3 o4 o5 hfl HP0 hx hq hst hse hy hZl hN
    go_wp2_with fail
    refine HO.out.mono ?_
    rintro e w1 ⟨rfl, p, g, h1, hf1⟩
    have HR1 := Lib.hid (HR.out _ _ _ h1 (HIm.out.fd hf1))
    clear h1 hf1 HO HR HIm
    go_wp2_with fail
    refine HR1.out.mono ?_
    rintro e w2 ⟨rfl, im', hJ2, h2⟩
    have HJ2 := Lib.hid hJ2
    have HD := Lib.hid h2.drew
    clear hJ2 HR1
    obtain ⟨bb, hbb⟩ : ∃ b, decide (s'.rw = 0 ∧ s'.pos = q.Z.length) = b := ⟨_, rfl⟩
    obtain ⟨ps, hps⟩ : ∃ b, s'.pos = b := ⟨_, rfl⟩
    have hpl := h2.pos_le
    rw [hps] at hpl
    have HpL : Hid (ps ≤ 1099511627776) := hpl
    obtain ⟨sF, hsF⟩ : ∃ t, endD q s' = t := ⟨_, rfl⟩
    have KE : Hid (∀ W, Dt B kb (.slice (some ⟨rb, ro, none⟩) bs.length cap) im' en q p g w2 s' W → Calls Tryz.prog 57 #[.pointer (some ⟨p, 0, none⟩)] W fun e w' => ∃ r : Int, e = .returned (.int .i64 r) ∧ (r == 0) = bb ∧ Dt B kb (.slice (some ⟨rb, ro, none⟩) bs.length cap) im' en q p g w2 s' w') := fun W hW => endX1 hW hbb
    have KA : Hid (∀ W, Dt B kb (.slice (some ⟨rb, ro, none⟩) bs.length cap) im' en q p g w2 s' W → Calls Tryz.prog 58 #[.pointer (some ⟨p, 0, none⟩)] W fun e w' => e = .returned (.int .i64 (ps : Int)) ∧ w' = W) := fun W hW => by rw [← hps]; exact rat_any hW.rd
    have KF : Hid (∀ W, Dt B kb (.slice (some ⟨rb, ro, none⟩) bs.length cap) im' en q p g w2 s' W → Calls Tryz.prog 56 #[.pointer (some ⟨kb, 0, none⟩), .bool bb, .int .i64 (ps : Int)] W fun e w' => e = .returned (.tuple #[]) ∧ Dt B kb (.slice (some ⟨rb, ro, none⟩) bs.length cap) im' en q p g w2 sF w') := fun W hW => by
     have h9 := dformX hW bb (a := ps) HpL.out
     rw [← hsF, endD, hbb, hps]
     exact h9
    have HD2 : Hid (Dt B kb (.slice (some ⟨rb, ro, none⟩) bs.length cap) im' en q p g w2 s' w2.drew) := h2.here.drew
    have HFr : Hid (Fd B w0 w2) := h2.fr
    have c59 := HD2.out.c59
    rw [hsF] at HP
    clear h2 HD hbb hps hpl hsF HpL
    go_wp2_with fail
    go_region_held3 (fun W => W.cell? ⟨kb, 59, none⟩ = some (.pointer (some ⟨p, 0, none⟩))) (first | (with_reducible assumption) | go_keep) (first | (go_at_call 57; refine (KE.out _ HD2.out).mono ?_; rintro e y1 ⟨r, rfl, hr, h1⟩; have HX := Lib.hid h1; have a59 := h1.c59; clear h1) | (go_at_call 58; (first | (refine (KA.out _ HX.out).mono ?_) | (refine (KA.out _ HD2.out).mono ?_)); rintro e y2 ⟨rfl, h9⟩; subst h9) | (go_at_call 56; refine (KF.out _ HX.out).mono ?_; rintro e y3 ⟨rfl, h3⟩; have HY := Lib.hid h3; have b59 := h3.c59; clear h3))
    all_goals
     have c62 := HY.out.c62
     obtain ⟨wy, hwy⟩ : ∃ t, sF.why = t := ⟨_, rfl⟩
     rw [hwy] at c62
     by_cases hw0 : wy = 0
     ·subst hw0
      have HF := Lib.hid (atI_next HP.out hwy HE.out ((HJ2.out.fd HY.out.fr)) (HY.out.since HFr.out).dn)
      clear HP HY HE HX HD2 KE KA KF a59 b59 c59 hwy HFr HJ2
      go_wp2_with fail
      go_roundw
      case rel => exact ⟨6, by decide, rfl, HF⟩
      case measure => simp [intOf]
     ·have HF := Lib.hid (allQ_of HSz.out (by decide) HP.out (show sF.why ≠ 0 from fun e => hw0 (hwy.symm.trans e)) (HY.out.since HFr.out).dn)
      clear HP HY HE HX HD2 KE KA KF a59 b59 c59 hwy HFr HJ2
      go_wp2_with fail
      refine bodyPost_ret (results_none rfl _ _ _) rfl ?_
      exact ⟨rfl, HF.out⟩
   ·-- part 6: irqs
    obtain ⟨hy, im, en, pt, pv, hE, hI, hD⟩ : (prA bs 5).why = 0 ∧ ∃ im en pt pv, EnR en (hd0 bs).E ∧ ImD wr im (prA bs 5).J ∧ Dn B kb (.slice (some ⟨rb, ro, none⟩) bs.length cap) im en pt pv w0 0 (prA bs 5).sec (prA bs 5).ad wr := by
     rcases HI.out with ⟨h, _⟩ | ⟨_, h⟩
     ·cases h
     ·exact h
    obtain ⟨hN, hok⟩ := head_ok (pr_zero hy)
    obtain ⟨o1, o2, o3, o4, o5⟩ := ok_end (k := 6) (by decide) (by decide) (hok 6 (by decide) (by decide))
    have hfl : ((hd0 bs).E 6).f + ((hd0 bs).E 6).l ≤ bs.length := by omega
    have HO := Lib.hid (openR hD HRw.out (k := 6) (f := ((hd0 bs).E 6).f) (l := ((hd0 bs).E 6).l) (c := (((hd0 bs).E 6).c : Nat)) (by decide) (by
     have h9 := hE 6 (by decide) (by decide)
     rw [o1, o2] at h9
     exact h9) hfl (by omega))
    have HP0 := Lib.hid (pr_next hy)
    obtain ⟨x, hx⟩ : ∃ x, prA bs 5 = x := ⟨_, rfl⟩
    have hZl : (qOf (hd0 bs).E bs 6).Z.length ≤ 4194304000 := by
     show ((bs.drop _).take _).length ≤ _
     rw [List.length_take, List.length_drop]
     omega
    obtain ⟨q, hq⟩ : ∃ q, qOf (hd0 bs).E bs 6 = q := ⟨_, rfl⟩
    rw [show (⟨6, ((hd0 bs).E 6).f, (bs.drop ((hd0 bs).E 6).f).take ((hd0 bs).E 6).l⟩ : Pt) = q from hq] at HO
    rw [hq] at hZl
    rw [hx] at HO hI hy
    rw [hx] at HP0
    simp only [Nat.reduceAdd, hq] at HP0
    have HIm := Lib.hid hI
    have HE := Lib.hid hE
    have hst : (⟨0, 0, 0, x.sec, x.ad⟩ : D) = startD x := by unfold startD; rw [hy]
    rw [hst] at HO
    obtain ⟨J', s', hse⟩ : ∃ J' s', secD 6 q x.J (startD x) = (J', s') := ⟨_, _, rfl⟩
    have HP : Hid (prA bs 6 = ⟨J', (endD q s').why, (endD q s').sec, (endD q s').ad⟩) := show _ = _ by
     have h9 := HP0.out
     rw [hse] at h9
     exact h9
    have HR : Hid (∀ W p g, Dt B kb (.slice (some ⟨rb, ro, none⟩) bs.length cap) im en q p g w0 (startD x) W → ImD W im x.J → Calls Tryz.prog 52 #[.pointer (some ⟨kb, 0, none⟩)] W fun e w' => e = .returned (.tuple #[]) ∧ ∃ im', ImD w' im' J' ∧ Dt B kb (.slice (some ⟨rb, ro, none⟩) bs.length cap) im' en q p g w0 s' w') := fun W p g hW hJ => by
     have h9 := sec6Q hW hJ
     unfold SecQ at h9
     rw [hse] at h9
     exact h9
    have hx9 : ∀ W, (Instr.index 93 (.agg (funR kb)) (.int .i64 6)).run Tryz.prog W = .ok (.func (.func 52) #[.pointer (some ⟨kb, 0, none⟩)] #[]) W := funR_at6 kb
    clear HI hD hI hE hok o1 o2 o3 o4 o5 hfl HP0 hx hq hst hse hy hZl hN
    go_wp2_with fail
    refine HO.out.mono ?_
    rintro e w1 ⟨rfl, p, g, h1, hf1⟩
    have HR1 := Lib.hid (HR.out _ _ _ h1 (HIm.out.fd hf1))
    clear h1 hf1 HO HR HIm
    go_wp2_with fail
    refine HR1.out.mono ?_
    rintro e w2 ⟨rfl, im', hJ2, h2⟩
    have HJ2 := Lib.hid hJ2
    have HD := Lib.hid h2.drew
    clear hJ2 HR1
    obtain ⟨bb, hbb⟩ : ∃ b, decide (s'.rw = 0 ∧ s'.pos = q.Z.length) = b := ⟨_, rfl⟩
    obtain ⟨ps, hps⟩ : ∃ b, s'.pos = b := ⟨_, rfl⟩
    have hpl := h2.pos_le
    rw [hps] at hpl
    have HpL : Hid (ps ≤ 1099511627776) := hpl
    obtain ⟨sF, hsF⟩ : ∃ t, endD q s' = t := ⟨_, rfl⟩
    have KE : Hid (∀ W, Dt B kb (.slice (some ⟨rb, ro, none⟩) bs.length cap) im' en q p g w2 s' W → Calls Tryz.prog 57 #[.pointer (some ⟨p, 0, none⟩)] W fun e w' => ∃ r : Int, e = .returned (.int .i64 r) ∧ (r == 0) = bb ∧ Dt B kb (.slice (some ⟨rb, ro, none⟩) bs.length cap) im' en q p g w2 s' w') := fun W hW => endX1 hW hbb
    have KA : Hid (∀ W, Dt B kb (.slice (some ⟨rb, ro, none⟩) bs.length cap) im' en q p g w2 s' W → Calls Tryz.prog 58 #[.pointer (some ⟨p, 0, none⟩)] W fun e w' => e = .returned (.int .i64 (ps : Int)) ∧ w' = W) := fun W hW => by rw [← hps]; exact rat_any hW.rd
    have KF : Hid (∀ W, Dt B kb (.slice (some ⟨rb, ro, none⟩) bs.length cap) im' en q p g w2 s' W → Calls Tryz.prog 56 #[.pointer (some ⟨kb, 0, none⟩), .bool bb, .int .i64 (ps : Int)] W fun e w' => e = .returned (.tuple #[]) ∧ Dt B kb (.slice (some ⟨rb, ro, none⟩) bs.length cap) im' en q p g w2 sF w') := fun W hW => by
     have h9 := dformX hW bb (a := ps) HpL.out
     rw [← hsF, endD, hbb, hps]
     exact h9
    have HD2 : Hid (Dt B kb (.slice (some ⟨rb, ro, none⟩) bs.length cap) im' en q p g w2 s' w2.drew) := h2.here.drew
    have HFr : Hid (Fd B w0 w2) := h2.fr
    have c59 := HD2.out.c59
    rw [hsF] at HP
    clear h2 HD hbb hps hpl hsF HpL
    go_wp2_with fail
    go_region_held3 (fun W => W.cell? ⟨kb, 59, none⟩ = some (.pointer (some ⟨p, 0, none⟩))) (first | (with_reducible assumption) | go_keep) (first | (go_at_call 57; refine (KE.out _ HD2.out).mono ?_; rintro e y1 ⟨r, rfl, hr, h1⟩; have HX := Lib.hid h1; have a59 := h1.c59; clear h1) | (go_at_call 58; (first | (refine (KA.out _ HX.out).mono ?_) | (refine (KA.out _ HD2.out).mono ?_)); rintro e y2 ⟨rfl, h9⟩; subst h9) | (go_at_call 56; refine (KF.out _ HX.out).mono ?_; rintro e y3 ⟨rfl, h3⟩; have HY := Lib.hid h3; have b59 := h3.c59; clear h3))
    all_goals
     have c62 := HY.out.c62
     obtain ⟨wy, hwy⟩ : ∃ t, sF.why = t := ⟨_, rfl⟩
     rw [hwy] at c62
     by_cases hw0 : wy = 0
     ·subst hw0
      have HF := Lib.hid (atI_next HP.out hwy HE.out ((HJ2.out.fd HY.out.fr)) (HY.out.since HFr.out).dn)
      clear HP HY HE HX HD2 KE KA KF a59 b59 c59 hwy HFr HJ2
      go_wp2_with fail
      go_roundw
      case rel => exact ⟨7, by decide, rfl, HF⟩
      case measure => simp [intOf]
     ·have HF := Lib.hid (allQ_of HSz.out (by decide) HP.out (show sF.why ≠ 0 from fun e => hw0 (hwy.symm.trans e)) (HY.out.since HFr.out).dn)
      clear HP HY HE HX HD2 KE KA KF a59 b59 c59 hwy HFr HJ2
      go_wp2_with fail
      refine bodyPost_ret (results_none rfl _ _ _) rfl ?_
      exact ⟨rfl, HF.out⟩
   ·-- part 7: plans
    obtain ⟨hy, im, en, pt, pv, hE, hI, hD⟩ : (prA bs 6).why = 0 ∧ ∃ im en pt pv, EnR en (hd0 bs).E ∧ ImD wr im (prA bs 6).J ∧ Dn B kb (.slice (some ⟨rb, ro, none⟩) bs.length cap) im en pt pv w0 0 (prA bs 6).sec (prA bs 6).ad wr := by
     rcases HI.out with ⟨h, _⟩ | ⟨_, h⟩
     ·cases h
     ·exact h
    obtain ⟨hN, hok⟩ := head_ok (pr_zero hy)
    obtain ⟨o1, o2, o3, o4, o5⟩ := ok_end (k := 7) (by decide) (by decide) (hok 7 (by decide) (by decide))
    have hfl : ((hd0 bs).E 7).f + ((hd0 bs).E 7).l ≤ bs.length := by omega
    have HO := Lib.hid (openR hD HRw.out (k := 7) (f := ((hd0 bs).E 7).f) (l := ((hd0 bs).E 7).l) (c := (((hd0 bs).E 7).c : Nat)) (by decide) (by
     have h9 := hE 7 (by decide) (by decide)
     rw [o1, o2] at h9
     exact h9) hfl (by omega))
    have HP0 := Lib.hid (pr_next hy)
    obtain ⟨x, hx⟩ : ∃ x, prA bs 6 = x := ⟨_, rfl⟩
    have hZl : (qOf (hd0 bs).E bs 7).Z.length ≤ 4194304000 := by
     show ((bs.drop _).take _).length ≤ _
     rw [List.length_take, List.length_drop]
     omega
    obtain ⟨q, hq⟩ : ∃ q, qOf (hd0 bs).E bs 7 = q := ⟨_, rfl⟩
    rw [show (⟨7, ((hd0 bs).E 7).f, (bs.drop ((hd0 bs).E 7).f).take ((hd0 bs).E 7).l⟩ : Pt) = q from hq] at HO
    rw [hq] at hZl
    rw [hx] at HO hI hy
    rw [hx] at HP0
    simp only [Nat.reduceAdd, hq] at HP0
    have HIm := Lib.hid hI
    have HE := Lib.hid hE
    have hst : (⟨0, 0, 0, x.sec, x.ad⟩ : D) = startD x := by unfold startD; rw [hy]
    rw [hst] at HO
    obtain ⟨J', s', hse⟩ : ∃ J' s', secD 7 q x.J (startD x) = (J', s') := ⟨_, _, rfl⟩
    have HP : Hid (prA bs 7 = ⟨J', (endD q s').why, (endD q s').sec, (endD q s').ad⟩) := show _ = _ by
     have h9 := HP0.out
     rw [hse] at h9
     exact h9
    have HR : Hid (∀ W p g, Dt B kb (.slice (some ⟨rb, ro, none⟩) bs.length cap) im en q p g w0 (startD x) W → ImD W im x.J → Calls Tryz.prog 53 #[.pointer (some ⟨kb, 0, none⟩)] W fun e w' => e = .returned (.tuple #[]) ∧ ∃ im', ImD w' im' J' ∧ Dt B kb (.slice (some ⟨rb, ro, none⟩) bs.length cap) im' en q p g w0 s' w') := fun W p g hW hJ => by
     have h9 := sec7Q hW hJ
     unfold SecQ at h9
     rw [hse] at h9
     exact h9
    have hx9 : ∀ W, (Instr.index 93 (.agg (funR kb)) (.int .i64 7)).run Tryz.prog W = .ok (.func (.func 53) #[.pointer (some ⟨kb, 0, none⟩)] #[]) W := funR_at7 kb
    clear HI hD hI hE hok o1 o2 o3 o4 o5 hfl HP0 hx hq hst hse hy hZl hN
    go_wp2_with fail
    refine HO.out.mono ?_
    rintro e w1 ⟨rfl, p, g, h1, hf1⟩
    have HR1 := Lib.hid (HR.out _ _ _ h1 (HIm.out.fd hf1))
    clear h1 hf1 HO HR HIm
    go_wp2_with fail
    refine HR1.out.mono ?_
    rintro e w2 ⟨rfl, im', hJ2, h2⟩
    have HJ2 := Lib.hid hJ2
    have HD := Lib.hid h2.drew
    clear hJ2 HR1
    obtain ⟨bb, hbb⟩ : ∃ b, decide (s'.rw = 0 ∧ s'.pos = q.Z.length) = b := ⟨_, rfl⟩
    obtain ⟨ps, hps⟩ : ∃ b, s'.pos = b := ⟨_, rfl⟩
    have hpl := h2.pos_le
    rw [hps] at hpl
    have HpL : Hid (ps ≤ 1099511627776) := hpl
    obtain ⟨sF, hsF⟩ : ∃ t, endD q s' = t := ⟨_, rfl⟩
    have KE : Hid (∀ W, Dt B kb (.slice (some ⟨rb, ro, none⟩) bs.length cap) im' en q p g w2 s' W → Calls Tryz.prog 57 #[.pointer (some ⟨p, 0, none⟩)] W fun e w' => ∃ r : Int, e = .returned (.int .i64 r) ∧ (r == 0) = bb ∧ Dt B kb (.slice (some ⟨rb, ro, none⟩) bs.length cap) im' en q p g w2 s' w') := fun W hW => endX1 hW hbb
    have KA : Hid (∀ W, Dt B kb (.slice (some ⟨rb, ro, none⟩) bs.length cap) im' en q p g w2 s' W → Calls Tryz.prog 58 #[.pointer (some ⟨p, 0, none⟩)] W fun e w' => e = .returned (.int .i64 (ps : Int)) ∧ w' = W) := fun W hW => by rw [← hps]; exact rat_any hW.rd
    have KF : Hid (∀ W, Dt B kb (.slice (some ⟨rb, ro, none⟩) bs.length cap) im' en q p g w2 s' W → Calls Tryz.prog 56 #[.pointer (some ⟨kb, 0, none⟩), .bool bb, .int .i64 (ps : Int)] W fun e w' => e = .returned (.tuple #[]) ∧ Dt B kb (.slice (some ⟨rb, ro, none⟩) bs.length cap) im' en q p g w2 sF w') := fun W hW => by
     have h9 := dformX hW bb (a := ps) HpL.out
     rw [← hsF, endD, hbb, hps]
     exact h9
    have HD2 : Hid (Dt B kb (.slice (some ⟨rb, ro, none⟩) bs.length cap) im' en q p g w2 s' w2.drew) := h2.here.drew
    have HFr : Hid (Fd B w0 w2) := h2.fr
    have c59 := HD2.out.c59
    rw [hsF] at HP
    clear h2 HD hbb hps hpl hsF HpL
    go_wp2_with fail
    go_region_held3 (fun W => W.cell? ⟨kb, 59, none⟩ = some (.pointer (some ⟨p, 0, none⟩))) (first | (with_reducible assumption) | go_keep) (first | (go_at_call 57; refine (KE.out _ HD2.out).mono ?_; rintro e y1 ⟨r, rfl, hr, h1⟩; have HX := Lib.hid h1; have a59 := h1.c59; clear h1) | (go_at_call 58; (first | (refine (KA.out _ HX.out).mono ?_) | (refine (KA.out _ HD2.out).mono ?_)); rintro e y2 ⟨rfl, h9⟩; subst h9) | (go_at_call 56; refine (KF.out _ HX.out).mono ?_; rintro e y3 ⟨rfl, h3⟩; have HY := Lib.hid h3; have b59 := h3.c59; clear h3))
    all_goals
     have c62 := HY.out.c62
     obtain ⟨wy, hwy⟩ : ∃ t, sF.why = t := ⟨_, rfl⟩
     rw [hwy] at c62
     by_cases hw0 : wy = 0
     ·subst hw0
      have HF := Lib.hid (atI_next HP.out hwy HE.out ((HJ2.out.fd HY.out.fr)) (HY.out.since HFr.out).dn)
      clear HP HY HE HX HD2 KE KA KF a59 b59 c59 hwy HFr HJ2
      go_wp2_with fail
      go_roundw
      case rel => exact ⟨8, by decide, rfl, HF⟩
      case measure => simp [intOf]
     ·have HF := Lib.hid (allQ_of HSz.out (by decide) HP.out (show sF.why ≠ 0 from fun e => hw0 (hwy.symm.trans e)) (HY.out.since HFr.out).dn)
      clear HP HY HE HX HD2 KE KA KF a59 b59 c59 hwy HFr HJ2
      go_wp2_with fail
      refine bodyPost_ret (results_none rfl _ _ _) rfl ?_
      exact ⟨rfl, HF.out⟩
   ·-- part 8: tables
    obtain ⟨hy, im, en, pt, pv, hE, hI, hD⟩ : (prA bs 7).why = 0 ∧ ∃ im en pt pv, EnR en (hd0 bs).E ∧ ImD wr im (prA bs 7).J ∧ Dn B kb (.slice (some ⟨rb, ro, none⟩) bs.length cap) im en pt pv w0 0 (prA bs 7).sec (prA bs 7).ad wr := by
     rcases HI.out with ⟨h, _⟩ | ⟨_, h⟩
     ·cases h
     ·exact h
    obtain ⟨hN, hok⟩ := head_ok (pr_zero hy)
    obtain ⟨o1, o2, o3, o4, o5⟩ := ok_end (k := 8) (by decide) (by decide) (hok 8 (by decide) (by decide))
    have hfl : ((hd0 bs).E 8).f + ((hd0 bs).E 8).l ≤ bs.length := by omega
    have HO := Lib.hid (openR hD HRw.out (k := 8) (f := ((hd0 bs).E 8).f) (l := ((hd0 bs).E 8).l) (c := (((hd0 bs).E 8).c : Nat)) (by decide) (by
     have h9 := hE 8 (by decide) (by decide)
     rw [o1, o2] at h9
     exact h9) hfl (by omega))
    have HP0 := Lib.hid (pr_next hy)
    obtain ⟨x, hx⟩ : ∃ x, prA bs 7 = x := ⟨_, rfl⟩
    have hZl : (qOf (hd0 bs).E bs 8).Z.length ≤ 4194304000 := by
     show ((bs.drop _).take _).length ≤ _
     rw [List.length_take, List.length_drop]
     omega
    obtain ⟨q, hq⟩ : ∃ q, qOf (hd0 bs).E bs 8 = q := ⟨_, rfl⟩
    rw [show (⟨8, ((hd0 bs).E 8).f, (bs.drop ((hd0 bs).E 8).f).take ((hd0 bs).E 8).l⟩ : Pt) = q from hq] at HO
    rw [hq] at hZl
    rw [hx] at HO hI hy
    rw [hx] at HP0
    simp only [Nat.reduceAdd, hq] at HP0
    have HIm := Lib.hid hI
    have HE := Lib.hid hE
    have hst : (⟨0, 0, 0, x.sec, x.ad⟩ : D) = startD x := by unfold startD; rw [hy]
    rw [hst] at HO
    obtain ⟨J', s', hse⟩ : ∃ J' s', secD 8 q x.J (startD x) = (J', s') := ⟨_, _, rfl⟩
    have HP : Hid (prA bs 8 = ⟨J', (endD q s').why, (endD q s').sec, (endD q s').ad⟩) := show _ = _ by
     have h9 := HP0.out
     rw [hse] at h9
     exact h9
    have HR : Hid (∀ W p g, Dt B kb (.slice (some ⟨rb, ro, none⟩) bs.length cap) im en q p g w0 (startD x) W → ImD W im x.J → Calls Tryz.prog 54 #[.pointer (some ⟨kb, 0, none⟩)] W fun e w' => e = .returned (.tuple #[]) ∧ ∃ im', ImD w' im' J' ∧ Dt B kb (.slice (some ⟨rb, ro, none⟩) bs.length cap) im' en q p g w0 s' w') := fun W p g hW hJ => by
     have h9 := sec8Q hW hJ hZl
     unfold SecQ at h9
     rw [hse] at h9
     exact h9
    have hx9 : ∀ W, (Instr.index 93 (.agg (funR kb)) (.int .i64 8)).run Tryz.prog W = .ok (.func (.func 54) #[.pointer (some ⟨kb, 0, none⟩)] #[]) W := funR_at8 kb
    clear HI hD hI hE hok o1 o2 o3 o4 o5 hfl HP0 hx hq hst hse hy hZl hN
    go_wp2_with fail
    refine HO.out.mono ?_
    rintro e w1 ⟨rfl, p, g, h1, hf1⟩
    have HR1 := Lib.hid (HR.out _ _ _ h1 (HIm.out.fd hf1))
    clear h1 hf1 HO HR HIm
    go_wp2_with fail
    refine HR1.out.mono ?_
    rintro e w2 ⟨rfl, im', hJ2, h2⟩
    have HJ2 := Lib.hid hJ2
    have HD := Lib.hid h2.drew
    clear hJ2 HR1
    obtain ⟨bb, hbb⟩ : ∃ b, decide (s'.rw = 0 ∧ s'.pos = q.Z.length) = b := ⟨_, rfl⟩
    obtain ⟨ps, hps⟩ : ∃ b, s'.pos = b := ⟨_, rfl⟩
    have hpl := h2.pos_le
    rw [hps] at hpl
    have HpL : Hid (ps ≤ 1099511627776) := hpl
    obtain ⟨sF, hsF⟩ : ∃ t, endD q s' = t := ⟨_, rfl⟩
    have KE : Hid (∀ W, Dt B kb (.slice (some ⟨rb, ro, none⟩) bs.length cap) im' en q p g w2 s' W → Calls Tryz.prog 57 #[.pointer (some ⟨p, 0, none⟩)] W fun e w' => ∃ r : Int, e = .returned (.int .i64 r) ∧ (r == 0) = bb ∧ Dt B kb (.slice (some ⟨rb, ro, none⟩) bs.length cap) im' en q p g w2 s' w') := fun W hW => endX1 hW hbb
    have KA : Hid (∀ W, Dt B kb (.slice (some ⟨rb, ro, none⟩) bs.length cap) im' en q p g w2 s' W → Calls Tryz.prog 58 #[.pointer (some ⟨p, 0, none⟩)] W fun e w' => e = .returned (.int .i64 (ps : Int)) ∧ w' = W) := fun W hW => by rw [← hps]; exact rat_any hW.rd
    have KF : Hid (∀ W, Dt B kb (.slice (some ⟨rb, ro, none⟩) bs.length cap) im' en q p g w2 s' W → Calls Tryz.prog 56 #[.pointer (some ⟨kb, 0, none⟩), .bool bb, .int .i64 (ps : Int)] W fun e w' => e = .returned (.tuple #[]) ∧ Dt B kb (.slice (some ⟨rb, ro, none⟩) bs.length cap) im' en q p g w2 sF w') := fun W hW => by
     have h9 := dformX hW bb (a := ps) HpL.out
     rw [← hsF, endD, hbb, hps]
     exact h9
    have HD2 : Hid (Dt B kb (.slice (some ⟨rb, ro, none⟩) bs.length cap) im' en q p g w2 s' w2.drew) := h2.here.drew
    have HFr : Hid (Fd B w0 w2) := h2.fr
    have c59 := HD2.out.c59
    rw [hsF] at HP
    clear h2 HD hbb hps hpl hsF HpL
    go_wp2_with fail
    go_region_held3 (fun W => W.cell? ⟨kb, 59, none⟩ = some (.pointer (some ⟨p, 0, none⟩))) (first | (with_reducible assumption) | go_keep) (first | (go_at_call 57; refine (KE.out _ HD2.out).mono ?_; rintro e y1 ⟨r, rfl, hr, h1⟩; have HX := Lib.hid h1; have a59 := h1.c59; clear h1) | (go_at_call 58; (first | (refine (KA.out _ HX.out).mono ?_) | (refine (KA.out _ HD2.out).mono ?_)); rintro e y2 ⟨rfl, h9⟩; subst h9) | (go_at_call 56; refine (KF.out _ HX.out).mono ?_; rintro e y3 ⟨rfl, h3⟩; have HY := Lib.hid h3; have b59 := h3.c59; clear h3))
    all_goals
     have c62 := HY.out.c62
     obtain ⟨wy, hwy⟩ : ∃ t, sF.why = t := ⟨_, rfl⟩
     rw [hwy] at c62
     by_cases hw0 : wy = 0
     ·subst hw0
      have HF := Lib.hid (atI_next HP.out hwy HE.out ((HJ2.out.fd HY.out.fr)) (HY.out.since HFr.out).dn)
      clear HP HY HE HX HD2 KE KA KF a59 b59 c59 hwy HFr HJ2
      go_wp2_with fail
      go_roundw
      case rel => exact ⟨9, by decide, rfl, HF⟩
      case measure => simp [intOf]
     ·have HF := Lib.hid (allQ_of HSz.out (by decide) HP.out (show sF.why ≠ 0 from fun e => hw0 (hwy.symm.trans e)) (HY.out.since HFr.out).dn)
      clear HP HY HE HX HD2 KE KA KF a59 b59 c59 hwy HFr HJ2
      go_wp2_with fail
      refine bodyPost_ret (results_none rfl _ _ _) rfl ?_
      exact ⟨rfl, HF.out⟩
end
end Go.Proofs.YtnifefmfhjfbnaaGreatDoor
/- Bundle: bytes that are taken are those of the image that is told. Plain. Own work. -/
namespace Go.Proofs.YtnifefmfhjfbnaaGreatDoor
open Bn Dc
set_option linter.unusedVariables false
set_option linter.unusedSimpArgs false
namespace Dc
theorem beg_mod (k a : Nat) : begN k a % 8 = 0 ∧ (k = 8 → begN k a % 4096 = 0) := by
 unfold begN upN
 by_cases e : k = 8
 ·rw [if_pos e]
  split <;> omega
 ·rw [if_neg e]
  split <;> omega
/-- a part more -/
theorem st_next (I : Im) (k : Nat) : (stN I (k + 1)).1 = (stN I k).1 ++ (bz (fstN I k - (stN I k).1.length) ++ secB I k) ∧ ((stN I (k + 1)).2 = 0 ↔ (stN I k).2 = 0 ∧ fitK I k) := by
 have h8 : (zerosS (begN k (stN I k).1.length - (stN I k).1.length) (stN I k)).1.length % 8 = 0 := by
  rw [zeros_len]
  have := beg_le k (stN I k).1.length
  have := (beg_mod k (stN I k).1.length).1
  omega
 obtain ⟨h1, h2⟩ := sec_lay I k _ h8
 refine ⟨?_, ?_⟩
 ·rw [stN, h1, zeros1, List.append_assoc]
  rfl
 ·rw [stN, h2, zeros2]
theorem seal_rw {E : Nat → En} {bs : List Nat} {s : D} : ∀ k, (sealS E bs k s).rw = s.rw ∧ (sealS E bs k s).pos = s.pos := by
 have ka : ∀ (b : Bool) (no sec ad : Int) (t : D), (askD b no sec ad t).rw = t.rw ∧ (askD b no sec ad t).pos = t.pos := fun b no sec ad t => by
  unfold askD
  split <;> exact ⟨rfl, rfl⟩
 have kz : ∀ (k e0 : Nat) (t : D) (j : Nat), (zsS bs k e0 j t).rw = t.rw ∧ (zsS bs k e0 j t).pos = t.pos := fun k e0 t j => by
  induction j with
  | zero => exact ⟨rfl, rfl⟩
  | succ j ih => rw [zsS]; exact ⟨(ka _ _ _ _ _).1.trans ih.1, (ka _ _ _ _ _).2.trans ih.2⟩
 intro k
 induction k with
 | zero => exact ⟨rfl, rfl⟩
 | succ k ih => rw [sealS]; exact ⟨((ka _ _ _ _ _).1.trans (kz _ _ _ _).1).trans ih.1, ((ka _ _ _ _ _).2.trans (kz _ _ _ _).2).trans ih.2⟩
theorem ask_rw (b : Bool) (no sec ad : Int) (t : D) : (askD b no sec ad t).rw = t.rw ∧ (askD b no sec ad t).pos = t.pos := by
 unfold askD
 split <;> exact ⟨rfl, rfl⟩
theorem dir_rw {E : Nat → En} {N : Nat} {s : D} : ∀ k, (dirS E N k s).rw = s.rw ∧ (dirS E N k s).pos = s.pos
 | 0 => ⟨rfl, rfl⟩
 | k + 1 => by rw [dirS]; exact ⟨(ask_rw _ _ _ _ _).1.trans (dir_rw k).1, (ask_rw _ _ _ _ _).2.trans (dir_rw k).2⟩
theorem asks_rw {bs : List Nat} {x : Hd} {s : D} : (asksD bs x s).rw = s.rw ∧ (asksD bs x s).pos = s.pos := by
 unfold asksD
 refine ⟨?_, ?_⟩
 ·rw [(ask_rw _ _ _ _ _).1, (ask_rw _ _ _ _ _).1, (ask_rw _ _ _ _ _).1, (ask_rw _ _ _ _ _).1, (ask_rw _ _ _ _ _).1, (ask_rw _ _ _ _ _).1, (ask_rw _ _ _ _ _).1, (ask_rw _ _ _ _ _).1, (ask_rw _ _ _ _ _).1]
 ·rw [(ask_rw _ _ _ _ _).2, (ask_rw _ _ _ _ _).2, (ask_rw _ _ _ _ _).2, (ask_rw _ _ _ _ _).2, (ask_rw _ _ _ _ _).2, (ask_rw _ _ _ _ _).2, (ask_rw _ _ _ _ _).2, (ask_rw _ _ _ _ _).2, (ask_rw _ _ _ _ _).2]
theorem head_rw (bs : List Nat) : (headS bs).rw = (hd0 bs).s.rw ∧ (headS bs).pos = (hd0 bs).s.pos := ⟨((seal_rw 8).1.trans (dir_rw 8).1).trans asks_rw.1, ((seal_rw 8).2.trans (dir_rw 8).2).trans asks_rw.2⟩
/-- an entry's bytes -/
def enB (x : En) : List Nat := Pl.le 2 x.a ++ (Pl.le 2 x.b ++ (Pl.le 4 x.f ++ (Pl.le 4 x.l ++ Pl.le 4 x.c)))
theorem enB_len (x : En) : (enB x).length = 16 := by simp [enB, Pl.le_length]
theorem ent_snd {q : Pt} {s : D} (hq : Sb q) (h : Ok (entD q s).2) : Ok s ∧ (entD q s).2 = fw s 16 ∧ Ah q s (enB (entD q s).1) := by
 obtain ⟨g4, v5, e5, o5, a5⟩ := take_snd hq (show Ok (takeD q 4 (takeD q 4 (takeD q 4 (takeD q 2 (takeD q 2 s).2).2).2).2).2 from h)
 obtain ⟨g3, v4, e4, o4, a4⟩ := take_snd hq g4
 obtain ⟨g2, v3, e3, o3, a3⟩ := take_snd hq g3
 obtain ⟨g1, v2, e2, o2, a2⟩ := take_snd hq g2
 obtain ⟨g0, v1, e1, o1, a1⟩ := take_snd hq g1
 rw [e1] at e2 a2 e3 a3 e4 a4 e5 a5
 dsimp only at e2 a2 e3 a3 e4 a4 e5 a5
 rw [e2] at e3 a3 e4 a4 e5 a5
 dsimp only at e3 a3 e4 a4 e5 a5
 rw [e3] at e4 a4 e5 a5
 dsimp only at e4 a4 e5 a5
 rw [e4] at e5 a5
 dsimp only at e5 a5
 have hE : entD q s = (⟨v1, v2, v3, v4, v5⟩, fw s 16) := by
  simp only [entD, e1, e2, e3, e4, e5]
  simp only [fw_fw]
 rw [hE]
 exact ⟨g0, rfl, a1.app (by rw [Pl.le_length]; exact a2.app (by rw [Pl.le_length]; exact a3.app (by rw [Pl.le_length]; exact a4.app (by rw [Pl.le_length]; exact a5))))⟩
/-- entries, one behind the other -/
def ensB (E : Nat → En) : Nat → List Nat
 | 0 => []
 | k + 1 => ensB E k ++ enB (E (k + 1))
theorem ensB_len (E : Nat → En) : ∀ k, (ensB E k).length = 16 * k
 | 0 => rfl
 | k + 1 => by rw [ensB, List.length_append, ensB_len E k, enB_len]; omega
theorem ents_snd {q : Pt} {s : D} (hq : Sb q) (hle : s.pos ≤ q.Z.length) : ∀ k, Ok (entS q s k) → Ok s ∧ entS q s k = fw s (16 * k) ∧ Ah q s (ensB (entE q s) k)
 | 0, h => by
  have h0 : Ok s := h
  exact ⟨h0, (fw_zero h0.2).symm, h0.2, hle, q.Z.drop s.pos, rfl⟩
 | k + 1, h => by
  obtain ⟨h1, h2, h3⟩ := ent_snd hq (show Ok (entD q (entS q s k)).2 from h)
  obtain ⟨g1, g2, g3⟩ := ents_snd hq hle k h1
  refine ⟨g1, ?_, ?_⟩
  ·show (entD q (entS q s k)).2 = _
   rw [h2, g2, fw_fw, Nat.mul_succ]
  ·rw [ensB]
   refine g3.app ?_
   rw [ensB_len, ← g2]
   exact h3
/-- the header's bytes -/
def hxB (x : Hd) (E : Nat → En) : List Nat := x.T ++ (Pl.le 2 x.n1 ++ (Pl.le 2 x.n2 ++ (Pl.le 4 x.cnt ++ (Pl.le 8 x.base ++ (ensB E 8 ++ (Pl.le 4 x.sm ++ Pl.le 4 x.zr))))))
theorem hd_snd {q : Pt} {s : D} (hq : Sb q) (h : Ok (hdD q s).s) : Ok s ∧ (hdD q s).x.T.length = 8 ∧ (hdD q s).s = fw s 160 ∧ Ah q s (hxB (hdD q s).x (hdD q s).E) ∧ (hdD q s).x.base < 256 ^ 8 := by
 unfold hdD at h
 dsimp only at h
 obtain ⟨g7, v8, e8, o8, a8⟩ := take_snd hq h
 obtain ⟨g6, v7, e7, o7, a7⟩ := take_snd hq g7
 have kE : ∀ k t, Ok (entS q t k) → Ok t := fun k => by
  induction k with
  | zero => intro t h; exact h
  | succ k ih => intro t h; exact ih t (ent_snd hq (show Ok (entD q (entS q t k)).2 from h)).1
 have g5 := kE _ _ g6
 obtain ⟨g4, v5, e5, o5, a5⟩ := take_snd hq g5
 obtain ⟨g3, v4, e4, o4, a4⟩ := take_snd hq g4
 obtain ⟨g2, v3, e3, o3, a3⟩ := take_snd hq g3
 obtain ⟨g1, v2, e2, o2, a2⟩ := take_snd hq g2
 obtain ⟨g0, l, e1, o1, a1, _⟩ := bytes_snd hq g1
 rw [e1] at e2 a2 e3 a3 e4 a4 e5 a5 e7 a7 e8 a8 g6
 dsimp only at e2 a2 e3 a3 e4 a4 e5 a5 e7 a7 e8 a8 g6
 rw [e2] at e3 a3 e4 a4 e5 a5 e7 a7 e8 a8 g6
 dsimp only at e3 a3 e4 a4 e5 a5 e7 a7 e8 a8 g6
 rw [e3] at e4 a4 e5 a5 e7 a7 e8 a8 g6
 dsimp only at e4 a4 e5 a5 e7 a7 e8 a8 g6
 rw [e4] at e5 a5 e7 a7 e8 a8 g6
 dsimp only at e5 a5 e7 a7 e8 a8 g6
 rw [e5] at e7 a7 e8 a8 g6
 dsimp only at e7 a7 e8 a8 g6
 obtain ⟨_, e6, a6⟩ := ents_snd hq (by have := a5.pos; rw [Pl.le_length] at this; exact this) 8 g6
 rw [e6] at e7 a7 e8 a8
 rw [e7] at e8 a8
 dsimp only at e8 a8
 have hE : hdD q s = ⟨⟨l, v2, v3, v4, v5, v7, v8⟩, entE q (fw (fw (fw (fw (fw s 8) 2) 2) 4) 8), fw s 160⟩ := by
  simp only [hdD, e1, e2, e3, e4, e5, e6, e7, e8]
  simp only [fw_fw]
 rw [hE]
 refine ⟨g0, o1, rfl, ?_, o5⟩
 show Ah q s (l ++ (Pl.le 2 v2 ++ (Pl.le 2 v3 ++ (Pl.le 4 v4 ++ (Pl.le 8 v5 ++ (ensB (entE q (fw (fw (fw (fw (fw s 8) 2) 2) 4) 8)) 8 ++ (Pl.le 4 v7 ++ Pl.le 4 v8)))))))
 exact a1.app (by rw [o1]; exact a2.app (by rw [Pl.le_length]; exact a3.app (by rw [Pl.le_length]; exact a4.app (by rw [Pl.le_length]; exact a5.app (by rw [Pl.le_length]; exact a6.app (by rw [ensB_len]; exact a7.app (by rw [Pl.le_length]; exact a8)))))))
/-- what later sections leave of an earlier one -/
theorem sec_keep {k j : Nat} (h1 : 1 ≤ k) (h8 : k ≤ 8) (hj : j < k) (q : Pt) (J : Im) (s : D) : secB (secD k q J s).1 j = secB J j ∧ (fitK (secD k q J s).1 j ↔ fitK J j) ∧ (kindK (secD k q J s).1 j ↔ kindK J j) := by
 rcases (by omega : k = 1 ∨ k = 2 ∨ k = 3 ∨ k = 4 ∨ k = 5 ∨ k = 6 ∨ k = 7 ∨ k = 8) with rfl | rfl | rfl | rfl | rfl | rfl | rfl | rfl
 ·obtain rfl : j = 0 := by omega
  exact ⟨rfl, Iff.rfl, Iff.rfl⟩
 ·rcases (by omega : j = 0 ∨ j = 1) with rfl | rfl <;> exact ⟨rfl, Iff.rfl, Iff.rfl⟩
 ·rcases (by omega : j = 0 ∨ j = 1 ∨ j = 2) with rfl | rfl | rfl <;> exact ⟨rfl, Iff.rfl, Iff.rfl⟩
 ·rcases (by omega : j = 0 ∨ j = 1 ∨ j = 2 ∨ j = 3) with rfl | rfl | rfl | rfl <;> exact ⟨rfl, Iff.rfl, Iff.rfl⟩
 ·rcases (by omega : j = 0 ∨ j = 1 ∨ j = 2 ∨ j = 3 ∨ j = 4) with rfl | rfl | rfl | rfl | rfl <;> exact ⟨rfl, Iff.rfl, Iff.rfl⟩
 ·rcases (by omega : j = 0 ∨ j = 1 ∨ j = 2 ∨ j = 3 ∨ j = 4 ∨ j = 5) with rfl | rfl | rfl | rfl | rfl | rfl <;> exact ⟨rfl, Iff.rfl, Iff.rfl⟩
 ·rcases (by omega : j = 0 ∨ j = 1 ∨ j = 2 ∨ j = 3 ∨ j = 4 ∨ j = 5 ∨ j = 6) with rfl | rfl | rfl | rfl | rfl | rfl | rfl <;> exact ⟨rfl, Iff.rfl, Iff.rfl⟩
 ·rcases (by omega : j = 0 ∨ j = 1 ∨ j = 2 ∨ j = 3 ∨ j = 4 ∨ j = 5 ∨ j = 6 ∨ j = 7) with rfl | rfl | rfl | rfl | rfl | rfl | rfl | rfl <;> exact ⟨rfl, Iff.rfl, Iff.rfl⟩
theorem sec_base (k : Nat) (q : Pt) (J : Im) (s : D) : (secD k q J s).1.base = J.base := by
 unfold secD
 split <;> rfl
theorem pr_down {bs : List Nat} {k : Nat} (h : (prA bs k).why = 0) : ∀ j, j ≤ k → (prA bs j).why = 0 := fun j hj => by
 by_cases e : (prA bs j).why = 0
 ·exact e
 ·rw [show prA bs k = prA bs j from partsA_stop e k hj] at h
  exact absurd h e
theorem q_small {bs : List Nat} (hb : ∀ z ∈ bs, z < 256) (E : Nat → En) (k : Nat) : Sb (qOf E bs k) := fun z hz => hb z (List.mem_of_mem_drop (List.mem_of_mem_take hz))
theorem qOf_len {E : Nat → En} {bs : List Nat} {k : Nat} (h : (E k).f + (E k).l ≤ bs.length) : (qOf E bs k).Z.length = (E k).l := by
 unfold qOf
 dsimp only
 rw [List.length_take, List.length_drop]
 omega
theorem qOf_Z (E : Nat → En) (bs : List Nat) (k : Nat) : (qOf E bs k).Z = (bs.drop (E k).f).take (E k).l := rfl
/-- all sections that are taken -/
theorem pr_snd {bs : List Nat} (hb : ∀ z ∈ bs, z < 256) {k : Nat} (h8 : k ≤ 8) (h : (prA bs k).why = 0) : (prA bs k).J.base = (hd0 bs).x.base ∧ ∀ j, 1 ≤ j → j ≤ k → fitK (prA bs k).J j ∧ kindK (prA bs k).J j ∧ (qOf (hd0 bs).E bs j).Z = secB (prA bs k).J j := by
 induction k with
 | zero => exact ⟨rfl, fun j h1 h2 => by omega⟩
 | succ k ih =>
  have hk := pr_down h k (by omega)
  obtain ⟨i1, i2⟩ := ih (by omega) hk
  have hP := pr_next hk
  obtain ⟨hN, hok⟩ := head_ok (pr_zero hk)
  rw [hP] at h
  obtain ⟨e1, e2, e3⟩ := end_zero h
  rw [hP]
  dsimp only
  refine ⟨(sec_base _ _ _ _).trans i1, fun j h1 h2 => ?_⟩
  by_cases e : j = k + 1
  ·subst e
   refine sec_snd (q_small hb _ _) (by omega) h8 rfl ⟨e1, e2⟩ e3 (fun e => ?_)
   obtain ⟨o1, o2, o3, o4, o5⟩ := ok_end (k := k + 1) (by omega) (by omega) (hok (k + 1) (by omega) (by omega))
   rw [qOf_len (by omega)]
   have h9 := (asks_zero (dirS_ok 8 (seal_zero 8 (end_zero (pr_zero hk)).1)).1).2.2.2.2.2.2.2.1
   have hm := (beg_mod (k + 1) (endN (hd0 bs).E bs.length (k + 1 - 1))).2 e
   rw [← o3] at hm
   have he : endN (hd0 bs).E bs.length (k + 1) = bs.length := by rw [endN, if_pos (by omega)]
   omega
  ·obtain ⟨a, b, c⟩ := i2 j h1 (by omega)
   obtain ⟨k1, k2, k3⟩ := sec_keep (k := k + 1) (j := j) (by omega) h8 (by omega) (qOf (hd0 bs).E bs (k + 1)) (prA bs k).J (startD (prA bs k))
   exact ⟨k2.2 a, k3.2 b, by rw [k1]; exact c⟩
theorem seal_each {E : Nat → En} {bs : List Nat} {s : D} : ∀ k, (sealS E bs k s).why = 0 → ∀ j, 1 ≤ j → j ≤ k → Pl.crc ((bs.drop (E j).f).take (E j).l) = (E j).c ∧ ∀ i, i < (E j).f - endN E bs.length (j - 1) → bs.getD (endN E bs.length (j - 1) + i) 0 = 0
 | 0, _, j, h1, h2 => by omega
 | k + 1, h, j, h1, h2 => by
  rw [sealS] at h
  obtain ⟨a, b⟩ := ask_zero' (by decide) h
  obtain ⟨c, d⟩ := zs_zero _ b
  by_cases e : j = k + 1
  ·subst e
   exact ⟨of_decide_eq_true a, d⟩
  ·exact seal_each k c j h1 (by omega)
theorem zeros_of {bs : List Nat} {e n : Nat} (hl : e + n ≤ bs.length) (h : ∀ i, i < n → bs.getD (e + i) 0 = 0) : (bs.drop e).take n = bz n := by
 apply List.ext_getElem
 ·rw [List.length_take, List.length_drop, bz_len]; omega
 ·intro i h1 h2
  rw [bz_len] at h2
  rw [List.getElem_take, List.getElem_drop]
  have := h i h2
  rw [List.getD_eq_getElem?_getD, List.getElem?_eq_getElem (by omega)] at this
  simp only [Option.getD_some] at this
  rw [this]
  simp [bz]
theorem take_next (bs : List Nat) {a b c : Nat} (h1 : a ≤ b) (h2 : b ≤ c) : (bs.drop a).take (c - a) = (bs.drop a).take (b - a) ++ (bs.drop b).take (c - b) := by
 rw [show c - a = (b - a) + (c - b) by omega, List.take_add, List.drop_drop, show a + (b - a) = b by omega]
/-- what the image that is told lays down -/
theorem stp_snd {bs : List Nat} (hb : ∀ z ∈ bs, z < 256) (h : (prA bs 8).why = 0) (h160 : 160 ≤ bs.length) : ∀ k, k ≤ 8 → (stN (prA bs 8).J (k + 1)).1 = bz 160 ++ (bs.drop 160).take (endN (hd0 bs).E bs.length k - 160) ∧ (stN (prA bs 8).J (k + 1)).2 = 0 ∧ 160 ≤ endN (hd0 bs).E bs.length k ∧ endN (hd0 bs).E bs.length k ≤ bs.length ∧ (stN (prA bs 8).J (k + 1)).1.length = endN (hd0 bs).E bs.length k := by
 obtain ⟨hN, hok⟩ := head_ok (pr_zero h)
 obtain ⟨hB, hS⟩ := pr_snd hb (Nat.le_refl 8) h
 have hsl := (end_zero (pr_zero h)).1
 have ha := asks_zero (dirS_ok 8 (seal_zero 8 hsl)).1
 intro k
 induction k with
 | zero =>
  intro _
  obtain ⟨s1, s2⟩ := st_next (prA bs 8).J 0
  have e0 : (stN (prA bs 8).J 1).1 = bz 160 := s1
  refine ⟨?_, ?_, Nat.le_refl _, h160, ?_⟩
  ·rw [e0]
   show bz 160 = bz 160 ++ (bs.drop 160).take (160 - 160)
   simp
  ·rw [s2]
   exact ⟨rfl, by show (prA bs 8).J.base % 4096 = 0; rw [hB]; exact ha.2.2.2.2.2.2.2.2⟩
  ·rw [e0, bz_len]
   rfl
 | succ k ih =>
  intro hk
  obtain ⟨i1, i2, i3, i4, i5⟩ := ih (by omega)
  obtain ⟨s1, s2⟩ := st_next (prA bs 8).J (k + 1)
  obtain ⟨f1, f2, f3⟩ := hS (k + 1) (by omega) hk
  obtain ⟨o1, o2, o3, o4, o5⟩ := ok_end (k := k + 1) (by omega) hk (hok (k + 1) (by omega) hk)
  obtain ⟨c1, c2⟩ := seal_each 8 hsl (k + 1) (by omega) hk
  rw [Nat.add_sub_cancel] at o3 c2
  have hf : fstN (prA bs 8).J (k + 1) = ((hd0 bs).E (k + 1)).f := by rw [fstN, i5, o3]
  have hbl := beg_le (k + 1) (endN (hd0 bs).E bs.length k)
  rw [← o3] at hbl
  have hz := zeros_of (bs := bs) (e := endN (hd0 bs).E bs.length k) (n := ((hd0 bs).E (k + 1)).f - endN (hd0 bs).E bs.length k) (by omega) c2
  have hq : (bs.drop ((hd0 bs).E (k + 1)).f).take ((hd0 bs).E (k + 1)).l = secB (prA bs 8).J (k + 1) := (qOf_Z _ _ _).symm.trans f3
  have hA : (stN (prA bs 8).J (k + 1 + 1)).1 = bz 160 ++ (bs.drop 160).take (endN (hd0 bs).E bs.length (k + 1) - 160) := by
   rw [s1, hf, i5, ← hz, ← hq, i1, List.append_assoc]
   refine congrArg (fun l => bz 160 ++ l) ?_
   rw [take_next bs (a := 160) (b := endN (hd0 bs).E bs.length k) (c := endN (hd0 bs).E bs.length (k + 1)) i3 (by omega), take_next bs (a := endN (hd0 bs).E bs.length k) (b := ((hd0 bs).E (k + 1)).f) (c := endN (hd0 bs).E bs.length (k + 1)) hbl.2 (by omega)]
   rw [show endN (hd0 bs).E bs.length (k + 1) - ((hd0 bs).E (k + 1)).f = ((hd0 bs).E (k + 1)).l by omega]
  refine ⟨hA, s2.2 ⟨i2, f1⟩, by omega, o5, ?_⟩
  rw [hA, List.length_append, bz_len, List.length_take, List.length_drop]
  omega
/-- ONE SPELLING -/
theorem forth_all {bs : List Nat} (hb : ∀ z ∈ bs, z < 256) (h : (decA bs).why = 0) : ImK (decA bs).J ∧ (sizeF (decA bs).J).2 = 0 ∧ encF (decA bs).J = bs ∧ bs.length ≤ 4194304 := by
 have h160 : 160 ≤ bs.length := by
  by_cases e : bs.length < 160
  ·rw [decA, if_pos e] at h
   exact absurd h (show ¬ (10 : Int) = 0 by decide)
  ·omega
 rw [dec_all h160] at h ⊢
 obtain ⟨hN, hok⟩ := head_ok (pr_zero h)
 obtain ⟨hB, hS⟩ := pr_snd hb (Nat.le_refl 8) h
 obtain ⟨hsl, hr1, hr2⟩ := end_zero (pr_zero h)
 have ha := asks_zero (dirS_ok 8 (seal_zero 8 hsl)).1
 obtain ⟨k1, k2, k3, k4, k5⟩ := stp_snd hb h h160 8 (Nat.le_refl 8)
 have he8 : endN (hd0 bs).E bs.length 8 = bs.length := rfl
 rw [he8] at k1 k5
 have hzs : (stN (prA bs 8).J 9).1.drop 160 = bs.drop 160 := by
  rw [k1, List.drop_left' (bz_len 160), List.take_of_length_le (by rw [List.length_drop]; exact Nat.le_refl _)]
 have hq : Sb (hq bs) := fun z hz => hb z (List.mem_of_mem_drop (List.mem_of_mem_take hz))
 have hZl : (Dc.hq bs).Z.length = 160 := by
  show ((bs.drop 0).take 160).length = 160
  rw [List.length_take, List.length_drop]; omega
 have hOk : Ok (hd0 bs).s := ⟨ha.1, (head_rw bs).1.symm.trans hr1⟩
 obtain ⟨_, hT, hs, hA, hbase⟩ := hd_snd hq hOk
 have hlen : (hxB (hd0 bs).x (hd0 bs).E).length = 160 := by
  simp only [hxB, List.length_append, Pl.le_length, ensB_len]
  rw [show (hd0 bs).x.T.length = 8 from hT]
 have hW : (Dc.hq bs).Z = hxB (hd0 bs).x (hd0 bs).E := hA.whole rfl (by rw [hZl]; show 0 + (hxB (hd0 bs).x (hd0 bs).E).length = 160; rw [hlen])
 have hW2 : bs.take 160 = hxB (hd0 bs).x (hd0 bs).E := hW
 have hK : ImK (prA bs 8).J := ⟨by rw [hB]; have : (hd0 bs).x.base < 256 ^ 8 := hbase; omega, (hS 1 (by decide) (by decide)).2.1.1, (hS 1 (by decide) (by decide)).2.1.2, (hS 4 (by decide) (by decide)).2.1, (hS 8 (by decide) (by decide)).2.1⟩
 have hsz : sizeF (prA bs 8).J = ((((stN (prA bs 8).J 9).1.length / 4096 : Nat) : Int), 0) := by
  rw [sizeF, if_neg (fun e => e k2), if_neg (by rw [k5]; omega)]
 refine ⟨hK, by rw [hsz], ?_, hN⟩
 have hent : ∀ j, 1 ≤ j → j ≤ 8 → enB ((hd0 bs).E j) = entB j (fstN (prA bs 8).J j) (lenN (prA bs 8).J j) (Pl.crc (secZ (prA bs 8).J (stN (prA bs 8).J 9).1 j)) := fun j h1 h2 => by
  obtain ⟨i, rfl⟩ : ∃ i, j = i + 1 := ⟨j - 1, by omega⟩
  obtain ⟨m1, m2, m3, m4, m5⟩ := stp_snd hb h h160 i (by omega)
  obtain ⟨n1, n2, n3, n4, n5⟩ := stp_snd hb h h160 (i + 1) h2
  obtain ⟨o1, o2, o3, o4, o5⟩ := ok_end (k := i + 1) (by omega) h2 (hok (i + 1) (by omega) h2)
  obtain ⟨c1, c2⟩ := seal_each 8 hsl (i + 1) (by omega) h2
  rw [Nat.add_sub_cancel] at o3
  have hf : fstN (prA bs 8).J (i + 1) = ((hd0 bs).E (i + 1)).f := by rw [fstN, m5, o3]
  have hl : lenN (prA bs 8).J (i + 1) = ((hd0 bs).E (i + 1)).l := by rw [lenN, n5, hf]; omega
  have hbl := beg_le (i + 1) (endN (hd0 bs).E bs.length i)
  rw [← o3] at hbl
  have hz : secZ (prA bs 8).J (stN (prA bs 8).J 9).1 (i + 1) = (bs.drop ((hd0 bs).E (i + 1)).f).take ((hd0 bs).E (i + 1)).l := by
   rw [secZ, hf, hl, show ((hd0 bs).E (i + 1)).f = 160 + (((hd0 bs).E (i + 1)).f - 160) by omega, ← List.drop_drop, hzs, List.drop_drop]
  rw [hf, hl, hz, c1, enB, entB, o1, o2]
  simp only [List.append_assoc]
 have hP : ∀ i, i ≤ 8 → hdP (prA bs 8).J (stN (prA bs 8).J 9).1 i = magB ++ Pl.le 2 1 ++ Pl.le 2 8 ++ Pl.le 4 ((stN (prA bs 8).J 9).1.length / 4096) ++ Pl.le 8 (prA bs 8).J.base ++ ensB (hd0 bs).E i := fun i => by
  induction i with
  | zero => intro _; rw [hdP, ensB, List.append_nil]
  | succ i ih => intro hi; rw [hdP, ih (by omega), ensB, hent (i + 1) (by omega) hi, List.append_assoc]
 have hT9 : (hd0 bs).x.T = magB := ha.2.1
 have h152 : bs.take 152 = hdP (prA bs 8).J (stN (prA bs 8).J 9).1 8 := by
  have e1 : bs.take 152 = (bs.take 160).take 152 := by rw [List.take_take]; rfl
  rw [e1, hW2, hP 8 (Nat.le_refl 8)]
  have e2 : hxB (hd0 bs).x (hd0 bs).E = (magB ++ Pl.le 2 1 ++ Pl.le 2 8 ++ Pl.le 4 ((stN (prA bs 8).J 9).1.length / 4096) ++ Pl.le 8 (prA bs 8).J.base ++ ensB (hd0 bs).E 8) ++ (Pl.le 4 (hd0 bs).x.sm ++ Pl.le 4 (hd0 bs).x.zr) := by
   unfold hxB
   rw [hT9, ha.2.2.1, ha.2.2.2.1, k5, hB, show bs.length / 4096 = (hd0 bs).x.cnt by have := ha.2.2.2.2.2.2.2.1; omega]
   simp only [List.append_assoc]
  rw [e2, List.take_left']
  simp only [List.length_append, Pl.le_length, ensB_len]
  rfl
 have hH : hdF (prA bs 8).J (stN (prA bs 8).J 9).1 = bs.take 160 := by
  rw [hdF, ← h152, hW2, ← ha.2.2.2.2.1, h152, hP 8 (Nat.le_refl 8)]
  unfold hxB
  rw [hT9, ha.2.2.1, ha.2.2.2.1, k5, hB, ha.2.2.2.2.2.1, show bs.length / 4096 = (hd0 bs).x.cnt by have := ha.2.2.2.2.2.2.2.1; omega]
  simp only [List.append_assoc]
 rw [encF, hH, hzs, List.take_append_drop]
end Dc
end Go.Proofs.YtnifefmfhjfbnaaGreatDoor
