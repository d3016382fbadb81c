import Derived.Test.YtmfkggngjeolcaaGreatDoorPk26
import Derived.Test.YtmfkggngjeolcaaGreatDoorPk16
set_option linter.unusedSimpArgs false
set_option linter.unusedVariables false
set_option maxHeartbeats 16000000
set_option maxRecDepth 100000
namespace Go.Proofs.YtmfkggngjeolcaaGreatDoor
open Go.RowKit Bn
def YN (p : Prop) (w : World) (e : Ending) (w' : World) : Prop := ∃ r : Bool, e = .returned (.bool r) ∧ (r = true ↔ p) ∧ Below w.heap.size w w'
theorem YN.no {p : Prop} {w w' : World} (h : ¬ p) (hb : Below w.heap.size w w') : YN p w (.returned (.bool false)) w' := ⟨false, rfl, ⟨(fun h => by cases h), fun h' => absurd h' h⟩, hb⟩
theorem YN.yes {p : Prop} {w w' : World} (h : p) (hb : Below w.heap.size w w') : YN p w (.returned (.bool true)) w' := ⟨true, rfl, ⟨fun _ => h, fun _ => rfl⟩, hb⟩
theorem sameBusX {w : World} {u1 u2 v1 v2 : Value} {xs1 xs2 ys1 ys2 : List Rg} (hu1 : RowG 2 rgE w u1 xs1) (hu2 : RowG 2 rgE w u2 xs2) (hv1 : RowG 2 rgE w v1 ys1) (hv2 : RowG 2 rgE w v2 ys2) : Calls Tryz.prog 44 #[.agg #[u1, u2], .agg #[v1, v2]] w (YN (xs1 = ys1 ∧ xs2 = ys2) w) := by
 have HU1 := Lib.hid hu1;have HU2 := Lib.hid hu2;have HV1 := Lib.hid hv1;have HV2 := Lib.hid hv2;obtain ⟨a1, p1, rfl, h1, h2, _⟩ := hu1;obtain ⟨a2, p2, rfl, h3, h4, _⟩ := hu2;obtain ⟨b1, q1, rfl, h5, h6, _⟩ := hv1;obtain ⟨b2, q2, rfl, h7, h8, _⟩ := hv2;unfold maxLen at h2 h4 h6 h8;obtain ⟨n1, hn1⟩ : ∃ n, xs1.length = n := ⟨_, rfl⟩
 obtain ⟨n2, hn2⟩ : ∃ n, xs2.length = n := ⟨_, rfl⟩
 obtain ⟨m1, hm1⟩ : ∃ n, ys1.length = n := ⟨_, rfl⟩
 obtain ⟨m2, hm2⟩ : ∃ n, ys2.length = n := ⟨_, rfl⟩
 have HN1 := Lib.hid hn1;have HN2 := Lib.hid hn2;have HM1 := Lib.hid hm1;have HM2 := Lib.hid hm2;rw [hn1] at h1 HU1 ⊢;rw [hn2] at h3 HU2 ⊢;rw [hm1] at h5 HV1 ⊢;rw [hm2] at h7 HV2 ⊢;clear hn1 hn2 hm1 hm2
 by_cases e1 : n1 = m1
 ·by_cases e2 : n2 = m2
  ·subst e1 e2;have s1 : (w.alloc (.cells #[.slice a1 n1 p1, .slice a2 n2 p2] 25)).heap.size = w.heap.size + 1 := by simp
   have HB9 : Hid (Below w.heap.size w ((w.alloc (.cells #[.slice a1 n1 p1, .slice a2 n2 p2] 25)).alloc (.cells #[.slice b1 n1 q1, .slice b2 n2 q2] 25))) := ((Below.refl _ _).alloc (Nat.le_refl _) _).alloc (by rw [s1]; omega) _;have HC1 : Hid (((w.alloc (.cells #[.slice a1 n1 p1, .slice a2 n2 p2] 25)).alloc (.cells #[.slice b1 n1 q1, .slice b2 n2 q2] 25)).cell? ⟨w.heap.size, 0, none⟩ = some (.slice a1 n1 p1)) := show _ = _ by simp [go_sem]
   have HC2 : Hid (((w.alloc (.cells #[.slice a1 n1 p1, .slice a2 n2 p2] 25)).alloc (.cells #[.slice b1 n1 q1, .slice b2 n2 q2] 25)).cell? ⟨w.heap.size, 1, none⟩ = some (.slice a2 n2 p2)) := show _ = _ by simp [go_sem]
   have HD1 : Hid (((w.alloc (.cells #[.slice a1 n1 p1, .slice a2 n2 p2] 25)).alloc (.cells #[.slice b1 n1 q1, .slice b2 n2 q2] 25)).cell? ⟨w.heap.size + 1, 0, none⟩ = some (.slice b1 n1 q1)) := show _ = _ by simp [go_sem]
   have HD2 : Hid (((w.alloc (.cells #[.slice a1 n1 p1, .slice a2 n2 p2] 25)).alloc (.cells #[.slice b1 n1 q1, .slice b2 n2 q2] 25)).cell? ⟨w.heap.size + 1, 1, none⟩ = some (.slice b2 n2 q2)) := show _ = _ by simp [go_sem]
   have HX1 := Lib.hid (HU1.out.below HB9.out);have HX2 := Lib.hid (HU2.out.below HB9.out);have HY1 := Lib.hid (HV1.out.below HB9.out);have HY2 := Lib.hid (HV2.out.below HB9.out);clear HU1 HU2 HV1 HV2 s1;go_enter Tryz.func44, Tryz.ntmps44
   go_wp2_with fail
   generalize ((w.alloc (.cells #[.slice a1 n1 p1, .slice a2 n2 p2] 25)).alloc (.cells #[.slice b1 n1 q1, .slice b2 n2 q2] 25)) = W at *;have HB0 : Hid (Below W.heap.size W W) := Below.refl _ _;go_loopw [5] (fun iv wr => ∃ i : Nat, i ≤ n1 ∧ iv = .int .i64 (i : Int) ∧ Hid (∀ j (h1 : j < xs1.length) (h2 : j < ys1.length), j < i → xs1[j] = ys1[j]) ∧ Hid (Below W.heap.size W wr)) (fun iv _ => n1 - (intOf iv).toNat)
   case atStart => exact ⟨0, by omega, rfl, (fun j _ _ h => absurd h (Nat.not_lt_zero _)), HB0⟩
   clear HB0;obtain ⟨i, hi, rfl, HEq, HB⟩ := hrel;have c1 := cell_low HB.out HC1.out;have c2 := cell_low HB.out HD1.out
   by_cases hin : i < n1
   ·have ji : (i : Int) < (n1 : Int) := by omega
    have hix : i < xs1.length := by rw [HN1.out]; exact hin
    have hiy : i < ys1.length := by rw [HM1.out]; exact hin
    have hw1 : IntKind.i64.wrap ((i : Int) + 1) = ((i + 1 : Nat) : Int) := by rw [IntKind.wrap_i64]; omega
    obtain ⟨_, _, e', _, _, hc⟩ := HX1.out.below HB.out;simp only [Value.slice.injEq] at e';obtain ⟨rfl, e9, rfl⟩ := e';clear e9;obtain ⟨b, of, rfl, _, hc⟩ := hc i hix;obtain ⟨_, _, e', _, _, hd⟩ := HY1.out.below HB.out;simp only [Value.slice.injEq] at e';obtain ⟨rfl, e9, rfl⟩ := e';clear e9;obtain ⟨b', of', rfl, _, hd⟩ := hd i hiy;have HNx : Hid (xs1[i] = ys1[i] → ∀ j (h1 : j < xs1.length) (h2 : j < ys1.length), j < i + 1 → xs1[j] = ys1[j]) := fun e j h1 h2 h3 => by
     by_cases h : j = i
     ·subst h; exact e
     ·exact HEq.out j h1 h2 (by omega)
    have HNo : Hid (xs1[i] ≠ ys1[i] → ¬ xs1 = ys1) := fun e h => e (by subst h; rfl);generalize xs1[i] = x at *;generalize ys1[i] = y at *;obtain ⟨T1, hT1⟩ : ∃ T1, Value.agg (rgE x).toArray = T1 := ⟨_, rfl⟩
    obtain ⟨T2, hT2⟩ : ∃ T2, Value.agg (rgE y).toArray = T2 := ⟨_, rfl⟩
    have l1 : ∀ k, (Instr.loadAt 64 (.pointer (some ⟨b, of + i * 2, none⟩))).run Tryz.prog (wr.drewN k) = .ok T1 (wr.drewN k) := fun k => by
     rw [← hT1];exact rg_load (w := wr.drewN k) hc
    have l2 : ∀ k, (Instr.loadAt 64 (.pointer (some ⟨b', of' + i * 2, none⟩))).run Tryz.prog (wr.drewN k) = .ok T2 (wr.drewN k) := fun k => by
     rw [← hT2];exact rg_load (w := wr.drewN k) hd
    have HT1 := Lib.hid hT1.symm;have HT2 := Lib.hid hT2.symm;clear hT1 hT2 hc hd
    by_cases hxy : x = y
    ·have HNq : Hid (∀ w, (binOp .neq 64 (.agg (rgE x).toArray) (.agg (rgE y).toArray)).run Tryz.prog w = .ok (.bool false) w) := fun w => by
      rw [rg_neq, decide_eq_true ((rg_iff x y).2 hxy)]
      rfl
     have HNz := Lib.hid (HNx.out hxy);go_upto_region 6 with fail
     refine wp_region_quiet_lit (by kernel_rfl) (by kernel_rfl) ?_;go_big_quiet_step (fail)
     go_big_quiet_step (fail)
     go_big_quiet_step (fail)
     go_big_quiet_step (fail)
     go_big_quiet_want
     refine quiet_load_ty 64 (.tmp 33) rfl rfl (fun W hW => by obtain ⟨k, rfl⟩ := hW; exact l1 k) ?_;intro a' ha';simp only [Act.put, List.setIfInBounds_toArray, List.set_cons_succ, List.set_cons_zero] at ha';subst ha';go_big_quiet_on
     go_big_quiet_step (fail)
     go_big_quiet_step (fail)
     go_big_quiet_step (fail)
     go_big_quiet_step (fail)
     go_big_quiet_want
     refine quiet_load_ty 64 (.tmp 38) rfl rfl (fun W hW => by obtain ⟨k, rfl⟩ := hW; exact l2 k) ?_;intro a' ha';simp only [Act.put, List.setIfInBounds_toArray, List.set_cons_succ, List.set_cons_zero] at ha';subst ha';go_big_quiet_on
     go_big_quiet_want
     refine quiet_neq_ty 64 (.tmp 34) (.tmp 39) rfl HT1.out HT2.out rg_guard HNq.out rfl rfl ?_;intro a' ha';simp only [Act.put, List.setIfInBounds_toArray, List.set_cons_succ, List.set_cons_zero] at ha';subst ha';go_big_quiet_on
     refine wpQuiet_nil ?_;intro W1 hw1';obtain ⟨nq, hw2'⟩ := hw1';subst hw2';have HB1 : Hid (Below W.heap.size W (wr.drewN nq)) := HB.out.trans ⟨rfl, rfl, rfl, Nat.le_refl _, fun _ _ => rfl⟩;clear HB l1 l2;generalize (wr.drewN nq) = W1 at *;go_wp2_with fail
     go_roundw
     case rel => exact ⟨i + 1, by omega, rfl, HNz, HB1⟩
     case measure => simp [intOf]; omega
    ·have HNq : Hid (∀ w, (binOp .neq 64 (.agg (rgE x).toArray) (.agg (rgE y).toArray)).run Tryz.prog w = .ok (.bool true) w) := fun w => by
      rw [rg_neq, decide_eq_false (fun h => hxy ((rg_iff x y).1 h))]
      rfl
     have HNz := Lib.hid (HNo.out hxy);go_upto_region 6 with fail
     refine wp_region_quiet_lit (by kernel_rfl) (by kernel_rfl) ?_;go_big_quiet_step (fail)
     go_big_quiet_step (fail)
     go_big_quiet_step (fail)
     go_big_quiet_step (fail)
     go_big_quiet_want
     refine quiet_load_ty 64 (.tmp 33) rfl rfl (fun W hW => by obtain ⟨k, rfl⟩ := hW; exact l1 k) ?_;intro a' ha';simp only [Act.put, List.setIfInBounds_toArray, List.set_cons_succ, List.set_cons_zero] at ha';subst ha';go_big_quiet_on
     go_big_quiet_step (fail)
     go_big_quiet_step (fail)
     go_big_quiet_step (fail)
     go_big_quiet_step (fail)
     go_big_quiet_want
     refine quiet_load_ty 64 (.tmp 38) rfl rfl (fun W hW => by obtain ⟨k, rfl⟩ := hW; exact l2 k) ?_;intro a' ha';simp only [Act.put, List.setIfInBounds_toArray, List.set_cons_succ, List.set_cons_zero] at ha';subst ha';go_big_quiet_on
     go_big_quiet_want
     refine quiet_neq_ty 64 (.tmp 34) (.tmp 39) rfl HT1.out HT2.out rg_guard HNq.out rfl rfl ?_;intro a' ha';simp only [Act.put, List.setIfInBounds_toArray, List.set_cons_succ, List.set_cons_zero] at ha';subst ha';go_big_quiet_on
     refine wpQuiet_nil ?_;intro W1 hw1';obtain ⟨nq, hw2'⟩ := hw1';subst hw2';have HB1 : Hid (Below W.heap.size W (wr.drewN nq)) := HB.out.trans ⟨rfl, rfl, rfl, Nat.le_refl _, fun _ _ => rfl⟩;clear HB l1 l2;generalize (wr.drewN nq) = W1 at *;go_wp2_with fail
     go_ret
     exact YN.no (fun hp => HNz.out hp.1) (HB9.out.trans (HB1.out.mono HB9.out.size))
   have ji : ¬ (i : Int) < (n1 : Int) := by omega
   have HFin : Hid (xs1 = ys1) := list_eq_of (by rw [HN1.out, HM1.out]) (fun j h1 h2 => HEq.out j h1 h2 (by rw [HN1.out] at h1; omega));have HF1 := HFin;clear HFin HEq;go_wp2_with fail
   clear c1 c2 ji hin hi;have HB0 := HB;clear HB;generalize wr = w5 at *;go_loopw [6] (fun iv wr => ∃ i : Nat, i ≤ n2 ∧ iv = .int .i64 (i : Int) ∧ Hid (∀ j (h1 : j < xs2.length) (h2 : j < ys2.length), j < i → xs2[j] = ys2[j]) ∧ Hid (Below W.heap.size W wr)) (fun iv _ => n2 - (intOf iv).toNat)
   case atStart => exact ⟨0, by omega, rfl, (fun j _ _ h => absurd h (Nat.not_lt_zero _)), HB0⟩
   clear HB0;obtain ⟨i, hi, rfl, HEq, HB⟩ := hrel;have c1 := cell_low HB.out HC2.out;have c2 := cell_low HB.out HD2.out
   by_cases hin : i < n2
   ·have ji : (i : Int) < (n2 : Int) := by omega
    have hix : i < xs2.length := by rw [HN2.out]; exact hin
    have hiy : i < ys2.length := by rw [HM2.out]; exact hin
    have hw1 : IntKind.i64.wrap ((i : Int) + 1) = ((i + 1 : Nat) : Int) := by rw [IntKind.wrap_i64]; omega
    obtain ⟨_, _, e', _, _, hc⟩ := HX2.out.below HB.out;simp only [Value.slice.injEq] at e';obtain ⟨rfl, e9, rfl⟩ := e';clear e9;obtain ⟨b, of, rfl, _, hc⟩ := hc i hix;obtain ⟨_, _, e', _, _, hd⟩ := HY2.out.below HB.out;simp only [Value.slice.injEq] at e';obtain ⟨rfl, e9, rfl⟩ := e';clear e9;obtain ⟨b', of', rfl, _, hd⟩ := hd i hiy;have HNx : Hid (xs2[i] = ys2[i] → ∀ j (h1 : j < xs2.length) (h2 : j < ys2.length), j < i + 1 → xs2[j] = ys2[j]) := fun e j h1 h2 h3 => by
     by_cases h : j = i
     ·subst h; exact e
     ·exact HEq.out j h1 h2 (by omega)
    have HNo : Hid (xs2[i] ≠ ys2[i] → ¬ xs2 = ys2) := fun e h => e (by subst h; rfl);generalize xs2[i] = x at *;generalize ys2[i] = y at *;obtain ⟨T1, hT1⟩ : ∃ T1, Value.agg (rgE x).toArray = T1 := ⟨_, rfl⟩
    obtain ⟨T2, hT2⟩ : ∃ T2, Value.agg (rgE y).toArray = T2 := ⟨_, rfl⟩
    have l1 : ∀ k, (Instr.loadAt 64 (.pointer (some ⟨b, of + i * 2, none⟩))).run Tryz.prog (wr.drewN k) = .ok T1 (wr.drewN k) := fun k => by
     rw [← hT1];exact rg_load (w := wr.drewN k) hc
    have l2 : ∀ k, (Instr.loadAt 64 (.pointer (some ⟨b', of' + i * 2, none⟩))).run Tryz.prog (wr.drewN k) = .ok T2 (wr.drewN k) := fun k => by
     rw [← hT2];exact rg_load (w := wr.drewN k) hd
    have HT1 := Lib.hid hT1.symm;have HT2 := Lib.hid hT2.symm;clear hT1 hT2 hc hd
    by_cases hxy : x = y
    ·have HNq : Hid (∀ w, (binOp .neq 64 (.agg (rgE x).toArray) (.agg (rgE y).toArray)).run Tryz.prog w = .ok (.bool false) w) := fun w => by
      rw [rg_neq, decide_eq_true ((rg_iff x y).2 hxy)]
      rfl
     have HNz := Lib.hid (HNx.out hxy);go_upto_region 11 with fail
     refine wp_region_quiet_lit (by kernel_rfl) (by kernel_rfl) ?_;go_big_quiet_step (fail)
     go_big_quiet_step (fail)
     go_big_quiet_step (fail)
     go_big_quiet_step (fail)
     go_big_quiet_want
     refine quiet_load_ty 64 (.tmp 51) rfl rfl (fun W hW => by obtain ⟨k, rfl⟩ := hW; exact l1 k) ?_;intro a' ha';simp only [Act.put, List.setIfInBounds_toArray, List.set_cons_succ, List.set_cons_zero] at ha';subst ha';go_big_quiet_on
     go_big_quiet_step (fail)
     go_big_quiet_step (fail)
     go_big_quiet_step (fail)
     go_big_quiet_step (fail)
     go_big_quiet_want
     refine quiet_load_ty 64 (.tmp 56) rfl rfl (fun W hW => by obtain ⟨k, rfl⟩ := hW; exact l2 k) ?_;intro a' ha';simp only [Act.put, List.setIfInBounds_toArray, List.set_cons_succ, List.set_cons_zero] at ha';subst ha';go_big_quiet_on
     go_big_quiet_want
     refine quiet_neq_ty 64 (.tmp 52) (.tmp 57) rfl HT1.out HT2.out rg_guard HNq.out rfl rfl ?_;intro a' ha';simp only [Act.put, List.setIfInBounds_toArray, List.set_cons_succ, List.set_cons_zero] at ha';subst ha';go_big_quiet_on
     refine wpQuiet_nil ?_;intro W1 hw1';obtain ⟨nq, hw2'⟩ := hw1';subst hw2';have HB1 : Hid (Below W.heap.size W (wr.drewN nq)) := HB.out.trans ⟨rfl, rfl, rfl, Nat.le_refl _, fun _ _ => rfl⟩;clear HB l1 l2;generalize (wr.drewN nq) = W1 at *;go_wp2_with fail
     go_roundw
     case rel => exact ⟨i + 1, by omega, rfl, HNz, HB1⟩
     case measure => simp [intOf]; omega
    ·have HNq : Hid (∀ w, (binOp .neq 64 (.agg (rgE x).toArray) (.agg (rgE y).toArray)).run Tryz.prog w = .ok (.bool true) w) := fun w => by
      rw [rg_neq, decide_eq_false (fun h => hxy ((rg_iff x y).1 h))]
      rfl
     have HNz := Lib.hid (HNo.out hxy);go_upto_region 11 with fail
     refine wp_region_quiet_lit (by kernel_rfl) (by kernel_rfl) ?_;go_big_quiet_step (fail)
     go_big_quiet_step (fail)
     go_big_quiet_step (fail)
     go_big_quiet_step (fail)
     go_big_quiet_want
     refine quiet_load_ty 64 (.tmp 51) rfl rfl (fun W hW => by obtain ⟨k, rfl⟩ := hW; exact l1 k) ?_;intro a' ha';simp only [Act.put, List.setIfInBounds_toArray, List.set_cons_succ, List.set_cons_zero] at ha';subst ha';go_big_quiet_on
     go_big_quiet_step (fail)
     go_big_quiet_step (fail)
     go_big_quiet_step (fail)
     go_big_quiet_step (fail)
     go_big_quiet_want
     refine quiet_load_ty 64 (.tmp 56) rfl rfl (fun W hW => by obtain ⟨k, rfl⟩ := hW; exact l2 k) ?_;intro a' ha';simp only [Act.put, List.setIfInBounds_toArray, List.set_cons_succ, List.set_cons_zero] at ha';subst ha';go_big_quiet_on
     go_big_quiet_want
     refine quiet_neq_ty 64 (.tmp 52) (.tmp 57) rfl HT1.out HT2.out rg_guard HNq.out rfl rfl ?_;intro a' ha';simp only [Act.put, List.setIfInBounds_toArray, List.set_cons_succ, List.set_cons_zero] at ha';subst ha';go_big_quiet_on
     refine wpQuiet_nil ?_;intro W1 hw1';obtain ⟨nq, hw2'⟩ := hw1';subst hw2';have HB1 : Hid (Below W.heap.size W (wr.drewN nq)) := HB.out.trans ⟨rfl, rfl, rfl, Nat.le_refl _, fun _ _ => rfl⟩;clear HB l1 l2;generalize (wr.drewN nq) = W1 at *;go_wp2_with fail
     go_ret
     exact YN.no (fun hp => HNz.out hp.2) (HB9.out.trans (HB1.out.mono HB9.out.size))
   have ji : ¬ (i : Int) < (n2 : Int) := by omega
   have HFin : Hid (xs2 = ys2) := list_eq_of (by rw [HN2.out, HM2.out]) (fun j h1 h2 => HEq.out j h1 h2 (by rw [HN2.out] at h1; omega));go_wp2_with fail
   go_ret
   exact YN.yes ⟨HF1.out, HFin.out⟩ (HB9.out.trans (HB.out.mono HB9.out.size))
  ·have jn : ¬ (n2 : Int) = (m2 : Int) := by omega
   subst e1;have HB9 : Hid (∀ W, Below w.heap.size (w.alloc (.cells #[.slice a1 n1 p1, .slice a2 n2 p2] 25)) W → Below w.heap.size w W) := fun W h => ((Below.refl _ _).alloc (Nat.le_refl _) _).trans h;have s1 : w.heap.size ≤ (w.alloc (.cells #[.slice a1 n1 p1, .slice a2 n2 p2] 25)).heap.size := by simp
   have HS := Lib.hid s1;clear s1;go_enter Tryz.func44, Tryz.ntmps44
   go_wp2_with fail
   go_ret
   exact YN.no (fun hp => e2 (by rw [← HN2.out, ← HM2.out, hp.2])) (HB9.out _ ((Below.refl _ _).alloc HS.out _))
 ·have jn : ¬ (n1 : Int) = (m1 : Int) := by omega
  have HB9 : Hid (∀ W, Below w.heap.size (w.alloc (.cells #[.slice a1 n1 p1, .slice a2 n2 p2] 25)) W → Below w.heap.size w W) := fun W h => ((Below.refl _ _).alloc (Nat.le_refl _) _).trans h;have s1 : w.heap.size ≤ (w.alloc (.cells #[.slice a1 n1 p1, .slice a2 n2 p2] 25)).heap.size := by simp
  have HS := Lib.hid s1;clear s1;go_enter Tryz.func44, Tryz.ntmps44
  go_wp2_with fail
  go_ret
  exact YN.no (fun hp => e1 (by rw [← HN1.out, ← HM1.out, hp.1])) (HB9.out _ ((Below.refl _ _).alloc HS.out _))
end Go.Proofs.YtmfkggngjeolcaaGreatDoor
namespace Go.Proofs.YtmfkggngjeolcaaGreatDoor
open Go.RowKit Bn
theorem list_at {α : Type} {l m : List α} (h : l = m) {i : Nat} (h1 : i < l.length) (h2 : i < m.length) : l[i] = m[i] := by subst h; rfl
theorem sc_eq {X Y : Sc} (h1 : X.maj = Y.maj) (h2 : X.lanes = Y.lanes) : X = Y := by
 cases X; cases Y; simp at h1 h2; simp [h1, h2]
theorem samePlansX {w : World} {u v : Value} {xs ys : List Sc} (hu : PlG w u xs) (hv : PlG w v ys) : Calls Tryz.prog 46 #[u, v] w (YN (xs = ys) w) := by
 have HU := Lib.hid hu;have HV := Lib.hid hv;obtain ⟨ao, cap, rfl, h1, h2, _⟩ := hu;obtain ⟨bo, bap, rfl, g1, g2, _⟩ := hv;unfold maxLen at h2 g2;obtain ⟨n, hn⟩ : ∃ n, xs.length = n := ⟨_, rfl⟩
 obtain ⟨m, hm⟩ : ∃ m, ys.length = m := ⟨_, rfl⟩
 have HN := Lib.hid hn;have HM := Lib.hid hm;rw [hn] at h1 HU ⊢;rw [hm] at g1 HV ⊢;clear hn hm;have HB0 : Hid (Below w.heap.size w w) := Below.refl _ _
 by_cases hnm : n = m
 ·subst hnm;go_enter Tryz.func46, Tryz.ntmps46
  go_wp2_with fail
  go_loopw [5] (fun iv wr => ∃ i : Nat, i ≤ n ∧ iv = .int .i64 (i : Int) ∧ Hid (∀ j (h1 : j < xs.length) (h2 : j < ys.length), j < i → xs[j] = ys[j]) ∧ Hid (Below w.heap.size w wr)) (fun iv _ => n - (intOf iv).toNat)
  case atStart => exact ⟨0, by omega, rfl, (fun j _ _ h => absurd h (Nat.not_lt_zero _)), HB0⟩
  clear HB0;obtain ⟨i, hi, rfl, HEq, HB⟩ := hrel
  by_cases hin : i < n
  ·have ji : (i : Int) < (n : Int) := by omega
   have hix : i < xs.length := by rw [HN.out]; exact hin
   have hiy : i < ys.length := by rw [HM.out]; exact hin
   have hw1 : IntKind.i64.wrap ((i : Int) + 1) = ((i + 1 : Nat) : Int) := by rw [IntKind.wrap_i64]; omega
   obtain ⟨_, _, e', _, _, hc⟩ := HU.out.below HB.out;simp only [Value.slice.injEq] at e';obtain ⟨rfl, e9, rfl⟩ := e';clear e9;obtain ⟨b, of, u, rfl, cm, cl, hL⟩ := hc i hix;obtain ⟨_, _, e', _, _, hd⟩ := HV.out.below HB.out;simp only [Value.slice.injEq] at e';obtain ⟨rfl, e9, rfl⟩ := e';clear e9;obtain ⟨b', of', u', rfl, dm, dl, hM⟩ := hd i hiy;have HNx : Hid (xs[i] = ys[i] → ∀ t (h1 : t < xs.length) (h2 : t < ys.length), t < i + 1 → xs[t] = ys[t]) := fun e t h1 h2 h3 => by
    by_cases h : t = i
    ·subst h; exact e
    ·exact HEq.out t h1 h2 (by omega)
   have HNo : Hid (xs[i] ≠ ys[i] → ¬ xs = ys) := fun e h => e (list_at h _ _);generalize xs[i] = X at *;generalize ys[i] = Y at *;have HL := Lib.hid hL;have HL2 := Lib.hid hM;obtain ⟨la, lc, rfl, k1, k2, _⟩ := hL;obtain ⟨ma, mc, rfl, k3, k4, _⟩ := hM;unfold maxLen at k2 k4;obtain ⟨p, hp⟩ : ∃ p, X.lanes.length = p := ⟨_, rfl⟩
   obtain ⟨r, hr⟩ : ∃ r, Y.lanes.length = r := ⟨_, rfl⟩
   have HP := Lib.hid hp;have HR := Lib.hid hr;rw [hp] at k1 cl HL;rw [hr] at k3 dl HL2;obtain ⟨xm, hxm⟩ : ∃ x, X.maj = x := ⟨_, rfl⟩
   obtain ⟨ym, hym⟩ : ∃ x, Y.maj = x := ⟨_, rfl⟩
   have HXm := Lib.hid hxm;have HYm := Lib.hid hym;rw [hxm] at cm;rw [hym] at dm;clear hp hr hxm hym;generalize wr = w1 at *;have HBa := HB
   by_cases em : xm = ym
   ·by_cases el : p = r
    ·subst em el;have HCl := Lib.hid cl;have HDl := Lib.hid dl;go_upto_region 6 with fail
     go_quiet (fail)
     have HB0 : Hid (Below w1.heap.size w1 (w1.drewN nq)) := ⟨rfl, rfl, rfl, Nat.le_refl _, fun _ _ => rfl⟩
     clear cm dm cl dl;generalize (w1.drewN nq) = w5 at *;go_wp2_with fail
     go_loopw [6] (fun iv wr => ∃ j : Nat, j ≤ p ∧ iv = .int .i64 (j : Int) ∧ Hid (∀ t (h1 : t < X.lanes.length) (h2 : t < Y.lanes.length), t < j → X.lanes[t] = Y.lanes[t]) ∧ Hid (Below w1.heap.size w1 wr)) (fun iv _ => p - (intOf iv).toNat)
     case atStart => exact ⟨0, by omega, rfl, (fun j _ _ h => absurd h (Nat.not_lt_zero _)), HB0⟩
     clear HB0;obtain ⟨j, hj, rfl, HEq2, HB2⟩ := hrel;have c1 := cell_low HB2.out HCl.out;have c2 := cell_low HB2.out HDl.out
     by_cases hjp : j < p
     ·have jj : (j : Int) < (p : Int) := by omega
      have hjx : j < X.lanes.length := by rw [HP.out]; exact hjp
      have hjy : j < Y.lanes.length := by rw [HR.out]; exact hjp
      have hw2 : IntKind.i64.wrap ((j : Int) + 1) = ((j + 1 : Nat) : Int) := by rw [IntKind.wrap_i64]; omega
      obtain ⟨_, _, e', _, _, hc⟩ := HL.out.below HB2.out;simp only [Value.slice.injEq] at e';obtain ⟨rfl, e9, rfl⟩ := e';clear e9;obtain ⟨lb, lo, u, rfl, e1, hA⟩ := hc j hjx;obtain ⟨_, _, e', _, _, hd⟩ := HL2.out.below HB2.out;simp only [Value.slice.injEq] at e';obtain ⟨rfl, e9, rfl⟩ := e';clear e9;obtain ⟨lb', lo', u', rfl, e2, hB⟩ := hd j hjy;have HNx2 : Hid (X.lanes[j] = Y.lanes[j] → ∀ t (h1 : t < X.lanes.length) (h2 : t < Y.lanes.length), t < j + 1 → X.lanes[t] = Y.lanes[t]) := fun e t h1 h2 h3 => by
       by_cases h : t = j
       ·subst h; exact e
       ·exact HEq2.out t h1 h2 (by omega)
      have HNo2 : Hid (X.lanes[j] ≠ Y.lanes[j] → ¬ X.lanes = Y.lanes) := fun e h => e (list_at h _ _);generalize X.lanes[j] = La at *;generalize Y.lanes[j] = Lb at *;have HA := Lib.hid hA;have HAb := Lib.hid hB;obtain ⟨ra, rc, rfl, y1, y2, _⟩ := hA;obtain ⟨sa, sc, rfl, y3, y4, _⟩ := hB;unfold maxLen at y2 y4;obtain ⟨q, hq⟩ : ∃ p, La.length = p := ⟨_, rfl⟩
      obtain ⟨s, hs⟩ : ∃ r, Lb.length = r := ⟨_, rfl⟩
      have HQ := Lib.hid hq;have HS := Lib.hid hs;rw [hq] at y1 e1 HA;rw [hs] at y3 e2 HAb;clear hq hs;generalize wr = w2 at *
      by_cases eq : q = s
      ·subst eq;have HC1 := Lib.hid c1;have HC2 := Lib.hid c2;have HE1 := Lib.hid e1;have HE2 := Lib.hid e2;go_upto_region 11 with fail
       go_quiet (fail)
       have HB0 : Hid (Below w2.heap.size w2 (w2.drewN nq)) := ⟨rfl, rfl, rfl, Nat.le_refl _, fun _ _ => rfl⟩
       clear c1 c2 e1 e2;generalize (w2.drewN nq) = w6 at *;go_wp2_with fail
       go_loopw [7] (fun iv wr => ∃ k : Nat, k ≤ q ∧ iv = .int .i64 (k : Int) ∧ Hid (∀ t (h1 : t < La.length) (h2 : t < Lb.length), t < k → La[t] = Lb[t]) ∧ Hid (Below w2.heap.size w2 wr)) (fun iv _ => q - (intOf iv).toNat)
       case atStart => exact ⟨0, by omega, rfl, (fun j _ _ h => absurd h (Nat.not_lt_zero _)), HB0⟩
       clear HB0;obtain ⟨k, hk, rfl, HEq3, HB3⟩ := hrel;have c1 := cell_low HB3.out HC1.out;have c2 := cell_low HB3.out HC2.out;have c3 := cell_low HB3.out HE1.out;have c4 := cell_low HB3.out HE2.out
       by_cases hkq : k < q
       ·have jk : (k : Int) < (q : Int) := by omega
        have hkx : k < La.length := by rw [HQ.out]; exact hkq
        have hky : k < Lb.length := by rw [HS.out]; exact hkq
        have hw3 : IntKind.i64.wrap ((k : Int) + 1) = ((k + 1 : Nat) : Int) := by rw [IntKind.wrap_i64]; omega
        obtain ⟨_, _, e', _, _, hc⟩ := HA.out.below HB3.out;simp only [Value.slice.injEq] at e';obtain ⟨rfl, e9, rfl⟩ := e';clear e9;obtain ⟨tb, tu, rfl, _, hc⟩ := hc k hkx;obtain ⟨_, _, e', _, _, hd⟩ := HAb.out.below HB3.out;simp only [Value.slice.injEq] at e';obtain ⟨rfl, e9, rfl⟩ := e';clear e9;obtain ⟨tb', tu', rfl, _, hd⟩ := hd k hky;have HNx3 : Hid (La[k] = Lb[k] → ∀ t (h1 : t < La.length) (h2 : t < Lb.length), t < k + 1 → La[t] = Lb[t]) := fun e t h1 h2 h3 => by
         by_cases h : t = k
         ·subst h; exact e
         ·exact HEq3.out t h1 h2 (by omega)
        have HNo3 : Hid (La[k] ≠ Lb[k] → ¬ La = Lb) := fun e h => e (list_at h _ _);generalize La[k] = x at *;generalize Lb[k] = y at *;obtain ⟨T1, hT1⟩ : ∃ T1, Value.agg (stE x).toArray = T1 := ⟨_, rfl⟩
        obtain ⟨T2, hT2⟩ : ∃ T2, Value.agg (stE y).toArray = T2 := ⟨_, rfl⟩
        have l1 : ∀ z, (Instr.loadAt 74 (.pointer (some ⟨tb, tu + k * 2, none⟩))).run Tryz.prog (wr.drewN z) = .ok T1 (wr.drewN z) := fun z => by
         rw [← hT1];exact st_load (w := wr.drewN z) hc
        have l2 : ∀ z, (Instr.loadAt 74 (.pointer (some ⟨tb', tu' + k * 2, none⟩))).run Tryz.prog (wr.drewN z) = .ok T2 (wr.drewN z) := fun z => by
         rw [← hT2];exact st_load (w := wr.drewN z) hd
        have HT1 := Lib.hid hT1.symm;have HT2 := Lib.hid hT2.symm;have HB := HB3;clear hT1 hT2 hc hd HB3
        by_cases hxy : x = y
        ·have HNq : Hid (∀ w, (binOp .neq 74 (.agg (stE x).toArray) (.agg (stE y).toArray)).run Tryz.prog w = .ok (.bool false) w) := fun w => by
          rw [st_neq, decide_eq_true ((st_iff x y).2 hxy)]
          rfl
         have HNz := Lib.hid (HNx3.out hxy);go_upto_region 16 with fail
         refine wp_region_quiet_lit (by kernel_rfl) (by kernel_rfl) ?_;go_big_quiet_step (fail)
         go_big_quiet_step (fail)
         go_big_quiet_step (fail)
         go_big_quiet_step (fail)
         go_big_quiet_step (fail)
         go_big_quiet_step (fail)
         go_big_quiet_step (fail)
         go_big_quiet_step (fail)
         go_big_quiet_step (fail)
         go_big_quiet_step (fail)
         go_big_quiet_want
         refine quiet_load_ty 74 (.tmp 96) rfl rfl (fun W hW => by obtain ⟨k, rfl⟩ := hW; exact l1 k) ?_;intro a' ha';simp only [Act.put, List.setIfInBounds_toArray, List.set_cons_succ, List.set_cons_zero] at ha';subst ha';go_big_quiet_on
         go_big_quiet_step (fail)
         go_big_quiet_step (fail)
         go_big_quiet_step (fail)
         go_big_quiet_step (fail)
         go_big_quiet_step (fail)
         go_big_quiet_step (fail)
         go_big_quiet_step (fail)
         go_big_quiet_step (fail)
         go_big_quiet_step (fail)
         go_big_quiet_step (fail)
         go_big_quiet_want
         refine quiet_load_ty 74 (.tmp 107) rfl rfl (fun W hW => by obtain ⟨k, rfl⟩ := hW; exact l2 k) ?_;intro a' ha';simp only [Act.put, List.setIfInBounds_toArray, List.set_cons_succ, List.set_cons_zero] at ha';subst ha';go_big_quiet_on
         go_big_quiet_want
         refine quiet_neq_ty 74 (.tmp 97) (.tmp 108) rfl HT1.out HT2.out st_guard HNq.out rfl rfl ?_;intro a' ha';simp only [Act.put, List.setIfInBounds_toArray, List.set_cons_succ, List.set_cons_zero] at ha';subst ha';go_big_quiet_on
         refine wpQuiet_nil ?_;intro W1 hw1';obtain ⟨nq, hw2'⟩ := hw1';subst hw2';have HB1 : Hid (Below w2.heap.size w2 (wr.drewN nq)) := HB.out.trans ⟨rfl, rfl, rfl, Nat.le_refl _, fun _ _ => rfl⟩;clear HB l1 l2;generalize (wr.drewN nq) = W1 at *;go_wp2_with fail
         go_roundw
         case rel => exact ⟨k + 1, by omega, rfl, HNz, HB1⟩
         case measure => simp [intOf]; omega
        ·have HNq : Hid (∀ w, (binOp .neq 74 (.agg (stE x).toArray) (.agg (stE y).toArray)).run Tryz.prog w = .ok (.bool true) w) := fun w => by
          rw [st_neq, decide_eq_false (fun h => hxy ((st_iff x y).1 h))]
          rfl
         have HNz : Hid (¬ xs = ys) := HNo.out (fun h => HNo2.out (HNo3.out hxy) (by rw [h]));have HBo : Hid (∀ W, Below w2.heap.size w2 W → Below w.heap.size w W) := fun W h => HBa.out.trans ((HB2.out.trans (h.mono HB2.out.size)).mono HBa.out.size);go_upto_region 16 with fail
         refine wp_region_quiet_lit (by kernel_rfl) (by kernel_rfl) ?_;go_big_quiet_step (fail)
         go_big_quiet_step (fail)
         go_big_quiet_step (fail)
         go_big_quiet_step (fail)
         go_big_quiet_step (fail)
         go_big_quiet_step (fail)
         go_big_quiet_step (fail)
         go_big_quiet_step (fail)
         go_big_quiet_step (fail)
         go_big_quiet_step (fail)
         go_big_quiet_want
         refine quiet_load_ty 74 (.tmp 96) rfl rfl (fun W hW => by obtain ⟨k, rfl⟩ := hW; exact l1 k) ?_;intro a' ha';simp only [Act.put, List.setIfInBounds_toArray, List.set_cons_succ, List.set_cons_zero] at ha';subst ha';go_big_quiet_on
         go_big_quiet_step (fail)
         go_big_quiet_step (fail)
         go_big_quiet_step (fail)
         go_big_quiet_step (fail)
         go_big_quiet_step (fail)
         go_big_quiet_step (fail)
         go_big_quiet_step (fail)
         go_big_quiet_step (fail)
         go_big_quiet_step (fail)
         go_big_quiet_step (fail)
         go_big_quiet_want
         refine quiet_load_ty 74 (.tmp 107) rfl rfl (fun W hW => by obtain ⟨k, rfl⟩ := hW; exact l2 k) ?_;intro a' ha';simp only [Act.put, List.setIfInBounds_toArray, List.set_cons_succ, List.set_cons_zero] at ha';subst ha';go_big_quiet_on
         go_big_quiet_want
         refine quiet_neq_ty 74 (.tmp 97) (.tmp 108) rfl HT1.out HT2.out st_guard HNq.out rfl rfl ?_;intro a' ha';simp only [Act.put, List.setIfInBounds_toArray, List.set_cons_succ, List.set_cons_zero] at ha';subst ha';go_big_quiet_on
         refine wpQuiet_nil ?_;intro W1 hw1';obtain ⟨nq, hw2'⟩ := hw1';subst hw2';have HB1 : Hid (Below w2.heap.size w2 (wr.drewN nq)) := HB.out.trans ⟨rfl, rfl, rfl, Nat.le_refl _, fun _ _ => rfl⟩;clear HB l1 l2;generalize (wr.drewN nq) = W1 at *;go_wp2_with fail
         go_ret
         exact YN.no HNz.out (HBo.out _ HB1.out)
       ·have jk : ¬ (k : Int) < (q : Int) := by omega
        have HFin : Hid (La = Lb) := list_eq_of (by rw [HQ.out, HS.out]) (fun t h1 h2 => HEq3.out t h1 h2 (by rw [HQ.out] at h1; omega));have HNz := Lib.hid (HNx2.out HFin.out);have HB4 : Hid (Below w1.heap.size w1 wr) := HB2.out.trans (HB3.out.mono HB2.out.size);go_wp2_with fail
        go_roundw
        case rel => exact ⟨j + 1, by omega, rfl, HNz, HB4⟩
        case measure => simp [intOf]; omega
      ·have je : ¬ (q : Int) = (s : Int) := by omega
       have HNz : Hid (¬ xs = ys) := HNo.out (fun h => HNo2.out (fun h' => eq (by rw [← HQ.out, ← HS.out, h'])) (by rw [h]));go_upto_region 11 with fail
       go_quiet (fail)
       have HB4 : Hid (Below w1.heap.size w1 (w2.drewN nq)) := HB2.out.trans ⟨rfl, rfl, rfl, Nat.le_refl _, fun _ _ => rfl⟩;clear c1 c2 e1 e2;generalize (w2.drewN nq) = w6 at *;go_wp2_with fail
       go_ret
       exact YN.no HNz.out (HBa.out.trans (HB4.out.mono HBa.out.size))
     ·have jj : ¬ (j : Int) < (p : Int) := by omega
      have HFin : Hid (X.lanes = Y.lanes) := list_eq_of (by rw [HP.out, HR.out]) (fun t h1 h2 => HEq2.out t h1 h2 (by rw [HP.out] at h1; omega));have HNz := Lib.hid (HNx.out (sc_eq (by rw [HXm.out, HYm.out]) HFin.out));have HB4 : Hid (Below w.heap.size w wr) := HBa.out.trans (HB2.out.mono HBa.out.size);go_wp2_with fail
      go_roundw
      case rel => exact ⟨i + 1, by omega, rfl, HNz, HB4⟩
      case measure => simp [intOf]; omega
    ·have je : ¬ (p : Int) = (r : Int) := by omega
     have HNz : Hid (¬ xs = ys) := HNo.out (fun h => el (by rw [← HP.out, ← HR.out, h]));subst em;go_upto_region 6 with fail
     go_quiet (fail)
     have HB4 : Hid (Below w.heap.size w (w1.drewN nq)) := HBa.out.trans ⟨rfl, rfl, rfl, Nat.le_refl _, fun _ _ => rfl⟩;clear cm dm cl dl;generalize (w1.drewN nq) = w6 at *;go_wp2_with fail
     go_ret
     exact YN.no HNz.out HB4.out
   ·have HNz : Hid (¬ xs = ys) := HNo.out (fun h => em (by rw [← HXm.out, ← HYm.out, h]));go_upto_region 6 with fail
    go_quiet (fail)
    have HB4 : Hid (Below w.heap.size w (w1.drewN nq)) := HBa.out.trans ⟨rfl, rfl, rfl, Nat.le_refl _, fun _ _ => rfl⟩;clear cm dm cl dl;generalize (w1.drewN nq) = w6 at *;go_wp2_with fail
    go_ret
    exact YN.no HNz.out HB4.out
  ·have ji : ¬ (i : Int) < (n : Int) := by omega
   have HFin : Hid (xs = ys) := list_eq_of (by rw [HN.out, HM.out]) (fun j h1 h2 => HEq.out j h1 h2 (by rw [HN.out] at h1; omega));go_wp2_with fail
   go_ret
   exact YN.yes HFin.out HB.out
 ·have jn : ¬ (n : Int) = (m : Int) := by omega
  have HNe : Hid (¬ xs = ys) := fun h => hnm (by rw [← HN.out, ← HM.out, h]);go_enter Tryz.func46, Tryz.ntmps46
  go_wp2_with fail
  go_ret
  exact YN.no HNe.out HB0.out
end Go.Proofs.YtmfkggngjeolcaaGreatDoor
namespace Go.Proofs.YtmfkggngjeolcaaGreatDoor
open Go.RowKit Bn
def tf (f : Nat → Nat) : Fin 512 → Nat := fun j => f j.1
def tfX (x : Fin 512 → Nat) : Nat → Nat := fun p => if h : p < 512 then x ⟨p, h⟩ else 0
def txE (x : Fin 512 → Nat) : List Value := (tabV (tfX x)).toList
theorem txE_get (x : Fin 512 → Nat) {j : Nat} (hj : j < 512) : (txE x)[j]? = some (.int .u64 (tfX x j : Int)) := by
 have := tabV_get (tfX x) hj;rw [txE, Array.getElem?_toList];exact this
theorem tfX_tf (f : Nat → Nat) {p : Nat} (hp : p < 512) : tfX (tf f) p = f p := by rw [tfX, dif_pos hp, tf]
theorem TbG.row {w : World} {v : Value} {fs : List (Nat → Nat)} (h : TbG w v fs) : RowG 512 txE w v (fs.map tf) := by
 obtain ⟨ao, cap, rfl, h1, h2, h3⟩ := h;refine ⟨ao, cap, by rw [List.length_map], by rw [List.length_map]; exact h1, h2, fun i hi => ?_⟩;have hi' : i < fs.length := by rw [List.length_map] at hi; exact hi
 obtain ⟨b, o, rfl, hc⟩ := h3 i hi';refine ⟨b, o, rfl, World.block_lt_of_cell? w _ (hc 0 (by decide)), fun j hj => ?_⟩;rw [hc j hj, txE_get _ hj, List.getElem_map, tfX_tf _ hj]
theorem tx_load {w : World} {b o : Nat} {x : Fin 512 → Nat} (h : ∀ j, j < 512 → w.cell? ⟨b, o + j, none⟩ = (txE x)[j]?) : (Instr.loadAt 80 (.pointer (some ⟨b, o, none⟩))).run Tryz.prog w = .ok (.agg (txE x).toArray) w := by
 have := cells_tab (w := w) (b := b) (o := o) (f := tfX x) (fun p hp => by rw [h p hp, txE_get _ hp]);rw [this, txE, Array.toArray_toList]
theorem tx_neq (x y : Fin 512 → Nat) (w : World) : (binOp .neq 80 (.agg (txE x).toArray) (.agg (txE y).toArray)).run Tryz.prog w = .ok (.bool (!decide (∀ j ∈ List.range 512, tfX x j = tfX y j))) w := by
 rw [txE, txE, Array.toArray_toList, Array.toArray_toList, tab_neq2]
theorem tx_iff (x y : Fin 512 → Nat) : (∀ j ∈ List.range 512, tfX x j = tfX y j) ↔ x = y := by
 constructor
 ·intro h
  funext j
  have := h j.1 (List.mem_range.2 j.2);rw [tfX, tfX, dif_pos j.2, dif_pos j.2] at this;exact this
 ·intro h j _;rw [h]
theorem tx_guard : Tryz.prog.eqGuardType Tryz.prog.depth 80 = false := by kernel_rfl
def alike (I J : Im) : Prop := I.base = J.base ∧ I.master = J.master ∧ I.start = J.start ∧ (I.rams = J.rams ∧ I.devs = J.devs) ∧ I.chs = J.chs ∧ I.irqs = J.irqs ∧ I.plans = J.plans ∧ I.subs = J.subs ∧ I.ports = J.ports ∧ I.regs = J.regs ∧ I.tabs.map tf = J.tabs.map tf
theorem wpList_load_tyG {ops : Array Oper} {rest : List Oper} {o : Oper} {a : Act} {w : World} {Q : Exit → Act → World → Prop} (hw : Region.wanted o (yielded ops a.tmps) = true) (ty : TypeId) (x : Operand) (ho : o.op = .load ty x) {p V : Value} (hx : a.eval x = p) (hl : (Instr.loadAt ty p).run Tryz.prog w = .ok V w) (hk : wpList Tryz.prog ops Q rest (a.put o.dst V) w) : wpList Tryz.prog ops Q (o :: rest) a w :=
 wpList_wanted hw (by
  unfold Oper.wp execOp;simp only [ho, hx, Sem.run_bind, Sem.run_pure, Result.andThen_ok, hl];exact hk)
theorem bus_load {w : World} {b o : Nat} {u v : Value} (h1 : w.cell? ⟨b, o, none⟩ = some u) (h2 : w.cell? ⟨b, o + 1, none⟩ = some v) : (Instr.loadAt 25 (.pointer (some ⟨b, o, none⟩))).run Tryz.prog w = .ok (.agg #[u, v]) w := by
 have hS : Tryz.prog.underlying 25 = some (.struct (Tryz.prog.fieldsOf 25)) := by kernel_rfl
 have hz : (Tryz.prog.info? 25).map (·.size) = some 2 := by kernel_rfl
 have := run_loadAt_mid (P := Tryz.prog) w b o 25 [u, v] _ (fun j x hx => by
  match j, hx with
  | 0, hx => simp at hx; subst hx; exact h1
  | 1, hx => simp at hx; subst hx; exact h2
  | j + 2, hx => simp at hx) hS rfl hz
 simpa using this
theorem sameX {w : World} {ui vi : List Value} {I J : Im} (hI : ImA w ui I) (hJ : ImA w vi J) : Calls Tryz.prog 20 #[.agg ui.toArray, .agg vi.toArray] w (YN (alike I J) w) := by
 obtain ⟨uz0, uz1, uz2, uz3, uz4, uz5, uz6, uz7, uz8, uz9, uz10, uz11, rfl⟩ := list12 hI.len;have ue0 := hI.base.1;simp at ue0
 subst ue0;have ue9 := hI.master.1;simp at ue9
 subst ue9;have ue10 := hI.start.1;simp at ue10
 subst ue10;obtain ⟨uv1, ue1, uR1, _⟩ := hI.rams;simp at ue1
 subst ue1;have uH1 := Lib.hid uR1;obtain ⟨uv2, ue2, uR2, _⟩ := hI.devs;simp at ue2
 subst ue2;have uH2 := Lib.hid uR2;obtain ⟨uv3, ue3, uR3, _⟩ := hI.subs;simp at ue3
 subst ue3;have uH3 := Lib.hid uR3;obtain ⟨uv4, ue4, uR4, _⟩ := hI.ports;simp at ue4
 subst ue4;have uH4 := Lib.hid uR4;obtain ⟨uv5, ue5, uR5, _⟩ := hI.regs;simp at ue5
 subst ue5;have uH5 := Lib.hid uR5;obtain ⟨uv6, ue6, uR6, _⟩ := hI.chs;simp at ue6
 subst ue6;have uH6 := Lib.hid uR6;obtain ⟨uv7, ue7, uR7, _⟩ := hI.irqs;simp at ue7
 subst ue7;have uH7 := Lib.hid uR7;obtain ⟨uv8, ue8, uR8, _⟩ := hI.plans;simp at ue8
 subst ue8;have uH8 := Lib.hid uR8;obtain ⟨uv11, ue11, uR11, _⟩ := hI.tabs;simp at ue11
 subst ue11;replace uR11 := uR11.row;have uH11 := Lib.hid uR11;clear hI;obtain ⟨ua3, uc3, rfl, ul3, um3, _⟩ := uR3;unfold maxLen at um3;obtain ⟨un3, uq3⟩ : ∃ n, I.subs.length = n := ⟨_, rfl⟩
 have uN3 := Lib.hid uq3;rw [uq3] at ul3 uH3 ⊢;clear uq3;obtain ⟨ua4, uc4, rfl, ul4, um4, _⟩ := uR4;unfold maxLen at um4;obtain ⟨un4, uq4⟩ : ∃ n, I.ports.length = n := ⟨_, rfl⟩
 have uN4 := Lib.hid uq4;rw [uq4] at ul4 uH4 ⊢;clear uq4;obtain ⟨ua5, uc5, rfl, ul5, um5, _⟩ := uR5;unfold maxLen at um5;obtain ⟨un5, uq5⟩ : ∃ n, I.regs.length = n := ⟨_, rfl⟩
 have uN5 := Lib.hid uq5;rw [uq5] at ul5 uH5 ⊢;clear uq5;obtain ⟨uts, uhts⟩ : ∃ t, I.tabs.map tf = t := ⟨_, rfl⟩
 have uHTs := Lib.hid uhts;rw [uhts] at uR11 uH11;clear uhts;obtain ⟨ua11, uc11, rfl, ul11, um11, _⟩ := uR11;unfold maxLen at um11;obtain ⟨un11, uq11⟩ : ∃ n, uts.length = n := ⟨_, rfl⟩
 have uN11 := Lib.hid uq11;rw [uq11] at ul11 uH11 ⊢;clear uq11;clear uR1;clear uR2;clear uR6;clear uR7;clear uR8;have uHb : Hid (I.base = I.base) := show _ = _ from rfl
 obtain ⟨ib, hib⟩ : ∃ n, I.base = n := ⟨_, rfl⟩
 have HVib := Lib.hid hib;rw [hib];clear hib;obtain ⟨im, him⟩ : ∃ n, I.master = n := ⟨_, rfl⟩
 have HVim := Lib.hid him;rw [him];clear him;obtain ⟨is, his⟩ : ∃ n, I.start = n := ⟨_, rfl⟩
 have HVis := Lib.hid his;rw [his];clear his;clear uHb;obtain ⟨vz0, vz1, vz2, vz3, vz4, vz5, vz6, vz7, vz8, vz9, vz10, vz11, rfl⟩ := list12 hJ.len;have ve0 := hJ.base.1;simp at ve0
 subst ve0;have ve9 := hJ.master.1;simp at ve9
 subst ve9;have ve10 := hJ.start.1;simp at ve10
 subst ve10;obtain ⟨vv1, ve1, vR1, _⟩ := hJ.rams;simp at ve1
 subst ve1;have vH1 := Lib.hid vR1;obtain ⟨vv2, ve2, vR2, _⟩ := hJ.devs;simp at ve2
 subst ve2;have vH2 := Lib.hid vR2;obtain ⟨vv3, ve3, vR3, _⟩ := hJ.subs;simp at ve3
 subst ve3;have vH3 := Lib.hid vR3;obtain ⟨vv4, ve4, vR4, _⟩ := hJ.ports;simp at ve4
 subst ve4;have vH4 := Lib.hid vR4;obtain ⟨vv5, ve5, vR5, _⟩ := hJ.regs;simp at ve5
 subst ve5;have vH5 := Lib.hid vR5;obtain ⟨vv6, ve6, vR6, _⟩ := hJ.chs;simp at ve6
 subst ve6;have vH6 := Lib.hid vR6;obtain ⟨vv7, ve7, vR7, _⟩ := hJ.irqs;simp at ve7
 subst ve7;have vH7 := Lib.hid vR7;obtain ⟨vv8, ve8, vR8, _⟩ := hJ.plans;simp at ve8
 subst ve8;have vH8 := Lib.hid vR8;obtain ⟨vv11, ve11, vR11, _⟩ := hJ.tabs;simp at ve11
 subst ve11;replace vR11 := vR11.row;have vH11 := Lib.hid vR11;clear hJ;obtain ⟨va3, vc3, rfl, vl3, vm3, _⟩ := vR3;unfold maxLen at vm3;obtain ⟨vn3, vq3⟩ : ∃ n, J.subs.length = n := ⟨_, rfl⟩
 have vN3 := Lib.hid vq3;rw [vq3] at vl3 vH3 ⊢;clear vq3;obtain ⟨va4, vc4, rfl, vl4, vm4, _⟩ := vR4;unfold maxLen at vm4;obtain ⟨vn4, vq4⟩ : ∃ n, J.ports.length = n := ⟨_, rfl⟩
 have vN4 := Lib.hid vq4;rw [vq4] at vl4 vH4 ⊢;clear vq4;obtain ⟨va5, vc5, rfl, vl5, vm5, _⟩ := vR5;unfold maxLen at vm5;obtain ⟨vn5, vq5⟩ : ∃ n, J.regs.length = n := ⟨_, rfl⟩
 have vN5 := Lib.hid vq5;rw [vq5] at vl5 vH5 ⊢;clear vq5;obtain ⟨vts, vhts⟩ : ∃ t, J.tabs.map tf = t := ⟨_, rfl⟩
 have vHTs := Lib.hid vhts;rw [vhts] at vR11 vH11;clear vhts;obtain ⟨va11, vc11, rfl, vl11, vm11, _⟩ := vR11;unfold maxLen at vm11;obtain ⟨vn11, vq11⟩ : ∃ n, vts.length = n := ⟨_, rfl⟩
 have vN11 := Lib.hid vq11;rw [vq11] at vl11 vH11 ⊢;clear vq11;clear vR1;clear vR2;clear vR6;clear vR7;clear vR8;have vHb : Hid (J.base = J.base) := show _ = _ from rfl
 obtain ⟨jb, hjb⟩ : ∃ n, J.base = n := ⟨_, rfl⟩
 have HVjb := Lib.hid hjb;rw [hjb];clear hjb;obtain ⟨jm, hjm⟩ : ∃ n, J.master = n := ⟨_, rfl⟩
 have HVjm := Lib.hid hjm;rw [hjm];clear hjm;obtain ⟨js, hjs⟩ : ∃ n, J.start = n := ⟨_, rfl⟩
 have HVjs := Lib.hid hjs;rw [hjs];clear hjs;clear vHb;have s1 : (w.alloc (.cells #[.int .u64 (ib : Int), uz1, uz2, .slice ua3 un3 uc3, .slice ua4 un4 uc4, .slice ua5 un5 uc5, uz6, uz7, uz8, .int .i64 im, .int .i64 is, .slice ua11 un11 uc11] 33)).heap.size = w.heap.size + 1 := by simp
 have HB9 : Hid (Below w.heap.size w ((w.alloc (.cells #[.int .u64 (ib : Int), uz1, uz2, .slice ua3 un3 uc3, .slice ua4 un4 uc4, .slice ua5 un5 uc5, uz6, uz7, uz8, .int .i64 im, .int .i64 is, .slice ua11 un11 uc11] 33)).alloc (.cells #[.int .u64 (jb : Int), vz1, vz2, .slice va3 vn3 vc3, .slice va4 vn4 vc4, .slice va5 vn5 vc5, vz6, vz7, vz8, .int .i64 jm, .int .i64 js, .slice va11 vn11 vc11] 33))) := ((Below.refl _ _).alloc (Nat.le_refl _) _).alloc (by rw [s1]; omega) _;clear s1;obtain ⟨W9, hW9⟩ : ∃ W, W = ((w.alloc (.cells #[.int .u64 (ib : Int), uz1, uz2, .slice ua3 un3 uc3, .slice ua4 un4 uc4, .slice ua5 un5 uc5, uz6, uz7, uz8, .int .i64 im, .int .i64 is, .slice ua11 un11 uc11] 33)).alloc (.cells #[.int .u64 (jb : Int), vz1, vz2, .slice va3 vn3 vc3, .slice va4 vn4 vc4, .slice va5 vn5 vc5, vz6, vz7, vz8, .int .i64 jm, .int .i64 js, .slice va11 vn11 vc11] 33)) := ⟨_, rfl⟩
 have c0 : W9.cell? ⟨w.heap.size, 0, none⟩ = some (.int .u64 (ib : Int)) := by rw [hW9]; simp [go_sem]
 have c1 : W9.cell? ⟨w.heap.size, 1, none⟩ = some (uz1) := by rw [hW9]; simp [go_sem]
 have c2 : W9.cell? ⟨w.heap.size, 2, none⟩ = some (uz2) := by rw [hW9]; simp [go_sem]
 have c3 : W9.cell? ⟨w.heap.size, 3, none⟩ = some (.slice ua3 un3 uc3) := by rw [hW9]; simp [go_sem]
 have c4 : W9.cell? ⟨w.heap.size, 4, none⟩ = some (.slice ua4 un4 uc4) := by rw [hW9]; simp [go_sem]
 have c5 : W9.cell? ⟨w.heap.size, 5, none⟩ = some (.slice ua5 un5 uc5) := by rw [hW9]; simp [go_sem]
 have c6 : W9.cell? ⟨w.heap.size, 6, none⟩ = some (uz6) := by rw [hW9]; simp [go_sem]
 have c7 : W9.cell? ⟨w.heap.size, 7, none⟩ = some (uz7) := by rw [hW9]; simp [go_sem]
 have c8 : W9.cell? ⟨w.heap.size, 8, none⟩ = some (uz8) := by rw [hW9]; simp [go_sem]
 have c9 : W9.cell? ⟨w.heap.size, 9, none⟩ = some (.int .i64 im) := by rw [hW9]; simp [go_sem]
 have c10 : W9.cell? ⟨w.heap.size, 10, none⟩ = some (.int .i64 is) := by rw [hW9]; simp [go_sem]
 have c11 : W9.cell? ⟨w.heap.size, 11, none⟩ = some (.slice ua11 un11 uc11) := by rw [hW9]; simp [go_sem]
 have d0 : W9.cell? ⟨w.heap.size + 1, 0, none⟩ = some (.int .u64 (jb : Int)) := by rw [hW9]; simp [go_sem]
 have d1 : W9.cell? ⟨w.heap.size + 1, 1, none⟩ = some (vz1) := by rw [hW9]; simp [go_sem]
 have d2 : W9.cell? ⟨w.heap.size + 1, 2, none⟩ = some (vz2) := by rw [hW9]; simp [go_sem]
 have d3 : W9.cell? ⟨w.heap.size + 1, 3, none⟩ = some (.slice va3 vn3 vc3) := by rw [hW9]; simp [go_sem]
 have d4 : W9.cell? ⟨w.heap.size + 1, 4, none⟩ = some (.slice va4 vn4 vc4) := by rw [hW9]; simp [go_sem]
 have d5 : W9.cell? ⟨w.heap.size + 1, 5, none⟩ = some (.slice va5 vn5 vc5) := by rw [hW9]; simp [go_sem]
 have d6 : W9.cell? ⟨w.heap.size + 1, 6, none⟩ = some (vz6) := by rw [hW9]; simp [go_sem]
 have d7 : W9.cell? ⟨w.heap.size + 1, 7, none⟩ = some (vz7) := by rw [hW9]; simp [go_sem]
 have d8 : W9.cell? ⟨w.heap.size + 1, 8, none⟩ = some (vz8) := by rw [hW9]; simp [go_sem]
 have d9 : W9.cell? ⟨w.heap.size + 1, 9, none⟩ = some (.int .i64 jm) := by rw [hW9]; simp [go_sem]
 have d10 : W9.cell? ⟨w.heap.size + 1, 10, none⟩ = some (.int .i64 js) := by rw [hW9]; simp [go_sem]
 have d11 : W9.cell? ⟨w.heap.size + 1, 11, none⟩ = some (.slice va11 vn11 vc11) := by rw [hW9]; simp [go_sem]
 subst hW9;replace uH1 := Lib.hid (uH1.out.below HB9.out);replace uH2 := Lib.hid (uH2.out.below HB9.out);replace uH3 := Lib.hid (uH3.out.below HB9.out);replace uH4 := Lib.hid (uH4.out.below HB9.out);replace uH5 := Lib.hid (uH5.out.below HB9.out);replace uH6 := Lib.hid (uH6.out.below HB9.out);replace uH7 := Lib.hid (uH7.out.below HB9.out);replace uH8 := Lib.hid (uH8.out.below HB9.out);replace uH11 := Lib.hid (uH11.out.below HB9.out);replace vH1 := Lib.hid (vH1.out.below HB9.out);replace vH2 := Lib.hid (vH2.out.below HB9.out);replace vH3 := Lib.hid (vH3.out.below HB9.out);replace vH4 := Lib.hid (vH4.out.below HB9.out);replace vH5 := Lib.hid (vH5.out.below HB9.out);replace vH6 := Lib.hid (vH6.out.below HB9.out);replace vH7 := Lib.hid (vH7.out.below HB9.out);replace vH8 := Lib.hid (vH8.out.below HB9.out);replace vH11 := Lib.hid (vH11.out.below HB9.out);have Hc0 := Lib.hid c0;have Hc1 := Lib.hid c1;have Hc2 := Lib.hid c2;have Hc3 := Lib.hid c3;have Hc4 := Lib.hid c4;have Hc5 := Lib.hid c5;have Hc6 := Lib.hid c6;have Hc7 := Lib.hid c7;have Hc8 := Lib.hid c8;have Hc9 := Lib.hid c9;have Hc10 := Lib.hid c10;have Hc11 := Lib.hid c11;have Hd0 := Lib.hid d0;have Hd1 := Lib.hid d1;have Hd2 := Lib.hid d2;have Hd3 := Lib.hid d3;have Hd4 := Lib.hid d4;have Hd5 := Lib.hid d5;have Hd6 := Lib.hid d6;have Hd7 := Lib.hid d7;have Hd8 := Lib.hid d8;have Hd9 := Lib.hid d9;have Hd10 := Lib.hid d10;have Hd11 := Lib.hid d11;clear c3;clear c4;clear c5;clear c6;clear c7;clear c8;clear c11;clear d3;clear d4;clear d5;clear d6;clear d7;clear d8;clear d11;go_enter Tryz.func20, Tryz.ntmps20
 go_upto_region 1 with fail
 generalize ((w.alloc (.cells #[.int .u64 (ib : Int), uz1, uz2, .slice ua3 un3 uc3, .slice ua4 un4 uc4, .slice ua5 un5 uc5, uz6, uz7, uz8, .int .i64 im, .int .i64 is, .slice ua11 un11 uc11] 33)).alloc (.cells #[.int .u64 (jb : Int), vz1, vz2, .slice va3 vn3 vc3, .slice va4 vn4 vc4, .slice va5 vn5 vc5, vz6, vz7, vz8, .int .i64 jm, .int .i64 js, .slice va11 vn11 vc11] 33)) = W at *;have lb1 := bus_load c1 c2;have lb2 := bus_load d1 d2;clear c1 c2 d1 d2
 by_cases eb : ib = jb
 ·by_cases em : im = jm
  ·by_cases es : is = js
   ·subst eb em es;go_wp2_with (first | (refine wpList_load_tyG (by kernel_rfl) 25 (.tmp 29) rfl rfl lb1 ?_) | (refine wpList_load_tyG (by kernel_rfl) 25 (.tmp 31) rfl rfl lb2 ?_))
    clear c0 d0 c9 d9 c10 d10 lb1 lb2;refine Calls.mono (sameBusX uH1.out uH2.out vH1.out vH2.out) ?_;rintro e w1 ⟨r, rfl, hr, hb⟩;have HB : Hid (Below W.heap.size W w1) := hb;clear hb
    cases r with
    | false =>
     replace hr : ¬ _ := fun h => Bool.false_ne_true (hr.2 h);have HR := Lib.hid hr;clear hr;go_wp2_with fail
     go_ret
     exact YN.no (fun hp => HR.out hp.2.2.2.1) (HB9.out.trans (HB.out.mono HB9.out.size))
    | true =>
    have HP1 := Lib.hid (hr.1 rfl);clear hr;have c6 := cell_low HB.out Hc6.out;have d6 := cell_low HB.out Hd6.out;go_wp2_with fail
    refine Calls.mono (sameLinksX (uH6.out.below HB.out) (vH6.out.below HB.out)) ?_;rintro e w2 ⟨r, rfl, hr, hb⟩;replace HB : Hid (Below W.heap.size W w2) := HB.out.trans (hb.mono HB.out.size);clear hb;clear c6 d6
    cases r with
    | false =>
     replace hr : ¬ _ := fun h => Bool.false_ne_true (hr.2 h);have HR := Lib.hid hr;clear hr;go_wp2_with fail
     go_ret
     exact YN.no (fun hp => HR.out hp.2.2.2.2.1) (HB9.out.trans (HB.out.mono HB9.out.size))
    | true =>
    have HP2 := Lib.hid (hr.1 rfl);clear hr;have c7 := cell_low HB.out Hc7.out;have d7 := cell_low HB.out Hd7.out;go_wp2_with fail
    refine Calls.mono (sameLinksX (uH7.out.below HB.out) (vH7.out.below HB.out)) ?_;rintro e w3 ⟨r, rfl, hr, hb⟩;replace HB : Hid (Below W.heap.size W w3) := HB.out.trans (hb.mono HB.out.size);clear hb;clear c7 d7
    cases r with
    | false =>
     replace hr : ¬ _ := fun h => Bool.false_ne_true (hr.2 h);have HR := Lib.hid hr;clear hr;go_wp2_with fail
     go_ret
     exact YN.no (fun hp => HR.out hp.2.2.2.2.2.1) (HB9.out.trans (HB.out.mono HB9.out.size))
    | true =>
    have HP3 := Lib.hid (hr.1 rfl);clear hr;have c8 := cell_low HB.out Hc8.out;have d8 := cell_low HB.out Hd8.out;go_wp2_with fail
    refine Calls.mono (samePlansX (uH8.out.below HB.out) (vH8.out.below HB.out)) ?_;rintro e w4 ⟨r, rfl, hr, hb⟩;replace HB : Hid (Below W.heap.size W w4) := HB.out.trans (hb.mono HB.out.size);clear hb;clear c8 d8
    cases r with
    | false =>
     replace hr : ¬ _ := fun h => Bool.false_ne_true (hr.2 h);have HR := Lib.hid hr;clear hr;go_wp2_with fail
     go_ret
     exact YN.no (fun hp => HR.out hp.2.2.2.2.2.2.1) (HB9.out.trans (HB.out.mono HB9.out.size))
    | true =>
    have HP4 := Lib.hid (hr.1 rfl);clear hr;have c3 := cell_low HB.out Hc3.out;have d3 := cell_low HB.out Hd3.out;have c4 := cell_low HB.out Hc4.out;have d4 := cell_low HB.out Hd4.out;have c5 := cell_low HB.out Hc5.out;have d5 := cell_low HB.out Hd5.out;have c11 := cell_low HB.out Hc11.out;have d11 := cell_low HB.out Hd11.out
    by_cases en3 : un3 = vn3
    case neg =>
     have je : ¬ (un3 : Int) = (vn3 : Int) := by omega
     go_wp2_with fail
     go_ret
     exact YN.no (fun hp => en3 (by rw [← uN3.out, ← vN3.out, hp.2.2.2.2.2.2.2.1])) (HB9.out.trans (HB.out.mono HB9.out.size))
    subst en3
    by_cases en4 : un4 = vn4
    case neg =>
     have je : ¬ (un4 : Int) = (vn4 : Int) := by omega
     go_wp2_with fail
     go_ret
     exact YN.no (fun hp => en4 (by rw [← uN4.out, ← vN4.out, hp.2.2.2.2.2.2.2.2.1])) (HB9.out.trans (HB.out.mono HB9.out.size))
    subst en4
    by_cases en5 : un5 = vn5
    case neg =>
     have je : ¬ (un5 : Int) = (vn5 : Int) := by omega
     go_wp2_with fail
     go_ret
     exact YN.no (fun hp => en5 (by rw [← uN5.out, ← vN5.out, hp.2.2.2.2.2.2.2.2.2.1])) (HB9.out.trans (HB.out.mono HB9.out.size))
    subst en5
    by_cases en11 : un11 = vn11
    case neg =>
     have je : ¬ (un11 : Int) = (vn11 : Int) := by omega
     go_wp2_with fail
     go_ret
     exact YN.no (fun hp => en11 (by rw [← uN11.out, ← vN11.out, ← uHTs.out, ← vHTs.out, hp.2.2.2.2.2.2.2.2.2.2])) (HB9.out.trans (HB.out.mono HB9.out.size))
    subst en11;go_wp2_with fail
    clear c3 d3 c4 d4 c5 d5 c11 d11;have HB0 := HB;clear HB;generalize w4 = w5 at *;go_loopw [5] (fun iv wr => ∃ i : Nat, i ≤ un3 ∧ iv = .int .i64 (i : Int) ∧ Hid (∀ j (h1 : j < I.subs.length) (h2 : j < J.subs.length), j < i → I.subs[j] = J.subs[j]) ∧ Hid (Below W.heap.size W wr)) (fun iv _ => un3 - (intOf iv).toNat)
    case atStart => exact ⟨0, by omega, rfl, (fun j _ _ h => absurd h (Nat.not_lt_zero _)), HB0⟩
    clear HB0;obtain ⟨i, hi, rfl, HEq, HB⟩ := hrel;have c1 := cell_low HB.out Hc3.out;have c2 := cell_low HB.out Hd3.out
    by_cases hin : i < un3
    ·have ji : (i : Int) < (un3 : Int) := by omega
     have hix : i < I.subs.length := by rw [uN3.out]; exact hin
     have hiy : i < J.subs.length := by rw [vN3.out]; exact hin
     have hw1 : IntKind.i64.wrap ((i : Int) + 1) = ((i + 1 : Nat) : Int) := by rw [IntKind.wrap_i64]; omega
     obtain ⟨_, _, e', _, _, hc⟩ := uH3.out.below HB.out;simp only [Value.slice.injEq] at e';obtain ⟨rfl, e9, rfl⟩ := e';clear e9;obtain ⟨b, of, rfl, _, hc⟩ := hc i hix;obtain ⟨_, _, e', _, _, hd⟩ := vH3.out.below HB.out;simp only [Value.slice.injEq] at e';obtain ⟨rfl, e9, rfl⟩ := e';clear e9;obtain ⟨b', of', rfl, _, hd⟩ := hd i hiy;have HNx : Hid (I.subs[i] = J.subs[i] → ∀ j (h1 : j < I.subs.length) (h2 : j < J.subs.length), j < i + 1 → I.subs[j] = J.subs[j]) := fun e j h1 h2 h3 => by
      by_cases h : j = i
      ·subst h; exact e
      ·exact HEq.out j h1 h2 (by omega)
     have HNo : Hid (I.subs[i] ≠ J.subs[i] → ¬ I.subs = J.subs) := fun e h => e (by first | (subst h; rfl) | exact list_at h _ _);generalize I.subs[i] = x at *;generalize J.subs[i] = y at *;obtain ⟨T1, hT1⟩ : ∃ T1, Value.agg (tnE x).toArray = T1 := ⟨_, rfl⟩
     obtain ⟨T2, hT2⟩ : ∃ T2, Value.agg (tnE y).toArray = T2 := ⟨_, rfl⟩
     have l1 : ∀ k, (Instr.loadAt 66 (.pointer (some ⟨b, of + i * 6, none⟩))).run Tryz.prog (wr.drewN k) = .ok T1 (wr.drewN k) := fun k => by
      rw [← hT1];exact tn_load (w := wr.drewN k) hc
     have l2 : ∀ k, (Instr.loadAt 66 (.pointer (some ⟨b', of' + i * 6, none⟩))).run Tryz.prog (wr.drewN k) = .ok T2 (wr.drewN k) := fun k => by
      rw [← hT2];exact tn_load (w := wr.drewN k) hd
     have HT1 := Lib.hid hT1.symm;have HT2 := Lib.hid hT2.symm;clear hT1 hT2 hc hd
     by_cases hxy : x = y
     ·have HNq : Hid (∀ w, (binOp .neq 66 (.agg (tnE x).toArray) (.agg (tnE y).toArray)).run Tryz.prog w = .ok (.bool false) w) := fun w => by
       rw [tn_neq, decide_eq_true ((tn_iff x y).2 hxy)]
       rfl
      have HNz := Lib.hid (HNx.out hxy);go_upto_region 8 with fail
      refine wp_region_quiet_lit (by kernel_rfl) (by kernel_rfl) ?_;go_big_quiet_step (fail)
      go_big_quiet_step (fail)
      go_big_quiet_step (fail)
      go_big_quiet_step (fail)
      go_big_quiet_want
      refine quiet_load_ty 66 (.tmp 104) rfl rfl (fun W hW => by obtain ⟨k, rfl⟩ := hW; exact l1 k) ?_;intro a' ha';simp only [Act.put, List.setIfInBounds_toArray, List.set_cons_succ, List.set_cons_zero] at ha';subst ha';go_big_quiet_on
      go_big_quiet_step (fail)
      go_big_quiet_step (fail)
      go_big_quiet_step (fail)
      go_big_quiet_step (fail)
      go_big_quiet_want
      refine quiet_load_ty 66 (.tmp 109) rfl rfl (fun W hW => by obtain ⟨k, rfl⟩ := hW; exact l2 k) ?_;intro a' ha';simp only [Act.put, List.setIfInBounds_toArray, List.set_cons_succ, List.set_cons_zero] at ha';subst ha';go_big_quiet_on
      go_big_quiet_want
      refine quiet_neq_ty 66 (.tmp 105) (.tmp 110) rfl HT1.out HT2.out tn_guard HNq.out rfl rfl ?_;intro a' ha';simp only [Act.put, List.setIfInBounds_toArray, List.set_cons_succ, List.set_cons_zero] at ha';subst ha';go_big_quiet_on
      refine wpQuiet_nil ?_;intro W1 hw1';obtain ⟨nq, hw2'⟩ := hw1';subst hw2';have HB1 : Hid (Below W.heap.size W (wr.drewN nq)) := HB.out.trans ⟨rfl, rfl, rfl, Nat.le_refl _, fun _ _ => rfl⟩;clear HB l1 l2;generalize (wr.drewN nq) = W1 at *;go_wp2_with fail
      go_roundw
      case rel => exact ⟨i + 1, by omega, rfl, HNz, HB1⟩
      case measure => simp [intOf]; omega
     ·have HNq : Hid (∀ w, (binOp .neq 66 (.agg (tnE x).toArray) (.agg (tnE y).toArray)).run Tryz.prog w = .ok (.bool true) w) := fun w => by
       rw [tn_neq, decide_eq_false (fun h => hxy ((tn_iff x y).1 h))]
       rfl
      have HNz := Lib.hid (HNo.out hxy);go_upto_region 8 with fail
      refine wp_region_quiet_lit (by kernel_rfl) (by kernel_rfl) ?_;go_big_quiet_step (fail)
      go_big_quiet_step (fail)
      go_big_quiet_step (fail)
      go_big_quiet_step (fail)
      go_big_quiet_want
      refine quiet_load_ty 66 (.tmp 104) rfl rfl (fun W hW => by obtain ⟨k, rfl⟩ := hW; exact l1 k) ?_;intro a' ha';simp only [Act.put, List.setIfInBounds_toArray, List.set_cons_succ, List.set_cons_zero] at ha';subst ha';go_big_quiet_on
      go_big_quiet_step (fail)
      go_big_quiet_step (fail)
      go_big_quiet_step (fail)
      go_big_quiet_step (fail)
      go_big_quiet_want
      refine quiet_load_ty 66 (.tmp 109) rfl rfl (fun W hW => by obtain ⟨k, rfl⟩ := hW; exact l2 k) ?_;intro a' ha';simp only [Act.put, List.setIfInBounds_toArray, List.set_cons_succ, List.set_cons_zero] at ha';subst ha';go_big_quiet_on
      go_big_quiet_want
      refine quiet_neq_ty 66 (.tmp 105) (.tmp 110) rfl HT1.out HT2.out tn_guard HNq.out rfl rfl ?_;intro a' ha';simp only [Act.put, List.setIfInBounds_toArray, List.set_cons_succ, List.set_cons_zero] at ha';subst ha';go_big_quiet_on
      refine wpQuiet_nil ?_;intro W1 hw1';obtain ⟨nq, hw2'⟩ := hw1';subst hw2';have HB1 : Hid (Below W.heap.size W (wr.drewN nq)) := HB.out.trans ⟨rfl, rfl, rfl, Nat.le_refl _, fun _ _ => rfl⟩;clear HB l1 l2;generalize (wr.drewN nq) = W1 at *;go_wp2_with fail
      go_ret
      exact YN.no (fun hp => HNz.out hp.2.2.2.2.2.2.2.1) (HB9.out.trans (HB1.out.mono HB9.out.size))
    have ji : ¬ (i : Int) < (un3 : Int) := by omega
    have HFin : Hid (I.subs = J.subs) := list_eq_of (by rw [uN3.out, vN3.out]) (fun j h1 h2 => HEq.out j h1 h2 (by rw [uN3.out] at h1; omega));have HF3 := HFin;clear HFin HEq;go_wp2_with fail
    clear c1 c2 ji hin hi;have HB0 := HB;clear HB;generalize wr = w5 at *;go_loopw [6] (fun iv wr => ∃ i : Nat, i ≤ un4 ∧ iv = .int .i64 (i : Int) ∧ Hid (∀ j (h1 : j < I.ports.length) (h2 : j < J.ports.length), j < i → I.ports[j] = J.ports[j]) ∧ Hid (Below W.heap.size W wr)) (fun iv _ => un4 - (intOf iv).toNat)
    case atStart => exact ⟨0, by omega, rfl, (fun j _ _ h => absurd h (Nat.not_lt_zero _)), HB0⟩
    clear HB0;obtain ⟨i, hi, rfl, HEq, HB⟩ := hrel;have c1 := cell_low HB.out Hc4.out;have c2 := cell_low HB.out Hd4.out
    by_cases hin : i < un4
    ·have ji : (i : Int) < (un4 : Int) := by omega
     have hix : i < I.ports.length := by rw [uN4.out]; exact hin
     have hiy : i < J.ports.length := by rw [vN4.out]; exact hin
     have hw1 : IntKind.i64.wrap ((i : Int) + 1) = ((i + 1 : Nat) : Int) := by rw [IntKind.wrap_i64]; omega
     obtain ⟨_, _, e', _, _, hc⟩ := uH4.out.below HB.out;simp only [Value.slice.injEq] at e';obtain ⟨rfl, e9, rfl⟩ := e';clear e9;obtain ⟨b, of, rfl, _, hc⟩ := hc i hix;obtain ⟨_, _, e', _, _, hd⟩ := vH4.out.below HB.out;simp only [Value.slice.injEq] at e';obtain ⟨rfl, e9, rfl⟩ := e';clear e9;obtain ⟨b', of', rfl, _, hd⟩ := hd i hiy;simp only [Nat.mul_one] at hc hd;have HNx : Hid (I.ports[i] = J.ports[i] → ∀ j (h1 : j < I.ports.length) (h2 : j < J.ports.length), j < i + 1 → I.ports[j] = J.ports[j]) := fun e j h1 h2 h3 => by
      by_cases h : j = i
      ·subst h; exact e
      ·exact HEq.out j h1 h2 (by omega)
     have HNo : Hid (I.ports[i] ≠ J.ports[i] → ¬ I.ports = J.ports) := fun e h => e (by first | (subst h; rfl) | exact list_at h _ _);generalize I.ports[i] = x at *;generalize J.ports[i] = y at *;obtain ⟨T1, hT1⟩ : ∃ T1, Value.agg (poE x).toArray = T1 := ⟨_, rfl⟩
     obtain ⟨T2, hT2⟩ : ∃ T2, Value.agg (poE y).toArray = T2 := ⟨_, rfl⟩
     have l1 : ∀ k, (Instr.loadAt 68 (.pointer (some ⟨b, of + i, none⟩))).run Tryz.prog (wr.drewN k) = .ok T1 (wr.drewN k) := fun k => by
      rw [← hT1];exact po_load (w := wr.drewN k) hc
     have l2 : ∀ k, (Instr.loadAt 68 (.pointer (some ⟨b', of' + i, none⟩))).run Tryz.prog (wr.drewN k) = .ok T2 (wr.drewN k) := fun k => by
      rw [← hT2];exact po_load (w := wr.drewN k) hd
     have HT1 := Lib.hid hT1.symm;have HT2 := Lib.hid hT2.symm;clear hT1 hT2 hc hd
     by_cases hxy : x = y
     ·have HNq : Hid (∀ w, (binOp .neq 68 (.agg (poE x).toArray) (.agg (poE y).toArray)).run Tryz.prog w = .ok (.bool false) w) := fun w => by
       rw [po_neq, decide_eq_true ((po_iff x y).2 hxy)]
       rfl
      have HNz := Lib.hid (HNx.out hxy);go_upto_region 13 with fail
      refine wp_region_quiet_lit (by kernel_rfl) (by kernel_rfl) ?_;go_big_quiet_step (fail)
      go_big_quiet_step (fail)
      go_big_quiet_step (fail)
      go_big_quiet_step (fail)
      go_big_quiet_want
      refine quiet_load_ty 68 (.tmp 122) rfl rfl (fun W hW => by obtain ⟨k, rfl⟩ := hW; exact l1 k) ?_;intro a' ha';simp only [Act.put, List.setIfInBounds_toArray, List.set_cons_succ, List.set_cons_zero] at ha';subst ha';go_big_quiet_on
      go_big_quiet_step (fail)
      go_big_quiet_step (fail)
      go_big_quiet_step (fail)
      go_big_quiet_step (fail)
      go_big_quiet_want
      refine quiet_load_ty 68 (.tmp 127) rfl rfl (fun W hW => by obtain ⟨k, rfl⟩ := hW; exact l2 k) ?_;intro a' ha';simp only [Act.put, List.setIfInBounds_toArray, List.set_cons_succ, List.set_cons_zero] at ha';subst ha';go_big_quiet_on
      go_big_quiet_want
      refine quiet_neq_ty 68 (.tmp 123) (.tmp 128) rfl HT1.out HT2.out po_guard HNq.out rfl rfl ?_;intro a' ha';simp only [Act.put, List.setIfInBounds_toArray, List.set_cons_succ, List.set_cons_zero] at ha';subst ha';go_big_quiet_on
      refine wpQuiet_nil ?_;intro W1 hw1';obtain ⟨nq, hw2'⟩ := hw1';subst hw2';have HB1 : Hid (Below W.heap.size W (wr.drewN nq)) := HB.out.trans ⟨rfl, rfl, rfl, Nat.le_refl _, fun _ _ => rfl⟩;clear HB l1 l2;generalize (wr.drewN nq) = W1 at *;go_wp2_with fail
      go_roundw
      case rel => exact ⟨i + 1, by omega, rfl, HNz, HB1⟩
      case measure => simp [intOf]; omega
     ·have HNq : Hid (∀ w, (binOp .neq 68 (.agg (poE x).toArray) (.agg (poE y).toArray)).run Tryz.prog w = .ok (.bool true) w) := fun w => by
       rw [po_neq, decide_eq_false (fun h => hxy ((po_iff x y).1 h))]
       rfl
      have HNz := Lib.hid (HNo.out hxy);go_upto_region 13 with fail
      refine wp_region_quiet_lit (by kernel_rfl) (by kernel_rfl) ?_;go_big_quiet_step (fail)
      go_big_quiet_step (fail)
      go_big_quiet_step (fail)
      go_big_quiet_step (fail)
      go_big_quiet_want
      refine quiet_load_ty 68 (.tmp 122) rfl rfl (fun W hW => by obtain ⟨k, rfl⟩ := hW; exact l1 k) ?_;intro a' ha';simp only [Act.put, List.setIfInBounds_toArray, List.set_cons_succ, List.set_cons_zero] at ha';subst ha';go_big_quiet_on
      go_big_quiet_step (fail)
      go_big_quiet_step (fail)
      go_big_quiet_step (fail)
      go_big_quiet_step (fail)
      go_big_quiet_want
      refine quiet_load_ty 68 (.tmp 127) rfl rfl (fun W hW => by obtain ⟨k, rfl⟩ := hW; exact l2 k) ?_;intro a' ha';simp only [Act.put, List.setIfInBounds_toArray, List.set_cons_succ, List.set_cons_zero] at ha';subst ha';go_big_quiet_on
      go_big_quiet_want
      refine quiet_neq_ty 68 (.tmp 123) (.tmp 128) rfl HT1.out HT2.out po_guard HNq.out rfl rfl ?_;intro a' ha';simp only [Act.put, List.setIfInBounds_toArray, List.set_cons_succ, List.set_cons_zero] at ha';subst ha';go_big_quiet_on
      refine wpQuiet_nil ?_;intro W1 hw1';obtain ⟨nq, hw2'⟩ := hw1';subst hw2';have HB1 : Hid (Below W.heap.size W (wr.drewN nq)) := HB.out.trans ⟨rfl, rfl, rfl, Nat.le_refl _, fun _ _ => rfl⟩;clear HB l1 l2;generalize (wr.drewN nq) = W1 at *;go_wp2_with fail
      go_ret
      exact YN.no (fun hp => HNz.out hp.2.2.2.2.2.2.2.2.1) (HB9.out.trans (HB1.out.mono HB9.out.size))
    have ji : ¬ (i : Int) < (un4 : Int) := by omega
    have HFin : Hid (I.ports = J.ports) := list_eq_of (by rw [uN4.out, vN4.out]) (fun j h1 h2 => HEq.out j h1 h2 (by rw [uN4.out] at h1; omega));have HF4 := HFin;clear HFin HEq;go_wp2_with fail
    clear c1 c2 ji hin hi;have HB0 := HB;clear HB;generalize wr = w5 at *;go_loopw [7] (fun iv wr => ∃ i : Nat, i ≤ un5 ∧ iv = .int .i64 (i : Int) ∧ Hid (∀ j (h1 : j < I.regs.length) (h2 : j < J.regs.length), j < i → I.regs[j] = J.regs[j]) ∧ Hid (Below W.heap.size W wr)) (fun iv _ => un5 - (intOf iv).toNat)
    case atStart => exact ⟨0, by omega, rfl, (fun j _ _ h => absurd h (Nat.not_lt_zero _)), HB0⟩
    clear HB0;obtain ⟨i, hi, rfl, HEq, HB⟩ := hrel;have c1 := cell_low HB.out Hc5.out;have c2 := cell_low HB.out Hd5.out
    by_cases hin : i < un5
    ·have ji : (i : Int) < (un5 : Int) := by omega
     have hix : i < I.regs.length := by rw [uN5.out]; exact hin
     have hiy : i < J.regs.length := by rw [vN5.out]; exact hin
     have hw1 : IntKind.i64.wrap ((i : Int) + 1) = ((i + 1 : Nat) : Int) := by rw [IntKind.wrap_i64]; omega
     obtain ⟨_, _, e', _, _, hc⟩ := uH5.out.below HB.out;simp only [Value.slice.injEq] at e';obtain ⟨rfl, e9, rfl⟩ := e';clear e9;obtain ⟨b, of, rfl, _, hc⟩ := hc i hix;obtain ⟨_, _, e', _, _, hd⟩ := vH5.out.below HB.out;simp only [Value.slice.injEq] at e';obtain ⟨rfl, e9, rfl⟩ := e';clear e9;obtain ⟨b', of', rfl, _, hd⟩ := hd i hiy;have HNx : Hid (I.regs[i] = J.regs[i] → ∀ j (h1 : j < I.regs.length) (h2 : j < J.regs.length), j < i + 1 → I.regs[j] = J.regs[j]) := fun e j h1 h2 h3 => by
      by_cases h : j = i
      ·subst h; exact e
      ·exact HEq.out j h1 h2 (by omega)
     have HNo : Hid (I.regs[i] ≠ J.regs[i] → ¬ I.regs = J.regs) := fun e h => e (by first | (subst h; rfl) | exact list_at h _ _);generalize I.regs[i] = x at *;generalize J.regs[i] = y at *;obtain ⟨T1, hT1⟩ : ∃ T1, Value.agg (gdE x).toArray = T1 := ⟨_, rfl⟩
     obtain ⟨T2, hT2⟩ : ∃ T2, Value.agg (gdE y).toArray = T2 := ⟨_, rfl⟩
     have l1 : ∀ k, (Instr.loadAt 70 (.pointer (some ⟨b, of + i * 4, none⟩))).run Tryz.prog (wr.drewN k) = .ok T1 (wr.drewN k) := fun k => by
      rw [← hT1];exact gd_load (w := wr.drewN k) hc
     have l2 : ∀ k, (Instr.loadAt 70 (.pointer (some ⟨b', of' + i * 4, none⟩))).run Tryz.prog (wr.drewN k) = .ok T2 (wr.drewN k) := fun k => by
      rw [← hT2];exact gd_load (w := wr.drewN k) hd
     have HT1 := Lib.hid hT1.symm;have HT2 := Lib.hid hT2.symm;clear hT1 hT2 hc hd
     by_cases hxy : x = y
     ·have HNq : Hid (∀ w, (binOp .neq 70 (.agg (gdE x).toArray) (.agg (gdE y).toArray)).run Tryz.prog w = .ok (.bool false) w) := fun w => by
       rw [gd_neq, decide_eq_true ((gd_iff x y).2 hxy)]
       rfl
      have HNz := Lib.hid (HNx.out hxy);go_upto_region 18 with fail
      refine wp_region_quiet_lit (by kernel_rfl) (by kernel_rfl) ?_;go_big_quiet_step (fail)
      go_big_quiet_step (fail)
      go_big_quiet_step (fail)
      go_big_quiet_step (fail)
      go_big_quiet_want
      refine quiet_load_ty 70 (.tmp 140) rfl rfl (fun W hW => by obtain ⟨k, rfl⟩ := hW; exact l1 k) ?_;intro a' ha';simp only [Act.put, List.setIfInBounds_toArray, List.set_cons_succ, List.set_cons_zero] at ha';subst ha';go_big_quiet_on
      go_big_quiet_step (fail)
      go_big_quiet_step (fail)
      go_big_quiet_step (fail)
      go_big_quiet_step (fail)
      go_big_quiet_want
      refine quiet_load_ty 70 (.tmp 145) rfl rfl (fun W hW => by obtain ⟨k, rfl⟩ := hW; exact l2 k) ?_;intro a' ha';simp only [Act.put, List.setIfInBounds_toArray, List.set_cons_succ, List.set_cons_zero] at ha';subst ha';go_big_quiet_on
      go_big_quiet_want
      refine quiet_neq_ty 70 (.tmp 141) (.tmp 146) rfl HT1.out HT2.out gd_guard HNq.out rfl rfl ?_;intro a' ha';simp only [Act.put, List.setIfInBounds_toArray, List.set_cons_succ, List.set_cons_zero] at ha';subst ha';go_big_quiet_on
      refine wpQuiet_nil ?_;intro W1 hw1';obtain ⟨nq, hw2'⟩ := hw1';subst hw2';have HB1 : Hid (Below W.heap.size W (wr.drewN nq)) := HB.out.trans ⟨rfl, rfl, rfl, Nat.le_refl _, fun _ _ => rfl⟩;clear HB l1 l2;generalize (wr.drewN nq) = W1 at *;go_wp2_with fail
      go_roundw
      case rel => exact ⟨i + 1, by omega, rfl, HNz, HB1⟩
      case measure => simp [intOf]; omega
     ·have HNq : Hid (∀ w, (binOp .neq 70 (.agg (gdE x).toArray) (.agg (gdE y).toArray)).run Tryz.prog w = .ok (.bool true) w) := fun w => by
       rw [gd_neq, decide_eq_false (fun h => hxy ((gd_iff x y).1 h))]
       rfl
      have HNz := Lib.hid (HNo.out hxy);go_upto_region 18 with fail
      refine wp_region_quiet_lit (by kernel_rfl) (by kernel_rfl) ?_;go_big_quiet_step (fail)
      go_big_quiet_step (fail)
      go_big_quiet_step (fail)
      go_big_quiet_step (fail)
      go_big_quiet_want
      refine quiet_load_ty 70 (.tmp 140) rfl rfl (fun W hW => by obtain ⟨k, rfl⟩ := hW; exact l1 k) ?_;intro a' ha';simp only [Act.put, List.setIfInBounds_toArray, List.set_cons_succ, List.set_cons_zero] at ha';subst ha';go_big_quiet_on
      go_big_quiet_step (fail)
      go_big_quiet_step (fail)
      go_big_quiet_step (fail)
      go_big_quiet_step (fail)
      go_big_quiet_want
      refine quiet_load_ty 70 (.tmp 145) rfl rfl (fun W hW => by obtain ⟨k, rfl⟩ := hW; exact l2 k) ?_;intro a' ha';simp only [Act.put, List.setIfInBounds_toArray, List.set_cons_succ, List.set_cons_zero] at ha';subst ha';go_big_quiet_on
      go_big_quiet_want
      refine quiet_neq_ty 70 (.tmp 141) (.tmp 146) rfl HT1.out HT2.out gd_guard HNq.out rfl rfl ?_;intro a' ha';simp only [Act.put, List.setIfInBounds_toArray, List.set_cons_succ, List.set_cons_zero] at ha';subst ha';go_big_quiet_on
      refine wpQuiet_nil ?_;intro W1 hw1';obtain ⟨nq, hw2'⟩ := hw1';subst hw2';have HB1 : Hid (Below W.heap.size W (wr.drewN nq)) := HB.out.trans ⟨rfl, rfl, rfl, Nat.le_refl _, fun _ _ => rfl⟩;clear HB l1 l2;generalize (wr.drewN nq) = W1 at *;go_wp2_with fail
      go_ret
      exact YN.no (fun hp => HNz.out hp.2.2.2.2.2.2.2.2.2.1) (HB9.out.trans (HB1.out.mono HB9.out.size))
    have ji : ¬ (i : Int) < (un5 : Int) := by omega
    have HFin : Hid (I.regs = J.regs) := list_eq_of (by rw [uN5.out, vN5.out]) (fun j h1 h2 => HEq.out j h1 h2 (by rw [uN5.out] at h1; omega));have HF5 := HFin;clear HFin HEq;go_wp2_with fail
    clear c1 c2 ji hin hi;have HB0 := HB;clear HB;generalize wr = w5 at *;go_loopw [8] (fun iv wr => ∃ i : Nat, i ≤ un11 ∧ iv = .int .i64 (i : Int) ∧ Hid (∀ j (h1 : j < uts.length) (h2 : j < vts.length), j < i → uts[j] = vts[j]) ∧ Hid (Below W.heap.size W wr)) (fun iv _ => un11 - (intOf iv).toNat)
    case atStart => exact ⟨0, by omega, rfl, (fun j _ _ h => absurd h (Nat.not_lt_zero _)), HB0⟩
    clear HB0;obtain ⟨i, hi, rfl, HEq, HB⟩ := hrel;have c1 := cell_low HB.out Hc11.out;have c2 := cell_low HB.out Hd11.out
    by_cases hin : i < un11
    ·have ji : (i : Int) < (un11 : Int) := by omega
     have hix : i < uts.length := by rw [uN11.out]; exact hin
     have hiy : i < vts.length := by rw [vN11.out]; exact hin
     have hw1 : IntKind.i64.wrap ((i : Int) + 1) = ((i + 1 : Nat) : Int) := by rw [IntKind.wrap_i64]; omega
     obtain ⟨_, _, e', _, _, hc⟩ := uH11.out.below HB.out;simp only [Value.slice.injEq] at e';obtain ⟨rfl, e9, rfl⟩ := e';clear e9;obtain ⟨b, of, rfl, _, hc⟩ := hc i hix;obtain ⟨_, _, e', _, _, hd⟩ := vH11.out.below HB.out;simp only [Value.slice.injEq] at e';obtain ⟨rfl, e9, rfl⟩ := e';clear e9;obtain ⟨b', of', rfl, _, hd⟩ := hd i hiy;have HNx : Hid (uts[i] = vts[i] → ∀ j (h1 : j < uts.length) (h2 : j < vts.length), j < i + 1 → uts[j] = vts[j]) := fun e j h1 h2 h3 => by
      by_cases h : j = i
      ·subst h; exact e
      ·exact HEq.out j h1 h2 (by omega)
     have HNo : Hid (uts[i] ≠ vts[i] → ¬ uts = vts) := fun e h => e (by first | (subst h; rfl) | exact list_at h _ _);generalize uts[i] = x at *;generalize vts[i] = y at *;obtain ⟨T1, hT1⟩ : ∃ T1, Value.agg (txE x).toArray = T1 := ⟨_, rfl⟩
     obtain ⟨T2, hT2⟩ : ∃ T2, Value.agg (txE y).toArray = T2 := ⟨_, rfl⟩
     have l1 : ∀ k, (Instr.loadAt 80 (.pointer (some ⟨b, of + i * 512, none⟩))).run Tryz.prog (wr.drewN k) = .ok T1 (wr.drewN k) := fun k => by
      rw [← hT1];exact tx_load (w := wr.drewN k) hc
     have l2 : ∀ k, (Instr.loadAt 80 (.pointer (some ⟨b', of' + i * 512, none⟩))).run Tryz.prog (wr.drewN k) = .ok T2 (wr.drewN k) := fun k => by
      rw [← hT2];exact tx_load (w := wr.drewN k) hd
     have HT1 := Lib.hid hT1.symm;have HT2 := Lib.hid hT2.symm;clear hT1 hT2 hc hd
     by_cases hxy : x = y
     ·have HNq : Hid (∀ w, (binOp .neq 80 (.agg (txE x).toArray) (.agg (txE y).toArray)).run Tryz.prog w = .ok (.bool false) w) := fun w => by
       rw [tx_neq, decide_eq_true ((tx_iff x y).2 hxy)]
       rfl
      have HNz := Lib.hid (HNx.out hxy);go_upto_region 23 with fail
      refine wp_region_quiet_lit (by kernel_rfl) (by kernel_rfl) ?_;go_big_quiet_step (fail)
      go_big_quiet_step (fail)
      go_big_quiet_step (fail)
      go_big_quiet_step (fail)
      go_big_quiet_want
      refine quiet_load_ty 80 (.tmp 158) rfl rfl (fun W hW => by obtain ⟨k, rfl⟩ := hW; exact l1 k) ?_;intro a' ha';simp only [Act.put, List.setIfInBounds_toArray, List.set_cons_succ, List.set_cons_zero] at ha';subst ha';go_big_quiet_on
      go_big_quiet_step (fail)
      go_big_quiet_step (fail)
      go_big_quiet_step (fail)
      go_big_quiet_step (fail)
      go_big_quiet_want
      refine quiet_load_ty 80 (.tmp 163) rfl rfl (fun W hW => by obtain ⟨k, rfl⟩ := hW; exact l2 k) ?_;intro a' ha';simp only [Act.put, List.setIfInBounds_toArray, List.set_cons_succ, List.set_cons_zero] at ha';subst ha';go_big_quiet_on
      go_big_quiet_want
      refine quiet_neq_ty 80 (.tmp 159) (.tmp 164) rfl HT1.out HT2.out tx_guard HNq.out rfl rfl ?_;intro a' ha';simp only [Act.put, List.setIfInBounds_toArray, List.set_cons_succ, List.set_cons_zero] at ha';subst ha';go_big_quiet_on
      refine wpQuiet_nil ?_;intro W1 hw1';obtain ⟨nq, hw2'⟩ := hw1';subst hw2';have HB1 : Hid (Below W.heap.size W (wr.drewN nq)) := HB.out.trans ⟨rfl, rfl, rfl, Nat.le_refl _, fun _ _ => rfl⟩;clear HB l1 l2;generalize (wr.drewN nq) = W1 at *;go_wp2_with fail
      go_roundw
      case rel => exact ⟨i + 1, by omega, rfl, HNz, HB1⟩
      case measure => simp [intOf]; omega
     ·have HNq : Hid (∀ w, (binOp .neq 80 (.agg (txE x).toArray) (.agg (txE y).toArray)).run Tryz.prog w = .ok (.bool true) w) := fun w => by
       rw [tx_neq, decide_eq_false (fun h => hxy ((tx_iff x y).1 h))]
       rfl
      have HNz := Lib.hid (HNo.out hxy);go_upto_region 23 with fail
      refine wp_region_quiet_lit (by kernel_rfl) (by kernel_rfl) ?_;go_big_quiet_step (fail)
      go_big_quiet_step (fail)
      go_big_quiet_step (fail)
      go_big_quiet_step (fail)
      go_big_quiet_want
      refine quiet_load_ty 80 (.tmp 158) rfl rfl (fun W hW => by obtain ⟨k, rfl⟩ := hW; exact l1 k) ?_;intro a' ha';simp only [Act.put, List.setIfInBounds_toArray, List.set_cons_succ, List.set_cons_zero] at ha';subst ha';go_big_quiet_on
      go_big_quiet_step (fail)
      go_big_quiet_step (fail)
      go_big_quiet_step (fail)
      go_big_quiet_step (fail)
      go_big_quiet_want
      refine quiet_load_ty 80 (.tmp 163) rfl rfl (fun W hW => by obtain ⟨k, rfl⟩ := hW; exact l2 k) ?_;intro a' ha';simp only [Act.put, List.setIfInBounds_toArray, List.set_cons_succ, List.set_cons_zero] at ha';subst ha';go_big_quiet_on
      go_big_quiet_want
      refine quiet_neq_ty 80 (.tmp 159) (.tmp 164) rfl HT1.out HT2.out tx_guard HNq.out rfl rfl ?_;intro a' ha';simp only [Act.put, List.setIfInBounds_toArray, List.set_cons_succ, List.set_cons_zero] at ha';subst ha';go_big_quiet_on
      refine wpQuiet_nil ?_;intro W1 hw1';obtain ⟨nq, hw2'⟩ := hw1';subst hw2';have HB1 : Hid (Below W.heap.size W (wr.drewN nq)) := HB.out.trans ⟨rfl, rfl, rfl, Nat.le_refl _, fun _ _ => rfl⟩;clear HB l1 l2;generalize (wr.drewN nq) = W1 at *;go_wp2_with fail
      go_ret
      exact YN.no (fun hp => HNz.out (by rw [← uHTs.out, ← vHTs.out]; exact hp.2.2.2.2.2.2.2.2.2.2)) (HB9.out.trans (HB1.out.mono HB9.out.size))
    have ji : ¬ (i : Int) < (un11 : Int) := by omega
    have HFin : Hid (uts = vts) := list_eq_of (by rw [uN11.out, vN11.out]) (fun j h1 h2 => HEq.out j h1 h2 (by rw [uN11.out] at h1; omega));have HF11 := HFin;clear HFin HEq;go_wp2_with fail
    go_ret
    exact YN.yes ⟨by rw [HVib.out, HVjb.out], by rw [HVim.out, HVjm.out], by rw [HVis.out, HVjs.out], HP1.out, HP2.out, HP3.out, HP4.out, HF3.out, HF4.out, HF5.out, by rw [uHTs.out, vHTs.out]; exact HF11.out⟩ (HB9.out.trans (HB.out.mono HB9.out.size))
   ·clear lb1 lb2;go_wp2_with fail
    go_ret
    exact YN.no (fun hp => es (by rw [← HVis.out, ← HVjs.out, hp.2.2.1])) HB9.out
  ·clear lb1 lb2;go_wp2_with fail
   go_ret
   exact YN.no (fun hp => em (by rw [← HVim.out, ← HVjm.out, hp.2.1])) HB9.out
 ·clear lb1 lb2;have eb' : ¬ (ib : Int) = (jb : Int) := by omega
  go_wp2_with fail
  go_ret
  exact YN.no (fun hp => eb (by rw [← HVib.out, ← HVjb.out, hp.1])) HB9.out
end Go.Proofs.YtmfkggngjeolcaaGreatDoor
