import Derived.Test.YtnifefmfhjfbnaaGreatDoorPk21
/- Bundle: what the reader takes, thing by thing (written by parts/gen_dcone.py). Own work. -/
namespace Go.Proofs.YtnifefmfhjfbnaaGreatDoor
open Go.RowKit Bn Dc
set_option linter.unusedVariables false
set_option linter.unusedSimpArgs false
section
variable {B kb : Nat} {raw : Value} {im en : List Value} {q : Pt} {p g : Nat} {w0 : World} {s : D} {w w' : World}
set_option maxRecDepth 100000 in
set_option maxHeartbeats 4000000 in
theorem tenX (h : Dt B kb raw im en q p g w0 s w) : Calls Tryz.prog 93 #[.pointer (some ⟨kb, 0, none⟩)] w fun e w' => e = .returned (.agg (tnE (tenD q s).1).toArray) ∧ Dt B kb raw im en q p g w0 (tenD q s).2 w' := by
 obtain ⟨h1, hf1, hb1, hl1⟩ := h.boxed (.cells ([.int .i64 0, .int .i64 0, .bool false, .int .i64 0, .int .i64 0, .int .i64 0] : List Value).toArray 71)
 have HF := Lib.hid hf1
 have HS : Hid (w0.heap.size ≤ w.heap.size) := h.fr.size
 have HB : Hid (∀ W t, Dt B kb raw im en q p g (w.alloc (.cells ([.int .i64 0, .int .i64 0, .bool false, .int .i64 0, .int .i64 0, .int .i64 0] : List Value).toArray 71)) t W → W.heap[w.heap.size]? = some (.cells ([.int .i64 0, .int .i64 0, .bool false, .int .i64 0, .int .i64 0, .int .i64 0] : List Value).toArray 71 (0, 0))) := fun W t hW => hW.box hb1 (by decide) (by decide)
 have H0 : Hid (Dt B kb raw im en q p g (w.alloc (.cells ([.int .i64 0, .int .i64 0, .bool false, .int .i64 0, .int .i64 0, .int .i64 0] : List Value).toArray 71)) s (w.alloc (.cells ([.int .i64 0, .int .i64 0, .bool false, .int .i64 0, .int .i64 0, .int .i64 0] : List Value).toArray 71))) := h1
 clear h h1 hf1 hb1 hl1
 obtain ⟨v0, s1, e0⟩ : ∃ v t, takeD q 1 s = (v, t) := ⟨_, _, rfl⟩
 obtain ⟨v1, s2, e1⟩ : ∃ v t, flagD q s1 = (v, t) := ⟨_, _, rfl⟩
 obtain ⟨v2, s3, e2⟩ : ∃ v t, takeD q 1 s2 = (v, t) := ⟨_, _, rfl⟩
 obtain ⟨v3, s4, e3⟩ : ∃ v t, takeD q 1 s3 = (v, t) := ⟨_, _, rfl⟩
 obtain ⟨v4, s5, e4⟩ : ∃ v t, noneD q s4 = (v, t) := ⟨_, _, rfl⟩
 obtain ⟨v5, s6, e5⟩ : ∃ v t, noneD q s5 = (v, t) := ⟨_, _, rfl⟩
 have K0 : Hid (∀ W w9, Hid (Dt B kb raw im en q p g w9 s W) → Calls Tryz.prog 122 #[.pointer (some ⟨kb, 0, none⟩)] W fun e w' => e = .returned (.int .i64 (v0 : Nat)) ∧ Dt B kb raw im en q p g w9 s1 w') := fun W w9 hW => by have h9 := dbyteX hW.out; rw [e0] at h9; exact h9
 have K1 : Hid (∀ W w9, Hid (Dt B kb raw im en q p g w9 s1 W) → Calls Tryz.prog 123 #[.pointer (some ⟨kb, 0, none⟩)] W fun e w' => e = .returned (.bool v1) ∧ Dt B kb raw im en q p g w9 s2 w') := fun W w9 hW => by have h9 := dflagX hW.out; rw [e1] at h9; exact h9
 have K2 : Hid (∀ W w9, Hid (Dt B kb raw im en q p g w9 s2 W) → Calls Tryz.prog 122 #[.pointer (some ⟨kb, 0, none⟩)] W fun e w' => e = .returned (.int .i64 (v2 : Nat)) ∧ Dt B kb raw im en q p g w9 s3 w') := fun W w9 hW => by have h9 := dbyteX hW.out; rw [e2] at h9; exact h9
 have K3 : Hid (∀ W w9, Hid (Dt B kb raw im en q p g w9 s3 W) → Calls Tryz.prog 122 #[.pointer (some ⟨kb, 0, none⟩)] W fun e w' => e = .returned (.int .i64 (v3 : Nat)) ∧ Dt B kb raw im en q p g w9 s4 w') := fun W w9 hW => by have h9 := dbyteX hW.out; rw [e3] at h9; exact h9
 have K4 : Hid (∀ W w9, Hid (Dt B kb raw im en q p g w9 s4 W) → Calls Tryz.prog 101 #[.pointer (some ⟨kb, 0, none⟩)] W fun e w' => e = .returned (.int .i64 v4) ∧ Dt B kb raw im en q p g w9 s5 w') := fun W w9 hW => by have h9 := dnoneX hW.out; rw [e4] at h9; exact h9
 have K5 : Hid (∀ W w9, Hid (Dt B kb raw im en q p g w9 s5 W) → Calls Tryz.prog 101 #[.pointer (some ⟨kb, 0, none⟩)] W fun e w' => e = .returned (.int .i64 v5) ∧ Dt B kb raw im en q p g w9 s6 w') := fun W w9 hW => by have h9 := dnoneX hW.out; rw [e5] at h9; exact h9
 have HE : tenD q s = ((⟨v0, v5, v1, v2, v4, v3⟩ : Tn), s6) := by simp only [tenD, e0, e1, e2, e3, e4, e5]
 rw [HE]
 clear HE e0 e1 e2 e3 e4 e5
 dsimp only
 go_enter Tryz.func93, Tryz.ntmps93
 go_wp2_with fail
 refine (K0.out _ _ H0).mono ?_
 rintro e w1 ⟨rfl, h9⟩
 have H1 : Hid (Dt B kb raw im en q p g (w.alloc (.cells ([.int .i64 0, .int .i64 0, .bool false, .int .i64 0, .int .i64 0, .int .i64 0] : List Value).toArray 71)) s1 w1) := h9
 clear h9 H0 K0
 go_wp2_with fail
 refine (K1.out _ _ H1).mono ?_
 rintro e w2 ⟨rfl, h9⟩
 have H2 : Hid (Dt B kb raw im en q p g (w.alloc (.cells ([.int .i64 0, .int .i64 0, .bool false, .int .i64 0, .int .i64 0, .int .i64 0] : List Value).toArray 71)) s2 w2) := h9
 clear h9 H1 K1
 go_wp2_with fail
 refine (K2.out _ _ H2).mono ?_
 rintro e w3 ⟨rfl, h9⟩
 have H3 : Hid (Dt B kb raw im en q p g (w.alloc (.cells ([.int .i64 0, .int .i64 0, .bool false, .int .i64 0, .int .i64 0, .int .i64 0] : List Value).toArray 71)) s3 w3) := h9
 clear h9 H2 K2
 go_wp2_with fail
 refine (K3.out _ _ H3).mono ?_
 rintro e w4 ⟨rfl, h9⟩
 have H4 : Hid (Dt B kb raw im en q p g (w.alloc (.cells ([.int .i64 0, .int .i64 0, .bool false, .int .i64 0, .int .i64 0, .int .i64 0] : List Value).toArray 71)) s4 w4) := h9
 clear h9 H3 K3
 go_wp2_with fail
 refine (K4.out _ _ H4).mono ?_
 rintro e w5 ⟨rfl, h9⟩
 have H5 : Hid (Dt B kb raw im en q p g (w.alloc (.cells ([.int .i64 0, .int .i64 0, .bool false, .int .i64 0, .int .i64 0, .int .i64 0] : List Value).toArray 71)) s5 w5) := h9
 clear h9 H4 K4
 go_wp2_with fail
 refine (K5.out _ _ H5).mono ?_
 rintro e w6 ⟨rfl, h9⟩
 have H6 : Hid (Dt B kb raw im en q p g (w.alloc (.cells ([.int .i64 0, .int .i64 0, .bool false, .int .i64 0, .int .i64 0, .int .i64 0] : List Value).toArray 71)) s6 w6) := h9
 clear h9 H5 K5
 have hbx := HB.out _ _ H6.out
 have d0 := box_cell hbx 0
 have f0 := box_free hbx 0
 have d1 := box_cell hbx 1
 have f1 := box_free hbx 1
 have d2 := box_cell hbx 2
 have f2 := box_free hbx 2
 have d3 := box_cell hbx 3
 have f3 := box_free hbx 3
 have d4 := box_cell hbx 4
 have f4 := box_free hbx 4
 have d5 := box_cell hbx 5
 have f5 := box_free hbx 5
 simp only [List.getElem?_cons_zero, List.getElem?_cons_succ] at d0 d1 d2 d3 d4 d5
 have HD : Hid (Db 71 w.heap.size B kb raw im en q p g w0 s6 w6) := ⟨H6.out.since HF.out, ⟨_, hbx⟩, HS.out, by decide, by decide, by decide⟩
 have HZ := Lib.hid hbx
 clear hbx H6 HB HF HS
 go_wp2_with fail
 generalize hW : World.setCell _ _ _ = W
 have hz : W.heap[w.heap.size]? = some (.cells (tnE (⟨v0, v5, v1, v2, v4, v3⟩ : Tn)).toArray 71 (0, 0)) := by rw [← hW]; exact (box_set (box_set (box_set (box_set (box_set (box_set HZ.out _ _) _ _) _ _) _ _) _ _) _ _)
 have HW : Hid (Dt B kb raw im en q p g w0 s6 W) := by
  refine Db.dt (t := 71) (n := w.heap.size) ?_
  rw [← hW]
  exact (Db.set (Db.set (Db.set (Db.set (Db.set (Db.set HD.out _ _) _ _) _ _) _ _) _ _) _ _)
 clear hW HD HZ d0 f0 d1 f1 d2 f2 d3 f3 d4 f4 d5 f5
 simp only [tnE] at hz
 have g0 := box_cell hz 0
 have g1 := box_cell hz 1
 have g2 := box_cell hz 2
 have g3 := box_cell hz 3
 have g4 := box_cell hz 4
 have g5 := box_cell hz 5
 simp only [List.getElem?_cons_zero, List.getElem?_cons_succ] at g0 g1 g2 g3 g4 g5
 clear hz
 refine bodyPost_ret (v := .agg (tnE (⟨v0, v5, v1, v2, v4, v3⟩ : Tn)).toArray) (by simp [results, Tryz.results93, go_sem, tnE, g0, g1, g2, g3, g4, g5]) rfl ?_
 exact ⟨rfl, HW.out⟩
set_option maxRecDepth 100000 in
set_option maxHeartbeats 4000000 in
theorem portX (h : Dt B kb raw im en q p g w0 s w) : Calls Tryz.prog 95 #[.pointer (some ⟨kb, 0, none⟩)] w fun e w' => e = .returned (.agg (poE (portD q s).1).toArray) ∧ Dt B kb raw im en q p g w0 (portD q s).2 w' := by
 obtain ⟨h1, hf1, hb1, hl1⟩ := h.boxed (.cells ([.int .i64 0] : List Value).toArray 73)
 have HF := Lib.hid hf1
 have HS : Hid (w0.heap.size ≤ w.heap.size) := h.fr.size
 have HB : Hid (∀ W t, Dt B kb raw im en q p g (w.alloc (.cells ([.int .i64 0] : List Value).toArray 73)) t W → W.heap[w.heap.size]? = some (.cells ([.int .i64 0] : List Value).toArray 73 (0, 0))) := fun W t hW => hW.box hb1 (by decide) (by decide)
 have H0 : Hid (Dt B kb raw im en q p g (w.alloc (.cells ([.int .i64 0] : List Value).toArray 73)) s (w.alloc (.cells ([.int .i64 0] : List Value).toArray 73))) := h1
 obtain ⟨v0, s1, e0⟩ : ∃ v t, noneD q s = (v, t) := ⟨_, _, rfl⟩
 obtain ⟨s2, e1⟩ : ∃ t, zerosD q 6 s1 = t := ⟨_, rfl⟩
 have K0 : Hid (∀ W w9, Hid (Dt B kb raw im en q p g w9 s W) → Calls Tryz.prog 101 #[.pointer (some ⟨kb, 0, none⟩)] W fun e w' => e = .returned (.int .i64 v0) ∧ Dt B kb raw im en q p g w9 s1 w') := fun W w9 hW => by have h9 := dnoneX hW.out; rw [e0] at h9; exact h9
 have K1 : Hid (∀ W w9, Hid (Dt B kb raw im en q p g w9 s1 W) → Calls Tryz.prog 88 #[.pointer (some ⟨kb, 0, none⟩), .int .i64 6] W fun e w' => e = .returned (.tuple #[]) ∧ Dt B kb raw im en q p g w9 s2 w') := fun W w9 hW => by have h9 := dzerosX hW.out (n := 6) (by decide); rw [e1] at h9; exact h9
 have HE : portD q s = (v0, s2) := by simp only [portD, e0, e1]
 clear h h1 hf1 hb1 hl1
 rw [HE]
 clear HE e0 e1
 dsimp only
 go_enter Tryz.func95, Tryz.ntmps95
 go_wp2_with fail
 refine (K0.out _ _ H0).mono ?_
 rintro e w1 ⟨rfl, h9⟩
 have H1 : Hid (Dt B kb raw im en q p g (w.alloc (.cells ([.int .i64 0] : List Value).toArray 73)) s1 w1) := h9
 clear h9 H0 K0
 obtain ⟨h2, hf2, hb2, hl2⟩ := H1.out.boxed (.cells ([.int .i64 v0] : List Value).toArray 73)
 have hlt : w.heap.size < w1.heap.size := by
  have h9 := H1.out.fr.size
  simp at h9
  omega
 have hr2 := (hl2.block w.heap.size hlt).trans (HB.out _ _ H1.out)
 have HB2 : Hid (∀ W t, Dt B kb raw im en q p g (w1.alloc (.cells ([.int .i64 v0] : List Value).toArray 73)) t W → W.heap[w.heap.size]? = some (.cells ([.int .i64 0] : List Value).toArray 73 (0, 0)) ∧ W.heap[w1.heap.size]? = some (.cells ([.int .i64 v0] : List Value).toArray 73 (0, 0))) := fun W t hW => ⟨hW.box hr2 (by decide) (by decide), hW.box hb2 (by decide) (by decide)⟩
 have HF2 : Hid (Fd B w0 (w1.alloc (.cells ([.int .i64 v0] : List Value).toArray 73))) := HF.out.trans hf2
 have nm1 : ¬ w.heap.size = w1.heap.size := by omega
 have nm2 : ¬ w1.heap.size = w.heap.size := by omega
 have HLt := Lib.hid hlt
 replace H1 : Hid (Dt B kb raw im en q p g (w1.alloc (.cells ([.int .i64 v0] : List Value).toArray 73)) s1 (w1.alloc (.cells ([.int .i64 v0] : List Value).toArray 73))) := h2
 clear h2 hf2 hb2 hl2 hr2 hlt HB HF
 go_wp2_with fail
 refine (K1.out _ _ H1).mono ?_
 rintro e w2 ⟨rfl, h9⟩
 have H2 : Hid (Dt B kb raw im en q p g (w1.alloc (.cells ([.int .i64 v0] : List Value).toArray 73)) s2 w2) := h9
 clear h9 H1 K1
 obtain ⟨hbx, hby⟩ := HB2.out _ _ H2.out
 have d0 := box_cell hbx 0
 have f0 := box_free hbx 0
 have l0 := box_cell hby 0
 simp only [List.getElem?_cons_zero, List.getElem?_cons_succ] at d0 l0
 have HD : Hid (Db 73 w.heap.size B kb raw im en q p g w0 s2 w2) := ⟨H2.out.since HF2.out, ⟨_, hbx⟩, HS.out, by decide, by decide, by decide⟩
 have HZ := Lib.hid hbx
 clear hbx hby H2 HB2 HF2 HS HLt
 go_wp2_with fail
 generalize hW : World.setCell _ _ _ = W
 have hz : W.heap[w.heap.size]? = some (.cells (poE v0).toArray 73 (0, 0)) := by rw [← hW]; exact (box_set HZ.out _ _)
 have HW : Hid (Dt B kb raw im en q p g w0 s2 W) := by
  refine Db.dt (t := 73) (n := w.heap.size) ?_
  rw [← hW]
  exact (Db.set HD.out _ _)
 clear hW HD HZ d0 f0 l0
 simp only [poE] at hz
 have g0 := box_cell hz 0
 simp only [List.getElem?_cons_zero, List.getElem?_cons_succ] at g0
 clear hz
 refine bodyPost_ret (v := .agg (poE v0).toArray) (by simp [results, Tryz.results95, go_sem, poE, g0]) rfl ?_
 exact ⟨rfl, HW.out⟩
set_option maxRecDepth 100000 in
set_option maxHeartbeats 4000000 in
theorem chX (h : Dt B kb raw im en q p g w0 s w) : Calls Tryz.prog 99 #[.pointer (some ⟨kb, 0, none⟩)] w fun e w' => e = .returned (.agg (lkE (chD q s).1).toArray) ∧ Dt B kb raw im en q p g w0 (chD q s).2 w' := by
 obtain ⟨h1, hf1, hb1, hl1⟩ := h.boxed (.cells ([.int .i64 0, .int .i64 0, .int .i64 0, .int .i64 0, .bool false] : List Value).toArray 81)
 have HF := Lib.hid hf1
 have HS : Hid (w0.heap.size ≤ w.heap.size) := h.fr.size
 have HB : Hid (∀ W t, Dt B kb raw im en q p g (w.alloc (.cells ([.int .i64 0, .int .i64 0, .int .i64 0, .int .i64 0, .bool false] : List Value).toArray 81)) t W → W.heap[w.heap.size]? = some (.cells ([.int .i64 0, .int .i64 0, .int .i64 0, .int .i64 0, .bool false] : List Value).toArray 81 (0, 0))) := fun W t hW => hW.box hb1 (by decide) (by decide)
 have H0 : Hid (Dt B kb raw im en q p g (w.alloc (.cells ([.int .i64 0, .int .i64 0, .int .i64 0, .int .i64 0, .bool false] : List Value).toArray 81)) s (w.alloc (.cells ([.int .i64 0, .int .i64 0, .int .i64 0, .int .i64 0, .bool false] : List Value).toArray 81))) := h1
 obtain ⟨v0, s1, e0⟩ : ∃ v t, noneD q s = (v, t) := ⟨_, _, rfl⟩
 obtain ⟨v1, s2, e1⟩ : ∃ v t, noneD q s1 = (v, t) := ⟨_, _, rfl⟩
 obtain ⟨v2, s3, e2⟩ : ∃ v t, takeD q 1 s2 = (v, t) := ⟨_, _, rfl⟩
 obtain ⟨v3, s4, e3⟩ : ∃ v t, takeD q 1 s3 = (v, t) := ⟨_, _, rfl⟩
 obtain ⟨s5, e4⟩ : ∃ t, zerosD q 2 s4 = t := ⟨_, rfl⟩
 have K0 : Hid (∀ W w9, Hid (Dt B kb raw im en q p g w9 s W) → Calls Tryz.prog 101 #[.pointer (some ⟨kb, 0, none⟩)] W fun e w' => e = .returned (.int .i64 v0) ∧ Dt B kb raw im en q p g w9 s1 w') := fun W w9 hW => by have h9 := dnoneX hW.out; rw [e0] at h9; exact h9
 have K1 : Hid (∀ W w9, Hid (Dt B kb raw im en q p g w9 s1 W) → Calls Tryz.prog 101 #[.pointer (some ⟨kb, 0, none⟩)] W fun e w' => e = .returned (.int .i64 v1) ∧ Dt B kb raw im en q p g w9 s2 w') := fun W w9 hW => by have h9 := dnoneX hW.out; rw [e1] at h9; exact h9
 have K2 : Hid (∀ W w9, Hid (Dt B kb raw im en q p g w9 s2 W) → Calls Tryz.prog 122 #[.pointer (some ⟨kb, 0, none⟩)] W fun e w' => e = .returned (.int .i64 (v2 : Nat)) ∧ Dt B kb raw im en q p g w9 s3 w') := fun W w9 hW => by have h9 := dbyteX hW.out; rw [e2] at h9; exact h9
 have K3 : Hid (∀ W w9, Hid (Dt B kb raw im en q p g w9 s3 W) → Calls Tryz.prog 122 #[.pointer (some ⟨kb, 0, none⟩)] W fun e w' => e = .returned (.int .i64 (v3 : Nat)) ∧ Dt B kb raw im en q p g w9 s4 w') := fun W w9 hW => by have h9 := dbyteX hW.out; rw [e3] at h9; exact h9
 have K4 : Hid (∀ W w9, Hid (Dt B kb raw im en q p g w9 s4 W) → Calls Tryz.prog 88 #[.pointer (some ⟨kb, 0, none⟩), .int .i64 2] W fun e w' => e = .returned (.tuple #[]) ∧ Dt B kb raw im en q p g w9 s5 w') := fun W w9 hW => by have h9 := dzerosX hW.out (n := 2) (by decide); rw [e4] at h9; exact h9
 have HE : chD q s = ((⟨v0, v1, v2, v3, false⟩ : Lk), s5) := by simp only [chD, e0, e1, e2, e3, e4]
 clear h h1 hf1 hb1 hl1
 rw [HE]
 clear HE e0 e1 e2 e3 e4
 dsimp only
 go_enter Tryz.func99, Tryz.ntmps99
 go_wp2_with fail
 refine (K0.out _ _ H0).mono ?_
 rintro e w1 ⟨rfl, h9⟩
 have H1 : Hid (Dt B kb raw im en q p g (w.alloc (.cells ([.int .i64 0, .int .i64 0, .int .i64 0, .int .i64 0, .bool false] : List Value).toArray 81)) s1 w1) := h9
 clear h9 H0 K0
 go_wp2_with fail
 refine (K1.out _ _ H1).mono ?_
 rintro e w2 ⟨rfl, h9⟩
 have H2 : Hid (Dt B kb raw im en q p g (w.alloc (.cells ([.int .i64 0, .int .i64 0, .int .i64 0, .int .i64 0, .bool false] : List Value).toArray 81)) s2 w2) := h9
 clear h9 H1 K1
 go_wp2_with fail
 refine (K2.out _ _ H2).mono ?_
 rintro e w3 ⟨rfl, h9⟩
 have H3 : Hid (Dt B kb raw im en q p g (w.alloc (.cells ([.int .i64 0, .int .i64 0, .int .i64 0, .int .i64 0, .bool false] : List Value).toArray 81)) s3 w3) := h9
 clear h9 H2 K2
 go_wp2_with fail
 refine (K3.out _ _ H3).mono ?_
 rintro e w4 ⟨rfl, h9⟩
 have H4 : Hid (Dt B kb raw im en q p g (w.alloc (.cells ([.int .i64 0, .int .i64 0, .int .i64 0, .int .i64 0, .bool false] : List Value).toArray 81)) s4 w4) := h9
 clear h9 H3 K3
 obtain ⟨h2, hf2, hb2, hl2⟩ := H4.out.boxed (.cells ([.int .i64 v0, .int .i64 v1, .int .i64 (v2 : Nat), .int .i64 (v3 : Nat), .bool false] : List Value).toArray 81)
 have hlt : w.heap.size < w4.heap.size := by
  have h9 := H4.out.fr.size
  simp at h9
  omega
 have hr2 := (hl2.block w.heap.size hlt).trans (HB.out _ _ H4.out)
 have HB2 : Hid (∀ W t, Dt B kb raw im en q p g (w4.alloc (.cells ([.int .i64 v0, .int .i64 v1, .int .i64 (v2 : Nat), .int .i64 (v3 : Nat), .bool false] : List Value).toArray 81)) t W → W.heap[w.heap.size]? = some (.cells ([.int .i64 0, .int .i64 0, .int .i64 0, .int .i64 0, .bool false] : List Value).toArray 81 (0, 0)) ∧ W.heap[w4.heap.size]? = some (.cells ([.int .i64 v0, .int .i64 v1, .int .i64 (v2 : Nat), .int .i64 (v3 : Nat), .bool false] : List Value).toArray 81 (0, 0))) := fun W t hW => ⟨hW.box hr2 (by decide) (by decide), hW.box hb2 (by decide) (by decide)⟩
 have HF2 : Hid (Fd B w0 (w4.alloc (.cells ([.int .i64 v0, .int .i64 v1, .int .i64 (v2 : Nat), .int .i64 (v3 : Nat), .bool false] : List Value).toArray 81))) := HF.out.trans hf2
 have nm1 : ¬ w.heap.size = w4.heap.size := by omega
 have nm2 : ¬ w4.heap.size = w.heap.size := by omega
 have HLt := Lib.hid hlt
 replace H4 : Hid (Dt B kb raw im en q p g (w4.alloc (.cells ([.int .i64 v0, .int .i64 v1, .int .i64 (v2 : Nat), .int .i64 (v3 : Nat), .bool false] : List Value).toArray 81)) s4 (w4.alloc (.cells ([.int .i64 v0, .int .i64 v1, .int .i64 (v2 : Nat), .int .i64 (v3 : Nat), .bool false] : List Value).toArray 81))) := h2
 clear h2 hf2 hb2 hl2 hr2 hlt HB HF
 go_wp2_with fail
 refine (K4.out _ _ H4).mono ?_
 rintro e w5 ⟨rfl, h9⟩
 have H5 : Hid (Dt B kb raw im en q p g (w4.alloc (.cells ([.int .i64 v0, .int .i64 v1, .int .i64 (v2 : Nat), .int .i64 (v3 : Nat), .bool false] : List Value).toArray 81)) s5 w5) := h9
 clear h9 H4 K4
 obtain ⟨hbx, hby⟩ := HB2.out _ _ H5.out
 have d0 := box_cell hbx 0
 have f0 := box_free hbx 0
 have l0 := box_cell hby 0
 have d1 := box_cell hbx 1
 have f1 := box_free hbx 1
 have l1 := box_cell hby 1
 have d2 := box_cell hbx 2
 have f2 := box_free hbx 2
 have l2 := box_cell hby 2
 have d3 := box_cell hbx 3
 have f3 := box_free hbx 3
 have l3 := box_cell hby 3
 have d4 := box_cell hbx 4
 have f4 := box_free hbx 4
 have l4 := box_cell hby 4
 simp only [List.getElem?_cons_zero, List.getElem?_cons_succ] at d0 l0 d1 l1 d2 l2 d3 l3 d4 l4
 have HD : Hid (Db 81 w.heap.size B kb raw im en q p g w0 s5 w5) := ⟨H5.out.since HF2.out, ⟨_, hbx⟩, HS.out, by decide, by decide, by decide⟩
 have HZ := Lib.hid hbx
 clear hbx hby H5 HB2 HF2 HS HLt
 go_wp2_with fail
 generalize hW : World.setCell _ _ _ = W
 have hz : W.heap[w.heap.size]? = some (.cells (lkE (⟨v0, v1, v2, v3, false⟩ : Lk)).toArray 81 (0, 0)) := by rw [← hW]; exact (box_set (box_set (box_set (box_set (box_set HZ.out _ _) _ _) _ _) _ _) _ _)
 have HW : Hid (Dt B kb raw im en q p g w0 s5 W) := by
  refine Db.dt (t := 81) (n := w.heap.size) ?_
  rw [← hW]
  exact (Db.set (Db.set (Db.set (Db.set (Db.set HD.out _ _) _ _) _ _) _ _) _ _)
 clear hW HD HZ d0 f0 l0 d1 f1 l1 d2 f2 l2 d3 f3 l3 d4 f4 l4
 simp only [lkE] at hz
 have g0 := box_cell hz 0
 have g1 := box_cell hz 1
 have g2 := box_cell hz 2
 have g3 := box_cell hz 3
 have g4 := box_cell hz 4
 simp only [List.getElem?_cons_zero, List.getElem?_cons_succ] at g0 g1 g2 g3 g4
 clear hz
 refine bodyPost_ret (v := .agg (lkE (⟨v0, v1, v2, v3, false⟩ : Lk)).toArray) (by simp [results, Tryz.results99, go_sem, lkE, g0, g1, g2, g3, g4]) rfl ?_
 exact ⟨rfl, HW.out⟩
set_option maxRecDepth 100000 in
set_option maxHeartbeats 4000000 in
theorem iqX (h : Dt B kb raw im en q p g w0 s w) : Calls Tryz.prog 100 #[.pointer (some ⟨kb, 0, none⟩)] w fun e w' => e = .returned (.agg (lkE (iqD q s).1).toArray) ∧ Dt B kb raw im en q p g w0 (iqD q s).2 w' := by
 obtain ⟨h1, hf1, hb1, hl1⟩ := h.boxed (.cells ([.int .i64 0, .int .i64 0, .int .i64 0, .int .i64 0, .bool false] : List Value).toArray 81)
 have HF := Lib.hid hf1
 have HS : Hid (w0.heap.size ≤ w.heap.size) := h.fr.size
 have HB : Hid (∀ W t, Dt B kb raw im en q p g (w.alloc (.cells ([.int .i64 0, .int .i64 0, .int .i64 0, .int .i64 0, .bool false] : List Value).toArray 81)) t W → W.heap[w.heap.size]? = some (.cells ([.int .i64 0, .int .i64 0, .int .i64 0, .int .i64 0, .bool false] : List Value).toArray 81 (0, 0))) := fun W t hW => hW.box hb1 (by decide) (by decide)
 have H0 : Hid (Dt B kb raw im en q p g (w.alloc (.cells ([.int .i64 0, .int .i64 0, .int .i64 0, .int .i64 0, .bool false] : List Value).toArray 81)) s (w.alloc (.cells ([.int .i64 0, .int .i64 0, .int .i64 0, .int .i64 0, .bool false] : List Value).toArray 81))) := h1
 obtain ⟨v0, s1, e0⟩ : ∃ v t, noneD q s = (v, t) := ⟨_, _, rfl⟩
 obtain ⟨v1, s2, e1⟩ : ∃ v t, noneD q s1 = (v, t) := ⟨_, _, rfl⟩
 obtain ⟨v2, s3, e2⟩ : ∃ v t, takeD q 1 s2 = (v, t) := ⟨_, _, rfl⟩
 obtain ⟨v3, s4, e3⟩ : ∃ v t, flagD q s3 = (v, t) := ⟨_, _, rfl⟩
 obtain ⟨s5, e4⟩ : ∃ t, zerosD q 2 s4 = t := ⟨_, rfl⟩
 have K0 : Hid (∀ W w9, Hid (Dt B kb raw im en q p g w9 s W) → Calls Tryz.prog 101 #[.pointer (some ⟨kb, 0, none⟩)] W fun e w' => e = .returned (.int .i64 v0) ∧ Dt B kb raw im en q p g w9 s1 w') := fun W w9 hW => by have h9 := dnoneX hW.out; rw [e0] at h9; exact h9
 have K1 : Hid (∀ W w9, Hid (Dt B kb raw im en q p g w9 s1 W) → Calls Tryz.prog 101 #[.pointer (some ⟨kb, 0, none⟩)] W fun e w' => e = .returned (.int .i64 v1) ∧ Dt B kb raw im en q p g w9 s2 w') := fun W w9 hW => by have h9 := dnoneX hW.out; rw [e1] at h9; exact h9
 have K2 : Hid (∀ W w9, Hid (Dt B kb raw im en q p g w9 s2 W) → Calls Tryz.prog 122 #[.pointer (some ⟨kb, 0, none⟩)] W fun e w' => e = .returned (.int .i64 (v2 : Nat)) ∧ Dt B kb raw im en q p g w9 s3 w') := fun W w9 hW => by have h9 := dbyteX hW.out; rw [e2] at h9; exact h9
 have K3 : Hid (∀ W w9, Hid (Dt B kb raw im en q p g w9 s3 W) → Calls Tryz.prog 123 #[.pointer (some ⟨kb, 0, none⟩)] W fun e w' => e = .returned (.bool v3) ∧ Dt B kb raw im en q p g w9 s4 w') := fun W w9 hW => by have h9 := dflagX hW.out; rw [e3] at h9; exact h9
 have K4 : Hid (∀ W w9, Hid (Dt B kb raw im en q p g w9 s4 W) → Calls Tryz.prog 88 #[.pointer (some ⟨kb, 0, none⟩), .int .i64 2] W fun e w' => e = .returned (.tuple #[]) ∧ Dt B kb raw im en q p g w9 s5 w') := fun W w9 hW => by have h9 := dzerosX hW.out (n := 2) (by decide); rw [e4] at h9; exact h9
 have HE : iqD q s = ((⟨v0, v1, 1, v2, v3⟩ : Lk), s5) := by simp only [iqD, e0, e1, e2, e3, e4]
 clear h h1 hf1 hb1 hl1
 rw [HE]
 clear HE e0 e1 e2 e3 e4
 dsimp only
 go_enter Tryz.func100, Tryz.ntmps100
 go_wp2_with fail
 refine (K0.out _ _ H0).mono ?_
 rintro e w1 ⟨rfl, h9⟩
 have H1 : Hid (Dt B kb raw im en q p g (w.alloc (.cells ([.int .i64 0, .int .i64 0, .int .i64 0, .int .i64 0, .bool false] : List Value).toArray 81)) s1 w1) := h9
 clear h9 H0 K0
 go_wp2_with fail
 refine (K1.out _ _ H1).mono ?_
 rintro e w2 ⟨rfl, h9⟩
 have H2 : Hid (Dt B kb raw im en q p g (w.alloc (.cells ([.int .i64 0, .int .i64 0, .int .i64 0, .int .i64 0, .bool false] : List Value).toArray 81)) s2 w2) := h9
 clear h9 H1 K1
 go_wp2_with fail
 refine (K2.out _ _ H2).mono ?_
 rintro e w3 ⟨rfl, h9⟩
 have H3 : Hid (Dt B kb raw im en q p g (w.alloc (.cells ([.int .i64 0, .int .i64 0, .int .i64 0, .int .i64 0, .bool false] : List Value).toArray 81)) s3 w3) := h9
 clear h9 H2 K2
 go_wp2_with fail
 refine (K3.out _ _ H3).mono ?_
 rintro e w4 ⟨rfl, h9⟩
 have H4 : Hid (Dt B kb raw im en q p g (w.alloc (.cells ([.int .i64 0, .int .i64 0, .int .i64 0, .int .i64 0, .bool false] : List Value).toArray 81)) s4 w4) := h9
 clear h9 H3 K3
 obtain ⟨h2, hf2, hb2, hl2⟩ := H4.out.boxed (.cells ([.int .i64 v0, .int .i64 v1, .int .i64 1, .int .i64 (v2 : Nat), .bool v3] : List Value).toArray 81)
 have hlt : w.heap.size < w4.heap.size := by
  have h9 := H4.out.fr.size
  simp at h9
  omega
 have hr2 := (hl2.block w.heap.size hlt).trans (HB.out _ _ H4.out)
 have HB2 : Hid (∀ W t, Dt B kb raw im en q p g (w4.alloc (.cells ([.int .i64 v0, .int .i64 v1, .int .i64 1, .int .i64 (v2 : Nat), .bool v3] : List Value).toArray 81)) t W → W.heap[w.heap.size]? = some (.cells ([.int .i64 0, .int .i64 0, .int .i64 0, .int .i64 0, .bool false] : List Value).toArray 81 (0, 0)) ∧ W.heap[w4.heap.size]? = some (.cells ([.int .i64 v0, .int .i64 v1, .int .i64 1, .int .i64 (v2 : Nat), .bool v3] : List Value).toArray 81 (0, 0))) := fun W t hW => ⟨hW.box hr2 (by decide) (by decide), hW.box hb2 (by decide) (by decide)⟩
 have HF2 : Hid (Fd B w0 (w4.alloc (.cells ([.int .i64 v0, .int .i64 v1, .int .i64 1, .int .i64 (v2 : Nat), .bool v3] : List Value).toArray 81))) := HF.out.trans hf2
 have nm1 : ¬ w.heap.size = w4.heap.size := by omega
 have nm2 : ¬ w4.heap.size = w.heap.size := by omega
 have HLt := Lib.hid hlt
 replace H4 : Hid (Dt B kb raw im en q p g (w4.alloc (.cells ([.int .i64 v0, .int .i64 v1, .int .i64 1, .int .i64 (v2 : Nat), .bool v3] : List Value).toArray 81)) s4 (w4.alloc (.cells ([.int .i64 v0, .int .i64 v1, .int .i64 1, .int .i64 (v2 : Nat), .bool v3] : List Value).toArray 81))) := h2
 clear h2 hf2 hb2 hl2 hr2 hlt HB HF
 go_wp2_with fail
 refine (K4.out _ _ H4).mono ?_
 rintro e w5 ⟨rfl, h9⟩
 have H5 : Hid (Dt B kb raw im en q p g (w4.alloc (.cells ([.int .i64 v0, .int .i64 v1, .int .i64 1, .int .i64 (v2 : Nat), .bool v3] : List Value).toArray 81)) s5 w5) := h9
 clear h9 H4 K4
 obtain ⟨hbx, hby⟩ := HB2.out _ _ H5.out
 have d0 := box_cell hbx 0
 have f0 := box_free hbx 0
 have l0 := box_cell hby 0
 have d1 := box_cell hbx 1
 have f1 := box_free hbx 1
 have l1 := box_cell hby 1
 have d2 := box_cell hbx 2
 have f2 := box_free hbx 2
 have l2 := box_cell hby 2
 have d3 := box_cell hbx 3
 have f3 := box_free hbx 3
 have l3 := box_cell hby 3
 have d4 := box_cell hbx 4
 have f4 := box_free hbx 4
 have l4 := box_cell hby 4
 simp only [List.getElem?_cons_zero, List.getElem?_cons_succ] at d0 l0 d1 l1 d2 l2 d3 l3 d4 l4
 have HD : Hid (Db 81 w.heap.size B kb raw im en q p g w0 s5 w5) := ⟨H5.out.since HF2.out, ⟨_, hbx⟩, HS.out, by decide, by decide, by decide⟩
 have HZ := Lib.hid hbx
 clear hbx hby H5 HB2 HF2 HS HLt
 go_wp2_with fail
 generalize hW : World.setCell _ _ _ = W
 have hz : W.heap[w.heap.size]? = some (.cells (lkE (⟨v0, v1, 1, v2, v3⟩ : Lk)).toArray 81 (0, 0)) := by rw [← hW]; exact (box_set (box_set (box_set (box_set (box_set HZ.out _ _) _ _) _ _) _ _) _ _)
 have HW : Hid (Dt B kb raw im en q p g w0 s5 W) := by
  refine Db.dt (t := 81) (n := w.heap.size) ?_
  rw [← hW]
  exact (Db.set (Db.set (Db.set (Db.set (Db.set HD.out _ _) _ _) _ _) _ _) _ _)
 clear hW HD HZ d0 f0 l0 d1 f1 l1 d2 f2 l2 d3 f3 l3 d4 f4 l4
 simp only [lkE] at hz
 have g0 := box_cell hz 0
 have g1 := box_cell hz 1
 have g2 := box_cell hz 2
 have g3 := box_cell hz 3
 have g4 := box_cell hz 4
 simp only [List.getElem?_cons_zero, List.getElem?_cons_succ] at g0 g1 g2 g3 g4
 clear hz
 refine bodyPost_ret (v := .agg (lkE (⟨v0, v1, 1, v2, v3⟩ : Lk)).toArray) (by simp [results, Tryz.results100, go_sem, lkE, g0, g1, g2, g3, g4]) rfl ?_
 exact ⟨rfl, HW.out⟩
set_option maxRecDepth 100000 in
set_option maxHeartbeats 4000000 in
theorem stX (h : Dt B kb raw im en q p g w0 s w) : Calls Tryz.prog 127 #[.pointer (some ⟨kb, 0, none⟩)] w fun e w' => e = .returned (.agg (stE (stD q s).1).toArray) ∧ Dt B kb raw im en q p g w0 (stD q s).2 w' := by
 obtain ⟨h1, hf1, hb1, hl1⟩ := h.boxed (.cells ([.int .i64 0, .int .i64 0] : List Value).toArray 83)
 have HF := Lib.hid hf1
 have HS : Hid (w0.heap.size ≤ w.heap.size) := h.fr.size
 have HB : Hid (∀ W t, Dt B kb raw im en q p g (w.alloc (.cells ([.int .i64 0, .int .i64 0] : List Value).toArray 83)) t W → W.heap[w.heap.size]? = some (.cells ([.int .i64 0, .int .i64 0] : List Value).toArray 83 (0, 0))) := fun W t hW => hW.box hb1 (by decide) (by decide)
 have H0 : Hid (Dt B kb raw im en q p g (w.alloc (.cells ([.int .i64 0, .int .i64 0] : List Value).toArray 83)) s (w.alloc (.cells ([.int .i64 0, .int .i64 0] : List Value).toArray 83))) := h1
 obtain ⟨v0, s1, e0⟩ : ∃ v t, noneD q s = (v, t) := ⟨_, _, rfl⟩
 obtain ⟨s2, e1⟩ : ∃ t, zerosD q 2 s1 = t := ⟨_, rfl⟩
 obtain ⟨v2, s3, e2⟩ : ∃ v t, takeD q 4 s2 = (v, t) := ⟨_, _, rfl⟩
 have K0 : Hid (∀ W w9, Hid (Dt B kb raw im en q p g w9 s W) → Calls Tryz.prog 101 #[.pointer (some ⟨kb, 0, none⟩)] W fun e w' => e = .returned (.int .i64 v0) ∧ Dt B kb raw im en q p g w9 s1 w') := fun W w9 hW => by have h9 := dnoneX hW.out; rw [e0] at h9; exact h9
 have K1 : Hid (∀ W w9, Hid (Dt B kb raw im en q p g w9 s1 W) → Calls Tryz.prog 88 #[.pointer (some ⟨kb, 0, none⟩), .int .i64 2] W fun e w' => e = .returned (.tuple #[]) ∧ Dt B kb raw im en q p g w9 s2 w') := fun W w9 hW => by have h9 := dzerosX hW.out (n := 2) (by decide); rw [e1] at h9; exact h9
 have K2 : Hid (∀ W w9, Hid (Dt B kb raw im en q p g w9 s2 W) → Calls Tryz.prog 82 #[.pointer (some ⟨p, 0, none⟩)] W fun e w' => e = .returned (.int .u32 (v2 : Nat)) ∧ Dt B kb raw im en q p g w9 s3 w') := fun W w9 hW => by have h9 := tWordX hW.out; rw [e2] at h9; exact h9
 have b2 : v2 < 4294967296 := by have h9 := take_lt h.small 4 s2; rw [e2] at h9; exact h9
 have HE : stD q s = ((v0, (v2 : Int)), s3) := by simp only [stD, e0, e1, e2]
 clear h h1 hf1 hb1 hl1
 rw [HE]
 clear HE e0 e1 e2
 dsimp only
 have hwn : IntKind.i64.wrap (v2 : Int) = (v2 : Int) := by rw [IntKind.wrap_i64]; omega
 go_enter Tryz.func127, Tryz.ntmps127
 go_wp2_with fail
 refine (K0.out _ _ H0).mono ?_
 rintro e w1 ⟨rfl, h9⟩
 have H1 : Hid (Dt B kb raw im en q p g (w.alloc (.cells ([.int .i64 0, .int .i64 0] : List Value).toArray 83)) s1 w1) := h9
 clear h9 H0 K0
 obtain ⟨h2, hf2, hb2, hl2⟩ := H1.out.boxed (.cells ([.int .i64 v0, .int .i64 0] : List Value).toArray 83)
 have hlt : w.heap.size < w1.heap.size := by
  have h9 := H1.out.fr.size
  simp at h9
  omega
 have hr2 := (hl2.block w.heap.size hlt).trans (HB.out _ _ H1.out)
 have HB2 : Hid (∀ W t, Dt B kb raw im en q p g (w1.alloc (.cells ([.int .i64 v0, .int .i64 0] : List Value).toArray 83)) t W → W.heap[w.heap.size]? = some (.cells ([.int .i64 0, .int .i64 0] : List Value).toArray 83 (0, 0)) ∧ W.heap[w1.heap.size]? = some (.cells ([.int .i64 v0, .int .i64 0] : List Value).toArray 83 (0, 0))) := fun W t hW => ⟨hW.box hr2 (by decide) (by decide), hW.box hb2 (by decide) (by decide)⟩
 have HF2 : Hid (Fd B w0 (w1.alloc (.cells ([.int .i64 v0, .int .i64 0] : List Value).toArray 83))) := HF.out.trans hf2
 have nm1 : ¬ w.heap.size = w1.heap.size := by omega
 have nm2 : ¬ w1.heap.size = w.heap.size := by omega
 have HLt := Lib.hid hlt
 replace H1 : Hid (Dt B kb raw im en q p g (w1.alloc (.cells ([.int .i64 v0, .int .i64 0] : List Value).toArray 83)) s1 (w1.alloc (.cells ([.int .i64 v0, .int .i64 0] : List Value).toArray 83))) := h2
 clear h2 hf2 hb2 hl2 hr2 hlt HB HF
 go_wp2_with fail
 refine (K1.out _ _ H1).mono ?_
 rintro e w2 ⟨rfl, h9⟩
 have H2 : Hid (Dt B kb raw im en q p g (w1.alloc (.cells ([.int .i64 v0, .int .i64 0] : List Value).toArray 83)) s2 w2) := h9
 clear h9 H1 K1
 have c59_2 := H2.out.c59
 go_wp2_with fail
 refine (K2.out _ _ H2).mono ?_
 rintro e w3 ⟨rfl, h9⟩
 have H3 : Hid (Dt B kb raw im en q p g (w1.alloc (.cells ([.int .i64 v0, .int .i64 0] : List Value).toArray 83)) s3 w3) := h9
 clear h9 H2 K2 c59_2
 obtain ⟨hbx, hby⟩ := HB2.out _ _ H3.out
 have d0 := box_cell hbx 0
 have f0 := box_free hbx 0
 have l0 := box_cell hby 0
 have d1 := box_cell hbx 1
 have f1 := box_free hbx 1
 have l1 := box_cell hby 1
 have fl := box_free hby 1
 simp only [List.getElem?_cons_zero, List.getElem?_cons_succ] at d0 l0 d1 l1
 have HY : Hid (Db 83 w1.heap.size B kb raw im en q p g w0 s3 (w3.setCell ⟨w1.heap.size, 1, none⟩ (.int .i64 (v2 : Nat)))) := Db.set ⟨H3.out.since HF2.out, ⟨_, hby⟩, Nat.le_trans HS.out (Nat.le_of_lt HLt.out), by decide, by decide, by decide⟩ _ _
 have HZ : Hid ((w3.setCell ⟨w1.heap.size, 1, none⟩ (.int .i64 (v2 : Nat))).heap[w.heap.size]? = some (.cells ([.int .i64 0, .int .i64 0] : List Value).toArray 83 (0, 0))) := ((Keeps.setCell w3 w1.heap.size 1 _).block w.heap.size (Array.getElem?_eq_some_iff.1 hbx).1 nm1).trans hbx
 have HD : Hid (Db 83 w.heap.size B kb raw im en q p g w0 s3 (w3.setCell ⟨w1.heap.size, 1, none⟩ (.int .i64 (v2 : Nat)))) := ⟨HY.out.dt, ⟨_, HZ.out⟩, HS.out, by decide, by decide, by decide⟩
 clear hbx hby H3 HB2 HF2 HS HLt
 go_wp2_with fail
 generalize hW : World.setCell _ _ _ = W
 have hz : W.heap[w.heap.size]? = some (.cells (stE (v0, (v2 : Int))).toArray 83 (0, 0)) := by rw [← hW]; exact (box_set (box_set HZ.out _ _) _ _)
 have HW : Hid (Dt B kb raw im en q p g w0 s3 W) := by
  refine Db.dt (t := 83) (n := w.heap.size) ?_
  rw [← hW]
  exact (Db.set (Db.set HD.out _ _) _ _)
 clear hW HD HZ d0 f0 l0 d1 f1 l1
 simp only [stE] at hz
 have g0 := box_cell hz 0
 have g1 := box_cell hz 1
 simp only [List.getElem?_cons_zero, List.getElem?_cons_succ] at g0 g1
 clear hz
 refine bodyPost_ret (v := .agg (stE (v0, (v2 : Int))).toArray) (by simp [results, Tryz.results127, go_sem, stE, g0, g1]) rfl ?_
 exact ⟨rfl, HW.out⟩
end
end Go.Proofs.YtnifefmfhjfbnaaGreatDoor
/- Bundle: a span is taken. Own work. -/
namespace Go.Proofs.YtnifefmfhjfbnaaGreatDoor
open Go.RowKit Bn Dc
set_option linter.unusedVariables false
set_option linter.unusedSimpArgs false
section
variable {B kb : Nat} {raw : Value} {im en : List Value} {q : Pt} {p g : Nat} {w0 : World} {s : D} {w w' : World}
set_option maxRecDepth 100000 in
set_option maxHeartbeats 4000000 in
theorem spanX (h : Dt B kb raw im en q p g w0 s w) : Calls Tryz.prog 90 #[.pointer (some ⟨kb, 0, none⟩)] w fun e w' => e = .returned (.agg (rgE (spanD q s).1).toArray) ∧ Dt B kb raw im en q p g w0 (spanD q s).2 w' := by
 obtain ⟨h1, hf1, hb1, hl1⟩ := h.boxed (.cells ([.int .u64 0, .int .u64 0] : List Value).toArray 79)
 have HF := Lib.hid hf1
 have nk1 : ¬ kb = w.heap.size := by have := h.lt; omega
 have nk2 : ¬ w.heap.size = kb := by have := h.lt; omega
 have HS : Hid (w0.heap.size ≤ w.heap.size) := h.fr.size
 have HB : Hid (∀ W t, Dt B kb raw im en q p g (w.alloc (.cells ([.int .u64 0, .int .u64 0] : List Value).toArray 79)) t W → W.heap[w.heap.size]? = some (.cells ([.int .u64 0, .int .u64 0] : List Value).toArray 79 (0, 0))) := fun W t hW => hW.box hb1 (by decide) (by decide)
 have H0 : Hid (Dt B kb raw im en q p g (w.alloc (.cells ([.int .u64 0, .int .u64 0] : List Value).toArray 79)) s (w.alloc (.cells ([.int .u64 0, .int .u64 0] : List Value).toArray 79)).drew) := h1.drew
 obtain ⟨v0, s1, e0⟩ : ∃ v t, takeD q 8 s = (v, t) := ⟨_, _, rfl⟩
 obtain ⟨v1, s2, e1⟩ : ∃ v t, takeD q 8 s1 = (v, t) := ⟨_, _, rfl⟩
 have K0 : Hid (∀ W w9, Hid (Dt B kb raw im en q p g w9 s W) → Calls Tryz.prog 83 #[.pointer (some ⟨p, 0, none⟩)] W fun e w' => e = .returned (.int .u64 (v0 : Nat)) ∧ Dt B kb raw im en q p g w9 s1 w') := fun W w9 hW => by have h9 := tLongX hW.out; rw [e0] at h9; exact h9
 have K1 : Hid (∀ W w9, Hid (Dt B kb raw im en q p g w9 s1 W) → Calls Tryz.prog 83 #[.pointer (some ⟨p, 0, none⟩)] W fun e w' => e = .returned (.int .u64 (v1 : Nat)) ∧ Dt B kb raw im en q p g w9 s2 w') := fun W w9 hW => by have h9 := tLongX hW.out; rw [e1] at h9; exact h9
 have HE : spanD q s = ((v0, v1), s2) := by simp only [spanD, e0, e1]
 clear h h1 hf1 hb1 hl1
 rw [HE]
 clear HE e0 e1
 dsimp only
 have HC : Hid (∀ W t, Dt B kb raw im en q p g (w.alloc (.cells ([.int .u64 0, .int .u64 0] : List Value).toArray 79)) t W → W.cell? ⟨kb, 59, none⟩ = some (.pointer (some ⟨p, 0, none⟩)) ∧ W.cell? ⟨w.heap.size, 0, none⟩ = some (.int .u64 0) ∧ W.cell? ⟨w.heap.size, 1, none⟩ = some (.int .u64 0)) := fun W t hW => ⟨hW.c59, box_cell (HB.out _ _ hW) 0, box_cell (HB.out _ _ hW) 1⟩
 have HFz : Hid (∀ W t, Dt B kb raw im en q p g (w.alloc (.cells ([.int .u64 0, .int .u64 0] : List Value).toArray 79)) t W → W.frozen? ⟨w.heap.size, 0, none⟩ = false ∧ W.frozen? ⟨w.heap.size, 1, none⟩ = false) := fun W t hW => ⟨box_free (HB.out _ _ hW) 0, box_free (HB.out _ _ hW) 1⟩
 have c59 := (HC.out _ _ H0.out).1
 go_enter Tryz.func90, Tryz.ntmps90
 go_wp2_with fail
 go_region_held3 (fun W => W.cell? ⟨kb, 59, none⟩ = some (.pointer (some ⟨p, 0, none⟩))) (first | go_keep | (simp [nk1, nk2]; assumption)) (first | (go_at_call 83; refine (K0.out _ _ H0).mono ?_; rintro e w1 ⟨rfl, h1⟩; have H1 := Lib.hid h1; have x59 := (HC.out _ _ h1).1; clear h1 H0 K0) | (go_at_call 83; refine (K1.out _ _ H1).mono ?_; rintro e w2 ⟨rfl, h2⟩; have H2 := Lib.hid h2; obtain ⟨y59, d0, d1⟩ := HC.out _ _ h2; obtain ⟨f0, f1⟩ := HFz.out _ _ h2; clear h2 H1 K1))
 all_goals
  go_wp2_with fail
  have hz : ((w2.setCell ⟨w.heap.size, 0, none⟩ (.int .u64 (v0 : Int))).setCell ⟨w.heap.size, 1, none⟩ (.int .u64 (v1 : Int))).heap[w.heap.size]? = some (.cells (rgE (v0, v1)).toArray 79 (0, 0)) := box_set (box_set (HB.out _ _ H2.out) _ _) _ _
  have HW : Hid (Dt B kb raw im en q p g w0 s2 ((w2.setCell ⟨w.heap.size, 0, none⟩ (.int .u64 (v0 : Int))).setCell ⟨w.heap.size, 1, none⟩ (.int .u64 (v1 : Int)))) := Db.dt (t := 79) (n := w.heap.size) (Db.set (Db.set ⟨H2.out.since HF.out, ⟨_, HB.out _ _ H2.out⟩, HS.out, by decide, by decide, by decide⟩ _ _) _ _)
  generalize hW : World.setCell _ _ _ = W at *
  have g0 := box_cell hz 0
  have g1 := box_cell hz 1
  simp only [rgE, List.getElem?_cons_zero, List.getElem?_cons_succ] at g0 g1
  clear hz hW
  refine bodyPost_ret (v := .agg (rgE (v0, v1)).toArray) (by simp [results, Tryz.results90, go_sem, rgE, g0, g1]) rfl ?_
  exact ⟨rfl, HW.out⟩
end
end Go.Proofs.YtnifefmfhjfbnaaGreatDoor
