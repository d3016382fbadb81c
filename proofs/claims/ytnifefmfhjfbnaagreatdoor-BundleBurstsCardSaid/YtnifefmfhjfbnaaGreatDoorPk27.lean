import Derived.Test.YtnifefmfhjfbnaaGreatDoorPk22
import Derived.Test.YtnifefmfhjfbnaaGreatDoorPk26
/- Bundle: what the reader takes, a ground (written by parts/gen_dcgd.py). Own work. -/
namespace Go.Proofs.YtnifefmfhjfbnaaGreatDoor
open Go.RowKit Bn Dc
set_option linter.unusedVariables false
set_option linter.unusedSimpArgs false
section
variable {B kb : Nat} {raw : Value} {im en : List Value} {q : Pt} {p g : Nat} {w0 : World} {s : D} {w w' : World}
theorem gd_kept {kb m : Nat} {w : World} {v : Value} {i : Nat} {u : Value} (h : w.cell? ⟨kb, 59, none⟩ = some v) (hn : m ≠ kb) : (w.setCell ⟨m, i, none⟩ u).cell? ⟨kb, 59, none⟩ = some v := (World.cell?_of_block (a := ⟨kb, 59, none⟩) ((Keeps.setCell w m i u).block kb (World.block_lt_of_cell? w _ h) (fun e => hn e.symm))).trans h
set_option maxRecDepth 100000 in
set_option maxHeartbeats 8000000 in
theorem gdX (h : Dt B kb raw im en q p g w0 s w) : Calls Tryz.prog 97 #[.pointer (some ⟨kb, 0, none⟩)] w fun e w' => e = .returned (.agg (gdE (gdD q s).1).toArray) ∧ Dt B kb raw im en q p g w0 (gdD q s).2 w' := by
 obtain ⟨h1, hf1, hb1, hl1⟩ := h.boxed (.cells ([.int .u64 0, .int .u64 0, .int .u8 0, .string ⟨#[]⟩] : List Value).toArray 75)
 have HF := Lib.hid hf1
 have HKb : Hid (kb < w.heap.size) := h.lt
 have HS : Hid (w0.heap.size ≤ w.heap.size) := h.fr.size
 have HB : Hid (∀ W t, Dt B kb raw im en q p g (w.alloc (.cells ([.int .u64 0, .int .u64 0, .int .u8 0, .string ⟨#[]⟩] : List Value).toArray 75)) t W → W.heap[w.heap.size]? = some (.cells ([.int .u64 0, .int .u64 0, .int .u8 0, .string ⟨#[]⟩] : List Value).toArray 75 (0, 0))) := fun W t hW => hW.box hb1 (by decide) (by decide)
 have H0 : Hid (Dt B kb raw im en q p g (w.alloc (.cells ([.int .u64 0, .int .u64 0, .int .u8 0, .string ⟨#[]⟩] : List Value).toArray 75)) s (w.alloc (.cells ([.int .u64 0, .int .u64 0, .int .u8 0, .string ⟨#[]⟩] : List Value).toArray 75)).drew) := h1.drew
 obtain ⟨v0, s1, e0⟩ : ∃ v t, takeD q 8 s = (v, t) := ⟨_, _, rfl⟩
 obtain ⟨v1, s2, e1⟩ : ∃ v t, takeD q 8 s1 = (v, t) := ⟨_, _, rfl⟩
 obtain ⟨v2, s3, e2⟩ : ∃ v t, takeD q 1 s2 = (v, t) := ⟨_, _, rfl⟩
 obtain ⟨s4, e3⟩ : ∃ t, zerosD q 3 s3 = t := ⟨_, rfl⟩
 obtain ⟨v4, s5, e4⟩ : ∃ v t, textD q s4 = (v, t) := ⟨_, _, rfl⟩
 have K0 : Hid (∀ W, Dt B kb raw im en q p g (w.alloc (.cells ([.int .u64 0, .int .u64 0, .int .u8 0, .string ⟨#[]⟩] : List Value).toArray 75)) s W → Calls Tryz.prog 83 #[.pointer (some ⟨p, 0, none⟩)] W fun e w' => ∃ v, e = .returned v ∧ v = .int .u64 (v0 : Nat) ∧ Dt B kb raw im en q p g (w.alloc (.cells ([.int .u64 0, .int .u64 0, .int .u8 0, .string ⟨#[]⟩] : List Value).toArray 75)) s1 w' ∧ ∀ (m : Nat) cs, W.heap[m]? = some (Obj.cells cs 75 (0, 0)) → w'.heap[m]? = some (Obj.cells cs 75 (0, 0))) := fun W hW => by have h9 := tLongX hW.here; rw [e0] at h9; exact h9.mono (fun e w' h => ⟨_, h.1, rfl, h.2.since hW.fr, fun m cs hm => h.2.box hm (by decide) (by decide)⟩)
 have K1 : Hid (∀ W, Dt B kb raw im en q p g (w.alloc (.cells ([.int .u64 0, .int .u64 0, .int .u8 0, .string ⟨#[]⟩] : List Value).toArray 75)) s1 W → Calls Tryz.prog 83 #[.pointer (some ⟨p, 0, none⟩)] W fun e w' => ∃ v, e = .returned v ∧ v = .int .u64 (v1 : Nat) ∧ Dt B kb raw im en q p g (w.alloc (.cells ([.int .u64 0, .int .u64 0, .int .u8 0, .string ⟨#[]⟩] : List Value).toArray 75)) s2 w' ∧ ∀ (m : Nat) cs, W.heap[m]? = some (Obj.cells cs 75 (0, 0)) → w'.heap[m]? = some (Obj.cells cs 75 (0, 0))) := fun W hW => by have h9 := tLongX hW.here; rw [e1] at h9; exact h9.mono (fun e w' h => ⟨_, h.1, rfl, h.2.since hW.fr, fun m cs hm => h.2.box hm (by decide) (by decide)⟩)
 have K2 : Hid (∀ W, Dt B kb raw im en q p g (w.alloc (.cells ([.int .u64 0, .int .u64 0, .int .u8 0, .string ⟨#[]⟩] : List Value).toArray 75)) s2 W → Calls Tryz.prog 124 #[.pointer (some ⟨p, 0, none⟩)] W fun e w' => ∃ v, e = .returned v ∧ v = .int .u8 (v2 : Nat) ∧ Dt B kb raw im en q p g (w.alloc (.cells ([.int .u64 0, .int .u64 0, .int .u8 0, .string ⟨#[]⟩] : List Value).toArray 75)) s3 w' ∧ ∀ (m : Nat) cs, W.heap[m]? = some (Obj.cells cs 75 (0, 0)) → w'.heap[m]? = some (Obj.cells cs 75 (0, 0))) := fun W hW => by have h9 := tByteX hW.here; rw [e2] at h9; exact h9.mono (fun e w' h => ⟨_, h.1, rfl, h.2.since hW.fr, fun m cs hm => h.2.box hm (by decide) (by decide)⟩)
 have K3 : Hid (∀ W w9, Hid (Dt B kb raw im en q p g w9 s3 W) → Calls Tryz.prog 88 #[.pointer (some ⟨kb, 0, none⟩), .int .i64 3] W fun e w' => e = .returned (.tuple #[]) ∧ Dt B kb raw im en q p g w9 s4 w') := fun W w9 hW => by have h9 := dzerosX hW.out (n := 3) (by decide); rw [e3] at h9; exact h9
 have K4 : Hid (∀ W w9, Hid (Dt B kb raw im en q p g w9 s4 W) → Calls Tryz.prog 125 #[.pointer (some ⟨kb, 0, none⟩)] W fun e w' => e = .returned (.string v4) ∧ Dt B kb raw im en q p g w9 s5 w') := fun W w9 hW => by have h9 := dtextX hW.out; rw [e4] at h9; exact h9
 have HE : gdD q s = ((⟨v0, v1, v2, v4⟩ : Gd), s5) := by simp only [gdD, e0, e1, e2, e3, e4]
 clear h h1 hf1 hb1 hl1
 rw [HE]
 clear HE e0 e1 e2 e3 e4
 dsimp only
 have HC : Hid (∀ W t, Dt B kb raw im en q p g (w.alloc (.cells ([.int .u64 0, .int .u64 0, .int .u8 0, .string ⟨#[]⟩] : List Value).toArray 75)) t W → W.cell? ⟨kb, 59, none⟩ = some (.pointer (some ⟨p, 0, none⟩))) := fun W t hW => hW.c59
 have HA : Hid (∀ W t, Dt B kb raw im en q p g (w.alloc (.cells ([.int .u64 0, .int .u64 0, .int .u8 0, .string ⟨#[]⟩] : List Value).toArray 75)) t W → Dt B kb raw im en q p g (w.alloc (.cells ([.int .u64 0, .int .u64 0, .int .u8 0, .string ⟨#[]⟩] : List Value).toArray 75)) t (W.alloc (.cells ([.int .u64 0, .int .u64 0, .int .u8 0, .string ⟨#[]⟩] : List Value).toArray 75))) := fun W t hW => hW.below ((Below.refl _ _).alloc (Nat.le_refl _) _)
 have HEa := Lib.hid (enters_of Tryz.func83 (by kernel_rfl) rfl)
 have HEb := Lib.hid (enters_of Tryz.func124 (by kernel_rfl) rfl)
 have c59 := HC.out _ _ H0.out
 have HSm : Hid (∀ W t, Dt B kb raw im en q p g (w.alloc (.cells ([.int .u64 0, .int .u64 0, .int .u8 0, .string ⟨#[]⟩] : List Value).toArray 75)) t W → w.heap.size < W.heap.size) := fun W t hW => by
  have h9 := hW.fr.size
  simp at h9
  omega
 go_enter Tryz.func97, Tryz.ntmps97
 go_wp2_with fail
 refine wp_region_held_drew (S := fun W => W.cell? ⟨kb, 59, none⟩ = some (.pointer (some ⟨p, 0, none⟩))) (by kernel_rfl) c59 (fun hH => ?_)
 simp only [List.size_toArray, List.length_cons, List.length_nil]
 refine takeH (i := 0) (d := 4) (v := Value.pointer (some ⟨kb, 0, none⟩)) rfl rfl (by kernel_rfl) (by kernel_rfl) (by kernel_rfl) (fun _ _ _ h => h) (Or.inl ⟨by kernel_rfl, fun wz hz => by (try dsimp only at hz); go_simp⟩) hH ?_
 simp only [Act.put, List.setIfInBounds_toArray, List.set_cons_succ, List.set_cons_zero]
 refine takeH (i := 1) (d := 5) (v := Value.pointer (some ⟨kb, 0, none⟩)) rfl rfl (by kernel_rfl) (by kernel_rfl) (by kernel_rfl) (fun _ _ _ h => h) (Or.inl ⟨by kernel_rfl, fun wz hz => by (try dsimp only at hz); go_simp⟩) hH ?_
 simp only [Act.put, List.setIfInBounds_toArray, List.set_cons_succ, List.set_cons_zero]
 refine takeH (i := 2) (d := 6) (v := Value.pointer (some ⟨kb, 59, none⟩)) rfl rfl (by kernel_rfl) (by kernel_rfl) (by kernel_rfl) (fun _ _ _ h => h) (Or.inl ⟨by kernel_rfl, fun wz hz => by (try dsimp only at hz); go_simp⟩) hH ?_
 simp only [Act.put, List.setIfInBounds_toArray, List.set_cons_succ, List.set_cons_zero]
 refine takeH (i := 3) (d := 7) (v := Value.pointer (some ⟨p, 0, none⟩)) rfl rfl (by kernel_rfl) (by kernel_rfl) (by kernel_rfl) (fun _ _ _ h => h) (Or.inl ⟨by kernel_rfl, fun wz hz => by (try dsimp only at hz); go_simp⟩) hH ?_
 simp only [Act.put, List.setIfInBounds_toArray, List.set_cons_succ, List.set_cons_zero]
 refine takeH (i := 5) (d := 9) (v := Value.pointer (some ⟨kb, 0, none⟩)) rfl rfl (by kernel_rfl) (by kernel_rfl) (by kernel_rfl) (fun _ _ _ h => h) (Or.inl ⟨by kernel_rfl, fun wz hz => by (try dsimp only at hz); go_simp⟩) hH ?_
 simp only [Act.put, List.setIfInBounds_toArray, List.set_cons_succ, List.set_cons_zero]
 refine takeH (i := 6) (d := 10) (v := Value.pointer (some ⟨kb, 0, none⟩)) rfl rfl (by kernel_rfl) (by kernel_rfl) (by kernel_rfl) (fun _ _ _ h => h) (Or.inl ⟨by kernel_rfl, fun wz hz => by (try dsimp only at hz); go_simp⟩) hH ?_
 simp only [Act.put, List.setIfInBounds_toArray, List.set_cons_succ, List.set_cons_zero]
 refine takeH (i := 7) (d := 11) (v := Value.pointer (some ⟨kb, 59, none⟩)) rfl rfl (by kernel_rfl) (by kernel_rfl) (by kernel_rfl) (fun _ _ _ h => h) (Or.inl ⟨by kernel_rfl, fun wz hz => by (try dsimp only at hz); go_simp⟩) hH ?_
 simp only [Act.put, List.setIfInBounds_toArray, List.set_cons_succ, List.set_cons_zero]
 refine takeH (i := 8) (d := 12) (v := Value.pointer (some ⟨p, 0, none⟩)) rfl rfl (by kernel_rfl) (by kernel_rfl) (by kernel_rfl) (fun _ _ _ h => h) (Or.inl ⟨by kernel_rfl, fun wz hz => by (try dsimp only at hz); go_simp⟩) hH ?_
 simp only [Act.put, List.setIfInBounds_toArray, List.set_cons_succ, List.set_cons_zero]
 refine takeH (i := 10) (d := 14) (v := Value.pointer (some ⟨kb, 0, none⟩)) rfl rfl (by kernel_rfl) (by kernel_rfl) (by kernel_rfl) (fun _ _ _ h => h) (Or.inl ⟨by kernel_rfl, fun wz hz => by (try dsimp only at hz); go_simp⟩) hH ?_
 simp only [Act.put, List.setIfInBounds_toArray, List.set_cons_succ, List.set_cons_zero]
 refine takeH (i := 11) (d := 15) (v := Value.pointer (some ⟨kb, 0, none⟩)) rfl rfl (by kernel_rfl) (by kernel_rfl) (by kernel_rfl) (fun _ _ _ h => h) (Or.inl ⟨by kernel_rfl, fun wz hz => by (try dsimp only at hz); go_simp⟩) hH ?_
 simp only [Act.put, List.setIfInBounds_toArray, List.set_cons_succ, List.set_cons_zero]
 refine takeH (i := 12) (d := 16) (v := Value.pointer (some ⟨kb, 59, none⟩)) rfl rfl (by kernel_rfl) (by kernel_rfl) (by kernel_rfl) (fun _ _ _ h => h) (Or.inl ⟨by kernel_rfl, fun wz hz => by (try dsimp only at hz); go_simp⟩) hH ?_
 simp only [Act.put, List.setIfInBounds_toArray, List.set_cons_succ, List.set_cons_zero]
 refine takeH (i := 13) (d := 17) (v := Value.pointer (some ⟨p, 0, none⟩)) rfl rfl (by kernel_rfl) (by kernel_rfl) (by kernel_rfl) (fun _ _ _ h => h) (Or.inl ⟨by kernel_rfl, fun wz hz => by (try dsimp only at hz); go_simp⟩) hH ?_
 simp only [Act.put, List.setIfInBounds_toArray, List.set_cons_succ, List.set_cons_zero]
 refine wpAnyH_ready (rs := [4, 16]) (by kernel_rfl) (by simp) ?_
 refine readyCall (i := 4) (d := 8) rfl rfl (by kernel_rfl) 83 _ _ rfl HEa.out _ (by simp [Act.eval]) (K0.out _ H0.out) (fun v w' h => HC.out _ _ h.2.1) ?_ ?_
 ·rintro _ x1 ⟨rfl, hd1, hk1⟩ hs1
  simp only [Act.put, List.setIfInBounds_toArray, List.set_cons_succ, List.set_cons_zero]
  refine wpAnyH_ready (rs := [9, 16]) (by kernel_rfl) (by simp) ?_
  refine readyCall (i := 9) (d := 13) rfl rfl (by kernel_rfl) 83 _ _ rfl HEa.out _ (by simp [Act.eval]) (K1.out _ hd1) (fun v w' h => HC.out _ _ h.2.1) ?_ ?_
  ·rintro _ x2 ⟨rfl, hd2, hk2⟩ hs2
   simp only [Act.put, List.setIfInBounds_toArray, List.set_cons_succ, List.set_cons_zero]
   refine wpAnyH_ready (rs := [14, 16]) (by kernel_rfl) (by simp) ?_
   refine readyCall (i := 14) (d := 18) rfl rfl (by kernel_rfl) 124 _ _ rfl HEb.out _ (by simp [Act.eval]) (K2.out _ hd2) (fun v w' h => HC.out _ _ h.2.1) ?_ ?_
   ·rintro _ x3 ⟨rfl, hd3, hk3⟩ hs3
    simp only [Act.put, List.setIfInBounds_toArray, List.set_cons_succ, List.set_cons_zero]
    refine takeH (i := 15) (d := 19) (v := .agg ([.int .u64 (v0 : Nat), .int .u64 (v1 : Nat), .int .u8 (v2 : Nat), .string ⟨#[]⟩] : List Value).toArray) rfl rfl (by kernel_rfl) (by kernel_rfl) (by kernel_rfl) (fun _ _ _ h => h) (Or.inl ⟨by kernel_rfl, fun wz hz => by (try dsimp only at hz); go_simp⟩) hs3 ?_
    simp only [Act.put, List.setIfInBounds_toArray, List.set_cons_succ, List.set_cons_zero]
    refine wpAnyH_ready (rs := [16]) (by kernel_rfl) (by simp) ?_
    have hM := heap_alloc_new x3 (.cells ([.int .u64 0, .int .u64 0, .int .u8 0, .string ⟨#[]⟩] : List Value).toArray 75)
    have hY := HA.out _ _ hd3
    have hmn := HSm.out _ _ hd3
    refine readyValW (i := 16) (d := 3) (w' := x3.alloc (.cells ([.int .u64 0, .int .u64 0, .int .u8 0, .string ⟨#[]⟩] : List Value).toArray 75)) rfl rfl (by kernel_rfl) (.pointer (some ⟨x3.heap.size, 0, none⟩)) (by go_simp) (HC.out _ _ hY) ?_ AllReadyH.nil
    simp only [Act.put, List.setIfInBounds_toArray, List.set_cons_succ, List.set_cons_zero]
    generalize x3.alloc (.cells ([.int .u64 0, .int .u64 0, .int .u8 0, .string ⟨#[]⟩] : List Value).toArray 75) = Y at hM hY ⊢
    generalize x3.heap.size = m at hM hmn ⊢
    have hsY := HC.out _ _ hY
    refine wpAnyH_ready (rs := [17]) (by kernel_rfl) (by simp) ?_
    have q0 := box_cell hM 0
    have r0 := box_free hM 0
    have q1 := box_cell hM 1
    have r1 := box_free hM 1
    have q2 := box_cell hM 2
    have r2 := box_free hM 2
    have q3 := box_cell hM 3
    have r3 := box_free hM 3
    simp only [List.getElem?_cons_zero, List.getElem?_cons_succ] at q0 q1 q2 q3
    have hmk : m ≠ kb := by have := HKb.out; omega
    refine readySkip (i := 17) (w' := ((((Y.setCell ⟨m, 0, none⟩ (.int .u64 (v0 : Nat))).setCell ⟨m, 1, none⟩ (.int .u64 (v1 : Nat))).setCell ⟨m, 2, none⟩ (.int .u8 (v2 : Nat))).setCell ⟨m, 3, none⟩ (.string ⟨#[]⟩))) rfl rfl (by kernel_rfl) (by go_simp) (gd_kept (gd_kept (gd_kept (gd_kept hsY hmk) hmk) hmk) hmk) ?_ AllReadyH.nil
    have h2 := (Db.dt (t := 75) (n := m) (Db.set (Db.set (Db.set (Db.set ⟨hY, ⟨_, hM⟩, (by simp; omega), by decide, by decide, by decide⟩ 0 (.int .u64 (v0 : Nat))) 1 (.int .u64 (v1 : Nat))) 2 (.int .u8 (v2 : Nat))) 3 (.string ⟨#[]⟩)))
    have hb2 : ((((Y.setCell ⟨m, 0, none⟩ (.int .u64 (v0 : Nat))).setCell ⟨m, 1, none⟩ (.int .u64 (v1 : Nat))).setCell ⟨m, 2, none⟩ (.int .u8 (v2 : Nat))).setCell ⟨m, 3, none⟩ (.string ⟨#[]⟩)).heap[m]? = some (.cells ([.int .u64 (v0 : Nat), .int .u64 (v1 : Nat), .int .u8 (v2 : Nat), .string ⟨#[]⟩] : List Value).toArray 75 (0, 0)) := box_set (box_set (box_set (box_set hM _ _) _ _) _ _) _ _
    generalize ((((Y.setCell ⟨m, 0, none⟩ (.int .u64 (v0 : Nat))).setCell ⟨m, 1, none⟩ (.int .u64 (v1 : Nat))).setCell ⟨m, 2, none⟩ (.int .u8 (v2 : Nat))).setCell ⟨m, 3, none⟩ (.string ⟨#[]⟩)) = w3 at h2 hb2 ⊢
    clear q0 q1 q2 q3 r0 r1 r2 r3 hM
    refine wpAnyH_done (by kernel_rfl) ?_ _
    have hr2 := HB.out _ _ h2
    have HB2 : Hid (∀ W t, Dt B kb raw im en q p g w3 t W → W.heap[w.heap.size]? = some (.cells ([.int .u64 0, .int .u64 0, .int .u8 0, .string ⟨#[]⟩] : List Value).toArray 75 (0, 0)) ∧ W.heap[m]? = some (.cells ([.int .u64 (v0 : Nat), .int .u64 (v1 : Nat), .int .u8 (v2 : Nat), .string ⟨#[]⟩] : List Value).toArray 75 (0, 0))) := fun W t hW => ⟨hW.box hr2 (by decide) (by decide), hW.box hb2 (by decide) (by decide)⟩
    have HF2 : Hid (Fd B w0 w3) := HF.out.trans h2.fr
    have nm1 : ¬ w.heap.size = m := by omega
    have nm2 : ¬ m = w.heap.size := by omega
    have HLt : Hid (w.heap.size < m) := hmn
    have H3 : Hid (Dt B kb raw im en q p g w3 s3 w3) := h2.here
    clear h2 hb2 hr2 hmn HB HF HA HC HSm HEa HEb
    go_wp2_with fail
    refine (K3.out _ _ H3).mono ?_
    rintro e w4 ⟨rfl, h9⟩
    have H4 : Hid (Dt B kb raw im en q p g w3 s4 w4) := h9
    clear h9 H3 K3
    go_wp2_with fail
    refine (K4.out _ _ H4).mono ?_
    rintro e w5 ⟨rfl, h9⟩
    have H5 : Hid (Dt B kb raw im en q p g w3 s5 w5) := h9
    clear h9 H4 K4
    obtain ⟨hbx, hby⟩ := HB2.out _ _ H5.out
    have d0 := box_cell hbx 0
    have f0 := box_free hbx 0
    have l0 := box_cell hby 0
    have d1 := box_cell hbx 1
    have f1 := box_free hbx 1
    have l1 := box_cell hby 1
    have d2 := box_cell hbx 2
    have f2 := box_free hbx 2
    have l2 := box_cell hby 2
    have d3 := box_cell hbx 3
    have f3 := box_free hbx 3
    have l3 := box_cell hby 3
    have fl := box_free hby 3
    simp only [List.getElem?_cons_zero, List.getElem?_cons_succ] at d0 l0 d1 l1 d2 l2 d3 l3
    have HY : Hid (Db 75 m B kb raw im en q p g w0 s5 (w5.setCell ⟨m, 3, none⟩ (.string v4))) := Db.set ⟨H5.out.since HF2.out, ⟨_, hby⟩, Nat.le_trans HS.out (Nat.le_of_lt HLt.out), by decide, by decide, by decide⟩ _ _
    have HZ : Hid ((w5.setCell ⟨m, 3, none⟩ (.string v4)).heap[w.heap.size]? = some (.cells ([.int .u64 0, .int .u64 0, .int .u8 0, .string ⟨#[]⟩] : List Value).toArray 75 (0, 0))) := ((Keeps.setCell w5 m 3 _).block w.heap.size (Array.getElem?_eq_some_iff.1 hbx).1 nm1).trans hbx
    have HD : Hid (Db 75 w.heap.size B kb raw im en q p g w0 s5 (w5.setCell ⟨m, 3, none⟩ (.string v4))) := ⟨HY.out.dt, ⟨_, HZ.out⟩, HS.out, by decide, by decide, by decide⟩
    clear hbx hby H5 HB2 HF2 HS HLt
    go_wp2_with fail
    generalize hW : World.setCell _ _ _ = W
    have hz : W.heap[w.heap.size]? = some (.cells (gdE (⟨v0, v1, v2, v4⟩ : Gd)).toArray 75 (0, 0)) := by rw [← hW]; exact (box_set (box_set (box_set (box_set HZ.out _ _) _ _) _ _) _ _)
    have HW : Hid (Dt B kb raw im en q p g w0 s5 W) := by
     refine Db.dt (t := 75) (n := w.heap.size) ?_
     rw [← hW]
     exact (Db.set (Db.set (Db.set (Db.set HD.out _ _) _ _) _ _) _ _)
    clear hW HD HZ d0 f0 l0 d1 f1 l1 d2 f2 l2 d3 f3 l3
    simp only [gdE] at hz
    have g0 := box_cell hz 0
    have g1 := box_cell hz 1
    have g2 := box_cell hz 2
    have g3 := box_cell hz 3
    simp only [List.getElem?_cons_zero, List.getElem?_cons_succ] at g0 g1 g2 g3
    clear hz
    refine bodyPost_ret (v := .agg (gdE (⟨v0, v1, v2, v4⟩ : Gd)).toArray) (by simp [results, Tryz.results97, go_sem, gdE, g0, g1, g2, g3]) rfl ?_
    exact ⟨rfl, HW.out⟩
   ·have hM := heap_alloc_new x2 (.cells ([.int .u64 0, .int .u64 0, .int .u8 0, .string ⟨#[]⟩] : List Value).toArray 75)
    have hY := HA.out _ _ hd2
    have hmn := HSm.out _ _ hd2
    refine readyValW (i := 16) (d := 3) (w' := x2.alloc (.cells ([.int .u64 0, .int .u64 0, .int .u8 0, .string ⟨#[]⟩] : List Value).toArray 75)) rfl rfl (by kernel_rfl) (.pointer (some ⟨x2.heap.size, 0, none⟩)) (by go_simp) (HC.out _ _ hY) ?_ AllReadyH.nil
    simp only [Act.put, List.setIfInBounds_toArray, List.set_cons_succ, List.set_cons_zero]
    generalize x2.alloc (.cells ([.int .u64 0, .int .u64 0, .int .u8 0, .string ⟨#[]⟩] : List Value).toArray 75) = Y at hM hY ⊢
    generalize x2.heap.size = m at hM hmn ⊢
    have hsY := HC.out _ _ hY
    refine wpAnyH_ready (rs := [14]) (by kernel_rfl) (by simp) ?_
    refine readyCall (i := 14) (d := 18) rfl rfl (by kernel_rfl) 124 _ _ rfl HEb.out _ (by simp [Act.eval]) (K2.out _ hY) (fun v w' h => HC.out _ _ h.2.1) ?_ AllReadyH.nil
    ·rintro _ x3 ⟨rfl, hd3, hk3⟩ hs3
     simp only [Act.put, List.setIfInBounds_toArray, List.set_cons_succ, List.set_cons_zero]
     replace hM := hk3 _ _ hM
     refine takeH (i := 15) (d := 19) (v := .agg ([.int .u64 (v0 : Nat), .int .u64 (v1 : Nat), .int .u8 (v2 : Nat), .string ⟨#[]⟩] : List Value).toArray) rfl rfl (by kernel_rfl) (by kernel_rfl) (by kernel_rfl) (fun _ _ _ h => h) (Or.inl ⟨by kernel_rfl, fun wz hz => by (try dsimp only at hz); go_simp⟩) hs3 ?_
     simp only [Act.put, List.setIfInBounds_toArray, List.set_cons_succ, List.set_cons_zero]
     refine wpAnyH_ready (rs := [17]) (by kernel_rfl) (by simp) ?_
     have q0 := box_cell hM 0
     have r0 := box_free hM 0
     have q1 := box_cell hM 1
     have r1 := box_free hM 1
     have q2 := box_cell hM 2
     have r2 := box_free hM 2
     have q3 := box_cell hM 3
     have r3 := box_free hM 3
     simp only [List.getElem?_cons_zero, List.getElem?_cons_succ] at q0 q1 q2 q3
     have hmk : m ≠ kb := by have := HKb.out; omega
     refine readySkip (i := 17) (w' := ((((x3.setCell ⟨m, 0, none⟩ (.int .u64 (v0 : Nat))).setCell ⟨m, 1, none⟩ (.int .u64 (v1 : Nat))).setCell ⟨m, 2, none⟩ (.int .u8 (v2 : Nat))).setCell ⟨m, 3, none⟩ (.string ⟨#[]⟩))) rfl rfl (by kernel_rfl) (by go_simp) (gd_kept (gd_kept (gd_kept (gd_kept hs3 hmk) hmk) hmk) hmk) ?_ AllReadyH.nil
     have h2 := (Db.dt (t := 75) (n := m) (Db.set (Db.set (Db.set (Db.set ⟨hd3, ⟨_, hM⟩, (by simp; omega), by decide, by decide, by decide⟩ 0 (.int .u64 (v0 : Nat))) 1 (.int .u64 (v1 : Nat))) 2 (.int .u8 (v2 : Nat))) 3 (.string ⟨#[]⟩)))
     have hb2 : ((((x3.setCell ⟨m, 0, none⟩ (.int .u64 (v0 : Nat))).setCell ⟨m, 1, none⟩ (.int .u64 (v1 : Nat))).setCell ⟨m, 2, none⟩ (.int .u8 (v2 : Nat))).setCell ⟨m, 3, none⟩ (.string ⟨#[]⟩)).heap[m]? = some (.cells ([.int .u64 (v0 : Nat), .int .u64 (v1 : Nat), .int .u8 (v2 : Nat), .string ⟨#[]⟩] : List Value).toArray 75 (0, 0)) := box_set (box_set (box_set (box_set hM _ _) _ _) _ _) _ _
     generalize ((((x3.setCell ⟨m, 0, none⟩ (.int .u64 (v0 : Nat))).setCell ⟨m, 1, none⟩ (.int .u64 (v1 : Nat))).setCell ⟨m, 2, none⟩ (.int .u8 (v2 : Nat))).setCell ⟨m, 3, none⟩ (.string ⟨#[]⟩)) = w3 at h2 hb2 ⊢
     clear q0 q1 q2 q3 r0 r1 r2 r3 hM
     refine wpAnyH_done (by kernel_rfl) ?_ _
     have hr2 := HB.out _ _ h2
     have HB2 : Hid (∀ W t, Dt B kb raw im en q p g w3 t W → W.heap[w.heap.size]? = some (.cells ([.int .u64 0, .int .u64 0, .int .u8 0, .string ⟨#[]⟩] : List Value).toArray 75 (0, 0)) ∧ W.heap[m]? = some (.cells ([.int .u64 (v0 : Nat), .int .u64 (v1 : Nat), .int .u8 (v2 : Nat), .string ⟨#[]⟩] : List Value).toArray 75 (0, 0))) := fun W t hW => ⟨hW.box hr2 (by decide) (by decide), hW.box hb2 (by decide) (by decide)⟩
     have HF2 : Hid (Fd B w0 w3) := HF.out.trans h2.fr
     have nm1 : ¬ w.heap.size = m := by omega
     have nm2 : ¬ m = w.heap.size := by omega
     have HLt : Hid (w.heap.size < m) := hmn
     have H3 : Hid (Dt B kb raw im en q p g w3 s3 w3) := h2.here
     clear h2 hb2 hr2 hmn HB HF HA HC HSm HEa HEb
     go_wp2_with fail
     refine (K3.out _ _ H3).mono ?_
     rintro e w4 ⟨rfl, h9⟩
     have H4 : Hid (Dt B kb raw im en q p g w3 s4 w4) := h9
     clear h9 H3 K3
     go_wp2_with fail
     refine (K4.out _ _ H4).mono ?_
     rintro e w5 ⟨rfl, h9⟩
     have H5 : Hid (Dt B kb raw im en q p g w3 s5 w5) := h9
     clear h9 H4 K4
     obtain ⟨hbx, hby⟩ := HB2.out _ _ H5.out
     have d0 := box_cell hbx 0
     have f0 := box_free hbx 0
     have l0 := box_cell hby 0
     have d1 := box_cell hbx 1
     have f1 := box_free hbx 1
     have l1 := box_cell hby 1
     have d2 := box_cell hbx 2
     have f2 := box_free hbx 2
     have l2 := box_cell hby 2
     have d3 := box_cell hbx 3
     have f3 := box_free hbx 3
     have l3 := box_cell hby 3
     have fl := box_free hby 3
     simp only [List.getElem?_cons_zero, List.getElem?_cons_succ] at d0 l0 d1 l1 d2 l2 d3 l3
     have HY : Hid (Db 75 m B kb raw im en q p g w0 s5 (w5.setCell ⟨m, 3, none⟩ (.string v4))) := Db.set ⟨H5.out.since HF2.out, ⟨_, hby⟩, Nat.le_trans HS.out (Nat.le_of_lt HLt.out), by decide, by decide, by decide⟩ _ _
     have HZ : Hid ((w5.setCell ⟨m, 3, none⟩ (.string v4)).heap[w.heap.size]? = some (.cells ([.int .u64 0, .int .u64 0, .int .u8 0, .string ⟨#[]⟩] : List Value).toArray 75 (0, 0))) := ((Keeps.setCell w5 m 3 _).block w.heap.size (Array.getElem?_eq_some_iff.1 hbx).1 nm1).trans hbx
     have HD : Hid (Db 75 w.heap.size B kb raw im en q p g w0 s5 (w5.setCell ⟨m, 3, none⟩ (.string v4))) := ⟨HY.out.dt, ⟨_, HZ.out⟩, HS.out, by decide, by decide, by decide⟩
     clear hbx hby H5 HB2 HF2 HS HLt
     go_wp2_with fail
     generalize hW : World.setCell _ _ _ = W
     have hz : W.heap[w.heap.size]? = some (.cells (gdE (⟨v0, v1, v2, v4⟩ : Gd)).toArray 75 (0, 0)) := by rw [← hW]; exact (box_set (box_set (box_set (box_set HZ.out _ _) _ _) _ _) _ _)
     have HW : Hid (Dt B kb raw im en q p g w0 s5 W) := by
      refine Db.dt (t := 75) (n := w.heap.size) ?_
      rw [← hW]
      exact (Db.set (Db.set (Db.set (Db.set HD.out _ _) _ _) _ _) _ _)
     clear hW HD HZ d0 f0 l0 d1 f1 l1 d2 f2 l2 d3 f3 l3
     simp only [gdE] at hz
     have g0 := box_cell hz 0
     have g1 := box_cell hz 1
     have g2 := box_cell hz 2
     have g3 := box_cell hz 3
     simp only [List.getElem?_cons_zero, List.getElem?_cons_succ] at g0 g1 g2 g3
     clear hz
     refine bodyPost_ret (v := .agg (gdE (⟨v0, v1, v2, v4⟩ : Gd)).toArray) (by simp [results, Tryz.results97, go_sem, gdE, g0, g1, g2, g3]) rfl ?_
     exact ⟨rfl, HW.out⟩
  ·have hM := heap_alloc_new x1 (.cells ([.int .u64 0, .int .u64 0, .int .u8 0, .string ⟨#[]⟩] : List Value).toArray 75)
   have hY := HA.out _ _ hd1
   have hmn := HSm.out _ _ hd1
   refine readyValW (i := 16) (d := 3) (w' := x1.alloc (.cells ([.int .u64 0, .int .u64 0, .int .u8 0, .string ⟨#[]⟩] : List Value).toArray 75)) rfl rfl (by kernel_rfl) (.pointer (some ⟨x1.heap.size, 0, none⟩)) (by go_simp) (HC.out _ _ hY) ?_ AllReadyH.nil
   simp only [Act.put, List.setIfInBounds_toArray, List.set_cons_succ, List.set_cons_zero]
   generalize x1.alloc (.cells ([.int .u64 0, .int .u64 0, .int .u8 0, .string ⟨#[]⟩] : List Value).toArray 75) = Y at hM hY ⊢
   generalize x1.heap.size = m at hM hmn ⊢
   have hsY := HC.out _ _ hY
   refine wpAnyH_ready (rs := [9]) (by kernel_rfl) (by simp) ?_
   refine readyCall (i := 9) (d := 13) rfl rfl (by kernel_rfl) 83 _ _ rfl HEa.out _ (by simp [Act.eval]) (K1.out _ hY) (fun v w' h => HC.out _ _ h.2.1) ?_ AllReadyH.nil
   ·rintro _ x2 ⟨rfl, hd2, hk2⟩ hs2
    simp only [Act.put, List.setIfInBounds_toArray, List.set_cons_succ, List.set_cons_zero]
    replace hM := hk2 _ _ hM
    refine wpAnyH_ready (rs := [14]) (by kernel_rfl) (by simp) ?_
    refine readyCall (i := 14) (d := 18) rfl rfl (by kernel_rfl) 124 _ _ rfl HEb.out _ (by simp [Act.eval]) (K2.out _ hd2) (fun v w' h => HC.out _ _ h.2.1) ?_ AllReadyH.nil
    ·rintro _ x3 ⟨rfl, hd3, hk3⟩ hs3
     simp only [Act.put, List.setIfInBounds_toArray, List.set_cons_succ, List.set_cons_zero]
     replace hM := hk3 _ _ hM
     refine takeH (i := 15) (d := 19) (v := .agg ([.int .u64 (v0 : Nat), .int .u64 (v1 : Nat), .int .u8 (v2 : Nat), .string ⟨#[]⟩] : List Value).toArray) rfl rfl (by kernel_rfl) (by kernel_rfl) (by kernel_rfl) (fun _ _ _ h => h) (Or.inl ⟨by kernel_rfl, fun wz hz => by (try dsimp only at hz); go_simp⟩) hs3 ?_
     simp only [Act.put, List.setIfInBounds_toArray, List.set_cons_succ, List.set_cons_zero]
     refine wpAnyH_ready (rs := [17]) (by kernel_rfl) (by simp) ?_
     have q0 := box_cell hM 0
     have r0 := box_free hM 0
     have q1 := box_cell hM 1
     have r1 := box_free hM 1
     have q2 := box_cell hM 2
     have r2 := box_free hM 2
     have q3 := box_cell hM 3
     have r3 := box_free hM 3
     simp only [List.getElem?_cons_zero, List.getElem?_cons_succ] at q0 q1 q2 q3
     have hmk : m ≠ kb := by have := HKb.out; omega
     refine readySkip (i := 17) (w' := ((((x3.setCell ⟨m, 0, none⟩ (.int .u64 (v0 : Nat))).setCell ⟨m, 1, none⟩ (.int .u64 (v1 : Nat))).setCell ⟨m, 2, none⟩ (.int .u8 (v2 : Nat))).setCell ⟨m, 3, none⟩ (.string ⟨#[]⟩))) rfl rfl (by kernel_rfl) (by go_simp) (gd_kept (gd_kept (gd_kept (gd_kept hs3 hmk) hmk) hmk) hmk) ?_ AllReadyH.nil
     have h2 := (Db.dt (t := 75) (n := m) (Db.set (Db.set (Db.set (Db.set ⟨hd3, ⟨_, hM⟩, (by simp; omega), by decide, by decide, by decide⟩ 0 (.int .u64 (v0 : Nat))) 1 (.int .u64 (v1 : Nat))) 2 (.int .u8 (v2 : Nat))) 3 (.string ⟨#[]⟩)))
     have hb2 : ((((x3.setCell ⟨m, 0, none⟩ (.int .u64 (v0 : Nat))).setCell ⟨m, 1, none⟩ (.int .u64 (v1 : Nat))).setCell ⟨m, 2, none⟩ (.int .u8 (v2 : Nat))).setCell ⟨m, 3, none⟩ (.string ⟨#[]⟩)).heap[m]? = some (.cells ([.int .u64 (v0 : Nat), .int .u64 (v1 : Nat), .int .u8 (v2 : Nat), .string ⟨#[]⟩] : List Value).toArray 75 (0, 0)) := box_set (box_set (box_set (box_set hM _ _) _ _) _ _) _ _
     generalize ((((x3.setCell ⟨m, 0, none⟩ (.int .u64 (v0 : Nat))).setCell ⟨m, 1, none⟩ (.int .u64 (v1 : Nat))).setCell ⟨m, 2, none⟩ (.int .u8 (v2 : Nat))).setCell ⟨m, 3, none⟩ (.string ⟨#[]⟩)) = w3 at h2 hb2 ⊢
     clear q0 q1 q2 q3 r0 r1 r2 r3 hM
     refine wpAnyH_done (by kernel_rfl) ?_ _
     have hr2 := HB.out _ _ h2
     have HB2 : Hid (∀ W t, Dt B kb raw im en q p g w3 t W → W.heap[w.heap.size]? = some (.cells ([.int .u64 0, .int .u64 0, .int .u8 0, .string ⟨#[]⟩] : List Value).toArray 75 (0, 0)) ∧ W.heap[m]? = some (.cells ([.int .u64 (v0 : Nat), .int .u64 (v1 : Nat), .int .u8 (v2 : Nat), .string ⟨#[]⟩] : List Value).toArray 75 (0, 0))) := fun W t hW => ⟨hW.box hr2 (by decide) (by decide), hW.box hb2 (by decide) (by decide)⟩
     have HF2 : Hid (Fd B w0 w3) := HF.out.trans h2.fr
     have nm1 : ¬ w.heap.size = m := by omega
     have nm2 : ¬ m = w.heap.size := by omega
     have HLt : Hid (w.heap.size < m) := hmn
     have H3 : Hid (Dt B kb raw im en q p g w3 s3 w3) := h2.here
     clear h2 hb2 hr2 hmn HB HF HA HC HSm HEa HEb
     go_wp2_with fail
     refine (K3.out _ _ H3).mono ?_
     rintro e w4 ⟨rfl, h9⟩
     have H4 : Hid (Dt B kb raw im en q p g w3 s4 w4) := h9
     clear h9 H3 K3
     go_wp2_with fail
     refine (K4.out _ _ H4).mono ?_
     rintro e w5 ⟨rfl, h9⟩
     have H5 : Hid (Dt B kb raw im en q p g w3 s5 w5) := h9
     clear h9 H4 K4
     obtain ⟨hbx, hby⟩ := HB2.out _ _ H5.out
     have d0 := box_cell hbx 0
     have f0 := box_free hbx 0
     have l0 := box_cell hby 0
     have d1 := box_cell hbx 1
     have f1 := box_free hbx 1
     have l1 := box_cell hby 1
     have d2 := box_cell hbx 2
     have f2 := box_free hbx 2
     have l2 := box_cell hby 2
     have d3 := box_cell hbx 3
     have f3 := box_free hbx 3
     have l3 := box_cell hby 3
     have fl := box_free hby 3
     simp only [List.getElem?_cons_zero, List.getElem?_cons_succ] at d0 l0 d1 l1 d2 l2 d3 l3
     have HY : Hid (Db 75 m B kb raw im en q p g w0 s5 (w5.setCell ⟨m, 3, none⟩ (.string v4))) := Db.set ⟨H5.out.since HF2.out, ⟨_, hby⟩, Nat.le_trans HS.out (Nat.le_of_lt HLt.out), by decide, by decide, by decide⟩ _ _
     have HZ : Hid ((w5.setCell ⟨m, 3, none⟩ (.string v4)).heap[w.heap.size]? = some (.cells ([.int .u64 0, .int .u64 0, .int .u8 0, .string ⟨#[]⟩] : List Value).toArray 75 (0, 0))) := ((Keeps.setCell w5 m 3 _).block w.heap.size (Array.getElem?_eq_some_iff.1 hbx).1 nm1).trans hbx
     have HD : Hid (Db 75 w.heap.size B kb raw im en q p g w0 s5 (w5.setCell ⟨m, 3, none⟩ (.string v4))) := ⟨HY.out.dt, ⟨_, HZ.out⟩, HS.out, by decide, by decide, by decide⟩
     clear hbx hby H5 HB2 HF2 HS HLt
     go_wp2_with fail
     generalize hW : World.setCell _ _ _ = W
     have hz : W.heap[w.heap.size]? = some (.cells (gdE (⟨v0, v1, v2, v4⟩ : Gd)).toArray 75 (0, 0)) := by rw [← hW]; exact (box_set (box_set (box_set (box_set HZ.out _ _) _ _) _ _) _ _)
     have HW : Hid (Dt B kb raw im en q p g w0 s5 W) := by
      refine Db.dt (t := 75) (n := w.heap.size) ?_
      rw [← hW]
      exact (Db.set (Db.set (Db.set (Db.set HD.out _ _) _ _) _ _) _ _)
     clear hW HD HZ d0 f0 l0 d1 f1 l1 d2 f2 l2 d3 f3 l3
     simp only [gdE] at hz
     have g0 := box_cell hz 0
     have g1 := box_cell hz 1
     have g2 := box_cell hz 2
     have g3 := box_cell hz 3
     simp only [List.getElem?_cons_zero, List.getElem?_cons_succ] at g0 g1 g2 g3
     clear hz
     refine bodyPost_ret (v := .agg (gdE (⟨v0, v1, v2, v4⟩ : Gd)).toArray) (by simp [results, Tryz.results97, go_sem, gdE, g0, g1, g2, g3]) rfl ?_
     exact ⟨rfl, HW.out⟩
 ·have hM := heap_alloc_new (w.alloc (.cells ([.int .u64 0, .int .u64 0, .int .u8 0, .string ⟨#[]⟩] : List Value).toArray 75)).drew (.cells ([.int .u64 0, .int .u64 0, .int .u8 0, .string ⟨#[]⟩] : List Value).toArray 75)
  have hY := HA.out _ _ H0.out
  have hmn := HSm.out _ _ H0.out
  refine readyValW (i := 16) (d := 3) (w' := (w.alloc (.cells ([.int .u64 0, .int .u64 0, .int .u8 0, .string ⟨#[]⟩] : List Value).toArray 75)).drew.alloc (.cells ([.int .u64 0, .int .u64 0, .int .u8 0, .string ⟨#[]⟩] : List Value).toArray 75)) rfl rfl (by kernel_rfl) (.pointer (some ⟨(w.alloc (.cells ([.int .u64 0, .int .u64 0, .int .u8 0, .string ⟨#[]⟩] : List Value).toArray 75)).drew.heap.size, 0, none⟩)) (by go_simp) (HC.out _ _ hY) ?_ AllReadyH.nil
  simp only [Act.put, List.setIfInBounds_toArray, List.set_cons_succ, List.set_cons_zero]
  generalize (w.alloc (.cells ([.int .u64 0, .int .u64 0, .int .u8 0, .string ⟨#[]⟩] : List Value).toArray 75)).drew.alloc (.cells ([.int .u64 0, .int .u64 0, .int .u8 0, .string ⟨#[]⟩] : List Value).toArray 75) = Y at hM hY ⊢
  generalize (w.alloc (.cells ([.int .u64 0, .int .u64 0, .int .u8 0, .string ⟨#[]⟩] : List Value).toArray 75)).drew.heap.size = m at hM hmn ⊢
  have hsY := HC.out _ _ hY
  refine wpAnyH_ready (rs := [4]) (by kernel_rfl) (by simp) ?_
  refine readyCall (i := 4) (d := 8) rfl rfl (by kernel_rfl) 83 _ _ rfl HEa.out _ (by simp [Act.eval]) (K0.out _ hY) (fun v w' h => HC.out _ _ h.2.1) ?_ AllReadyH.nil
  ·rintro _ x1 ⟨rfl, hd1, hk1⟩ hs1
   simp only [Act.put, List.setIfInBounds_toArray, List.set_cons_succ, List.set_cons_zero]
   replace hM := hk1 _ _ hM
   refine wpAnyH_ready (rs := [9]) (by kernel_rfl) (by simp) ?_
   refine readyCall (i := 9) (d := 13) rfl rfl (by kernel_rfl) 83 _ _ rfl HEa.out _ (by simp [Act.eval]) (K1.out _ hd1) (fun v w' h => HC.out _ _ h.2.1) ?_ AllReadyH.nil
   ·rintro _ x2 ⟨rfl, hd2, hk2⟩ hs2
    simp only [Act.put, List.setIfInBounds_toArray, List.set_cons_succ, List.set_cons_zero]
    replace hM := hk2 _ _ hM
    refine wpAnyH_ready (rs := [14]) (by kernel_rfl) (by simp) ?_
    refine readyCall (i := 14) (d := 18) rfl rfl (by kernel_rfl) 124 _ _ rfl HEb.out _ (by simp [Act.eval]) (K2.out _ hd2) (fun v w' h => HC.out _ _ h.2.1) ?_ AllReadyH.nil
    ·rintro _ x3 ⟨rfl, hd3, hk3⟩ hs3
     simp only [Act.put, List.setIfInBounds_toArray, List.set_cons_succ, List.set_cons_zero]
     replace hM := hk3 _ _ hM
     refine takeH (i := 15) (d := 19) (v := .agg ([.int .u64 (v0 : Nat), .int .u64 (v1 : Nat), .int .u8 (v2 : Nat), .string ⟨#[]⟩] : List Value).toArray) rfl rfl (by kernel_rfl) (by kernel_rfl) (by kernel_rfl) (fun _ _ _ h => h) (Or.inl ⟨by kernel_rfl, fun wz hz => by (try dsimp only at hz); go_simp⟩) hs3 ?_
     simp only [Act.put, List.setIfInBounds_toArray, List.set_cons_succ, List.set_cons_zero]
     refine wpAnyH_ready (rs := [17]) (by kernel_rfl) (by simp) ?_
     have q0 := box_cell hM 0
     have r0 := box_free hM 0
     have q1 := box_cell hM 1
     have r1 := box_free hM 1
     have q2 := box_cell hM 2
     have r2 := box_free hM 2
     have q3 := box_cell hM 3
     have r3 := box_free hM 3
     simp only [List.getElem?_cons_zero, List.getElem?_cons_succ] at q0 q1 q2 q3
     have hmk : m ≠ kb := by have := HKb.out; omega
     refine readySkip (i := 17) (w' := ((((x3.setCell ⟨m, 0, none⟩ (.int .u64 (v0 : Nat))).setCell ⟨m, 1, none⟩ (.int .u64 (v1 : Nat))).setCell ⟨m, 2, none⟩ (.int .u8 (v2 : Nat))).setCell ⟨m, 3, none⟩ (.string ⟨#[]⟩))) rfl rfl (by kernel_rfl) (by go_simp) (gd_kept (gd_kept (gd_kept (gd_kept hs3 hmk) hmk) hmk) hmk) ?_ AllReadyH.nil
     have h2 := (Db.dt (t := 75) (n := m) (Db.set (Db.set (Db.set (Db.set ⟨hd3, ⟨_, hM⟩, (by simp; omega), by decide, by decide, by decide⟩ 0 (.int .u64 (v0 : Nat))) 1 (.int .u64 (v1 : Nat))) 2 (.int .u8 (v2 : Nat))) 3 (.string ⟨#[]⟩)))
     have hb2 : ((((x3.setCell ⟨m, 0, none⟩ (.int .u64 (v0 : Nat))).setCell ⟨m, 1, none⟩ (.int .u64 (v1 : Nat))).setCell ⟨m, 2, none⟩ (.int .u8 (v2 : Nat))).setCell ⟨m, 3, none⟩ (.string ⟨#[]⟩)).heap[m]? = some (.cells ([.int .u64 (v0 : Nat), .int .u64 (v1 : Nat), .int .u8 (v2 : Nat), .string ⟨#[]⟩] : List Value).toArray 75 (0, 0)) := box_set (box_set (box_set (box_set hM _ _) _ _) _ _) _ _
     generalize ((((x3.setCell ⟨m, 0, none⟩ (.int .u64 (v0 : Nat))).setCell ⟨m, 1, none⟩ (.int .u64 (v1 : Nat))).setCell ⟨m, 2, none⟩ (.int .u8 (v2 : Nat))).setCell ⟨m, 3, none⟩ (.string ⟨#[]⟩)) = w3 at h2 hb2 ⊢
     clear q0 q1 q2 q3 r0 r1 r2 r3 hM
     refine wpAnyH_done (by kernel_rfl) ?_ _
     have hr2 := HB.out _ _ h2
     have HB2 : Hid (∀ W t, Dt B kb raw im en q p g w3 t W → W.heap[w.heap.size]? = some (.cells ([.int .u64 0, .int .u64 0, .int .u8 0, .string ⟨#[]⟩] : List Value).toArray 75 (0, 0)) ∧ W.heap[m]? = some (.cells ([.int .u64 (v0 : Nat), .int .u64 (v1 : Nat), .int .u8 (v2 : Nat), .string ⟨#[]⟩] : List Value).toArray 75 (0, 0))) := fun W t hW => ⟨hW.box hr2 (by decide) (by decide), hW.box hb2 (by decide) (by decide)⟩
     have HF2 : Hid (Fd B w0 w3) := HF.out.trans h2.fr
     have nm1 : ¬ w.heap.size = m := by omega
     have nm2 : ¬ m = w.heap.size := by omega
     have HLt : Hid (w.heap.size < m) := hmn
     have H3 : Hid (Dt B kb raw im en q p g w3 s3 w3) := h2.here
     clear h2 hb2 hr2 hmn HB HF HA HC HSm HEa HEb
     go_wp2_with fail
     refine (K3.out _ _ H3).mono ?_
     rintro e w4 ⟨rfl, h9⟩
     have H4 : Hid (Dt B kb raw im en q p g w3 s4 w4) := h9
     clear h9 H3 K3
     go_wp2_with fail
     refine (K4.out _ _ H4).mono ?_
     rintro e w5 ⟨rfl, h9⟩
     have H5 : Hid (Dt B kb raw im en q p g w3 s5 w5) := h9
     clear h9 H4 K4
     obtain ⟨hbx, hby⟩ := HB2.out _ _ H5.out
     have d0 := box_cell hbx 0
     have f0 := box_free hbx 0
     have l0 := box_cell hby 0
     have d1 := box_cell hbx 1
     have f1 := box_free hbx 1
     have l1 := box_cell hby 1
     have d2 := box_cell hbx 2
     have f2 := box_free hbx 2
     have l2 := box_cell hby 2
     have d3 := box_cell hbx 3
     have f3 := box_free hbx 3
     have l3 := box_cell hby 3
     have fl := box_free hby 3
     simp only [List.getElem?_cons_zero, List.getElem?_cons_succ] at d0 l0 d1 l1 d2 l2 d3 l3
     have HY : Hid (Db 75 m B kb raw im en q p g w0 s5 (w5.setCell ⟨m, 3, none⟩ (.string v4))) := Db.set ⟨H5.out.since HF2.out, ⟨_, hby⟩, Nat.le_trans HS.out (Nat.le_of_lt HLt.out), by decide, by decide, by decide⟩ _ _
     have HZ : Hid ((w5.setCell ⟨m, 3, none⟩ (.string v4)).heap[w.heap.size]? = some (.cells ([.int .u64 0, .int .u64 0, .int .u8 0, .string ⟨#[]⟩] : List Value).toArray 75 (0, 0))) := ((Keeps.setCell w5 m 3 _).block w.heap.size (Array.getElem?_eq_some_iff.1 hbx).1 nm1).trans hbx
     have HD : Hid (Db 75 w.heap.size B kb raw im en q p g w0 s5 (w5.setCell ⟨m, 3, none⟩ (.string v4))) := ⟨HY.out.dt, ⟨_, HZ.out⟩, HS.out, by decide, by decide, by decide⟩
     clear hbx hby H5 HB2 HF2 HS HLt
     go_wp2_with fail
     generalize hW : World.setCell _ _ _ = W
     have hz : W.heap[w.heap.size]? = some (.cells (gdE (⟨v0, v1, v2, v4⟩ : Gd)).toArray 75 (0, 0)) := by rw [← hW]; exact (box_set (box_set (box_set (box_set HZ.out _ _) _ _) _ _) _ _)
     have HW : Hid (Dt B kb raw im en q p g w0 s5 W) := by
      refine Db.dt (t := 75) (n := w.heap.size) ?_
      rw [← hW]
      exact (Db.set (Db.set (Db.set (Db.set HD.out _ _) _ _) _ _) _ _)
     clear hW HD HZ d0 f0 l0 d1 f1 l1 d2 f2 l2 d3 f3 l3
     simp only [gdE] at hz
     have g0 := box_cell hz 0
     have g1 := box_cell hz 1
     have g2 := box_cell hz 2
     have g3 := box_cell hz 3
     simp only [List.getElem?_cons_zero, List.getElem?_cons_succ] at g0 g1 g2 g3
     clear hz
     refine bodyPost_ret (v := .agg (gdE (⟨v0, v1, v2, v4⟩ : Gd)).toArray) (by simp [results, Tryz.results97, go_sem, gdE, g0, g1, g2, g3]) rfl ?_
     exact ⟨rfl, HW.out⟩
end
end Go.Proofs.YtnifefmfhjfbnaaGreatDoor
/- Bundle: a lane is taken. Own work. -/
namespace Go.Proofs.YtnifefmfhjfbnaaGreatDoor
open Go.RowKit Bn Dc
set_option linter.unusedVariables false
set_option linter.unusedSimpArgs false
theorem OwnG.zero {β : Type} {t : TypeId} {k : Nat} {enc : β → List Value} {w : World} {base : Nat} {v : Value} {xs : List β} (h : OwnG t k enc w base v xs) : OwnG t k enc w 0 v xs := by
 refine ⟨h.1, ?_⟩
 rcases h.2 with hv | ⟨g, cap, cur, rfl, hbb, rest⟩
 ·exact .inl hv
 ·exact .inr ⟨g, cap, cur, rfl, Nat.zero_le _, rest⟩
theorem OwnG.rz {β : Type} {t u : TypeId} {k : Nat} {enc : β → List Value} {w w' : World} {base : Nat} {v : Value} {xs : List β} (h : OwnG t k enc w base v xs) (hf : Rz u w w') (h1 : t ≠ 66) (h2 : t ≠ 142) (h3 : t ≠ u) : OwnG t k enc w' base v xs := by
 refine h.keeps hf (fun j e => ?_)
 obtain ⟨_, _, _, _, _, hj⟩ := h.form
 obtain ⟨_, _, ht⟩ := hj j e
 rintro (e | e | e)
 ·exact h1 (tag_same ht e)
 ·exact h2 (tag_same ht e)
 ·exact h3 (tag_same ht e)
/-- a row of lanes that the reader made -/
def LaO (W : World) (v : SlV) (ls : List (List (Int × Int))) : Prop := ∃ us : List SlV, OwnG 84 1 slE W 0 (slE1 v) us ∧ T2 (fun u l => OwnG 83 2 stE W 0 (slE1 u) l) us ls
/-- a row of plans that the reader made -/
def ScO (W : World) (x : Int × SlV) (y : Sc) : Prop := x.1 = y.maj ∧ LaO W x.2 y.lanes
theorem LaO.rz {W W' : World} {v : SlV} {ls : List (List (Int × Int))} {u : TypeId} (h : LaO W v ls) (hf : Rz u W W') (h1 : 84 ≠ u) (h2 : 83 ≠ u) : LaO W' v ls := by
 obtain ⟨us, ho, ht⟩ := h
 exact ⟨us, ho.rz hf (by decide) (by decide) h1, ht.imp (fun x y h => h.rz hf (by decide) (by decide) h2)⟩
theorem slE1_of {v : Value} {a : Option Addr} {n c : Nat} (h : v = .slice a n c) : v = slE1 ⟨a, n, c⟩ := h
section
variable {B kb : Nat} {raw : Value} {im en : List Value} {q : Pt} {p g : Nat} {w0 : World} {s : D} {w w' : World}
theorem many_le (h : Dt B kb raw im en q p g w0 s w) : (manyD q s).1 ≤ 65535 := Nat.le_of_lt_succ (take_lt h.small 2 s)
set_option maxRecDepth 100000 in
set_option maxHeartbeats 4000000 in
theorem dlaneX (h : Dt B kb raw im en q p g w0 s w) : Calls Tryz.prog 105 #[.pointer (some ⟨kb, 0, none⟩)] w fun e w' => ∃ x, e = .returned (slE1 x) ∧ OwnG 83 2 stE w' 0 (slE1 x) (laneD q s).1 ∧ Dt B kb raw im en q p g w0 (laneD q s).2 w' := by
 have hm := many_le h
 have HC := Lib.hid (dmanyX h)
 unfold laneD
 generalize (manyD q s).1 = n at *
 generalize (manyD q s).2 = t at *
 have HL : Hid (∀ W, Dt B kb raw im en q p g w0 t W → Calls Tryz.prog 126 #[.pointer (some ⟨kb, 0, none⟩), .int .i64 (n : Int), (.func (.func 127) #[.pointer (some ⟨kb, 0, none⟩)] #[])] W fun e w' => ∃ x, e = .returned (slE1 x) ∧ OwnG 83 2 stE w' 0 (slE1 x) (listD (stD q) n t).1 ∧ Dt B kb raw im en q p g w0 (listD (stD q) n t).2 w') := fun W hW => (listStX (R := fun _ x y => x = y) (fun _ _ _ _ h _ => h) (stD q) (fun W t hW _ => (stX hW).mono (fun e w' h => ⟨_, h.1, rfl, h.2⟩)) hW.here (by omega)).mono (fun e w' ⟨v, xs, he, ho, ht, hd⟩ => by
  obtain ⟨a, c, hv, _⟩ := ho.form
  exact ⟨⟨a, xs.length, c⟩, by rw [he, hv]; rfl, by rw [← slE1_of hv, ← ht.eq]; exact ho.zero, hd.since hW.fr⟩)
 clear h
 go_enter Tryz.func105, Tryz.ntmps105
 go_wp2_with fail
 refine HC.out.mono ?_
 rintro e w1 ⟨rfl, h1⟩
 have HL1 := Lib.hid (HL.out _ h1)
 clear h1 HC HL
 go_wp2_with fail
 refine HL1.out.mono ?_
 rintro e w2 ⟨x, rfl, ho, h2⟩
 have HO := Lib.hid ho
 have H2 := Lib.hid h2
 clear ho h2 HL1
 go_wp2_with fail
 go_ret
 first | exact ⟨x, rfl, HO.out, H2.out⟩ | exact ⟨x, HO.out, H2.out⟩
end
end Go.Proofs.YtnifefmfhjfbnaaGreatDoor
