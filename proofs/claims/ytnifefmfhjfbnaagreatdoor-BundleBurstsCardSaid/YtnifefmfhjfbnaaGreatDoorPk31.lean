import Derived.Test.YtnifefmfhjfbnaaGreatDoorPk30
/- Bundle: a part is opened; an entry is taken (written by parts/gen_dcopn.py). Own work. -/
namespace Go.Proofs.YtnifefmfhjfbnaaGreatDoor
open Go.RowKit Bn Dc
set_option linter.unusedVariables false
set_option linter.unusedSimpArgs false
set_option maxRecDepth 100000 in
set_option maxHeartbeats 4000000 in
theorem ofO {k f l g o n cap : Nat} {c : Int} (hfl : f + l ≤ n) (hn : n ≤ cap) (hc : cap ≤ maxLen) (hz : f ≤ 1099511627776 ∧ l ≤ 1099511627776) (w : World) : Calls Tryz.prog 43 #[.agg (entA k f l c), .slice (some ⟨g, o, none⟩) n cap] w fun e w' => ∃ ad, e = .returned (.slice (some ⟨g, ad, none⟩) l (cap - f)) ∧ (ad = o + f ∨ l = 0) ∧ Below w.heap.size w w' := by
 have HB : Hid (Below w.heap.size w (w.alloc (.cells (entA k f l c) 58))) := (Below.refl _ _).alloc (Nat.le_refl _) _
 have hcm : cap ≤ 9223372036854775807 := by unfold maxLen at hc; omega
 obtain ⟨hz1, hz2⟩ := hz
 obtain ⟨W0, hW0⟩ : ∃ W0, w.alloc (.cells (entA k f l c) 58) = W0 := ⟨_, rfl⟩
 have hb : W0.heap[w.heap.size]? = some (.cells (entA k f l c) 58 (0, 0)) := hW0 ▸ heap_alloc_new w _
 have HCell : Hid (∀ W, Below W0.heap.size W0 W → W.cell? ⟨w.heap.size, 0, none⟩ = some (.int .i64 (k : Int)) ∧ W.cell? ⟨w.heap.size, 1, none⟩ = some (.int .i64 0) ∧ W.cell? ⟨w.heap.size, 2, none⟩ = some (.int .i64 (f : Int)) ∧ W.cell? ⟨w.heap.size, 3, none⟩ = some (.int .i64 (l : Int)) ∧ W.cell? ⟨w.heap.size, 4, none⟩ = some (.int .u32 c)) := fun W hW => by
  have h2 := (hW.block w.heap.size (Array.getElem?_eq_some_iff.1 hb).1).trans hb
  refine ⟨?_, ?_, ?_, ?_, ?_⟩ <;> (rw [cell_of_row _ _ _ _ _ _ h2]; rfl)
 rw [hW0] at HB
 have HE : Hid (Calls Tryz.prog 77 #[.agg (entA k f l c)] W0.drew fun e w' => e = .returned (.int .i64 ((f + l : Nat) : Int)) ∧ (w'.cell? ⟨w.heap.size, 0, none⟩ = some (.int .i64 (k : Int)) ∧ w'.cell? ⟨w.heap.size, 1, none⟩ = some (.int .i64 0) ∧ w'.cell? ⟨w.heap.size, 2, none⟩ = some (.int .i64 (f : Int)) ∧ w'.cell? ⟨w.heap.size, 3, none⟩ = some (.int .i64 (l : Int)) ∧ w'.cell? ⟨w.heap.size, 4, none⟩ = some (.int .u32 c)) ∧ Hid (Below w.heap.size w w')) := (endX (by omega) (by omega) W0.drew).mono (fun e w' h => by
  have hb0 : Below W0.heap.size W0 W0.drew := ⟨rfl, rfl, rfl, Nat.le_refl _, fun _ _ => rfl⟩
  have hb2 : Below W0.heap.size W0 w' := hb0.trans h.2
  exact ⟨h.1, HCell.out _ hb2, HB.out.trans (hb2.mono HB.out.size)⟩)
 have j1 : (f : Int) ≤ ((f + l : Nat) : Int) := by omega
 have j2 : ((f + l : Nat) : Int) ≤ (n : Int) := by omega
 have j3 : ((f + l : Nat) : Int) ≤ (cap : Int) := by omega
 have j4 : f + l ≤ cap := by omega
 have j5 : f + l - f = l := by omega
 have hS := HCell.out W0.drew ⟨rfl, rfl, rfl, Nat.le_refl _, fun _ _ => rfl⟩
 obtain ⟨m, hm⟩ : ∃ m, f + l = m := ⟨_, rfl⟩
 rw [hm] at HE j1 j2 j3 j4 j5
 have hm9 : m - f = l := j5
 by_cases hcf : cap - f = 0
 ·have hl0 : Hid (l = 0) := show _ = _ by omega
  unfold entA at *
  go_enter Tryz.func43, Tryz.ntmps43
  go_wp2_with fail
  clear hW0 hb
  go_region_held3 (fun w' => w'.cell? ⟨w.heap.size, 0, none⟩ = some (.int .i64 (k : Int)) ∧ w'.cell? ⟨w.heap.size, 1, none⟩ = some (.int .i64 0) ∧ w'.cell? ⟨w.heap.size, 2, none⟩ = some (.int .i64 (f : Int)) ∧ w'.cell? ⟨w.heap.size, 3, none⟩ = some (.int .i64 (l : Int)) ∧ w'.cell? ⟨w.heap.size, 4, none⟩ = some (.int .u32 c)) (go_keep) (first | (go_at_call 77; refine HE.out.mono ?_; rintro e w5 ⟨rfl, ⟨k0, k1, k2, k3, k4⟩, H5⟩))
  all_goals
   go_wp2_with fail
   go_ret
   exact ⟨o, by first | rfl | (rw [Nat.sub_self]; rfl) | (rw [hcf]; rfl), .inr hl0.out, H5.out⟩
 ·have hcf1 : 0 < cap - f := by omega
  unfold entA at *
  go_enter Tryz.func43, Tryz.ntmps43
  go_wp2_with fail
  clear hW0 hb
  go_region_held3 (fun w' => w'.cell? ⟨w.heap.size, 0, none⟩ = some (.int .i64 (k : Int)) ∧ w'.cell? ⟨w.heap.size, 1, none⟩ = some (.int .i64 0) ∧ w'.cell? ⟨w.heap.size, 2, none⟩ = some (.int .i64 (f : Int)) ∧ w'.cell? ⟨w.heap.size, 3, none⟩ = some (.int .i64 (l : Int)) ∧ w'.cell? ⟨w.heap.size, 4, none⟩ = some (.int .u32 c)) (go_keep) (first | (go_at_call 77; refine HE.out.mono ?_; rintro e w5 ⟨rfl, ⟨k0, k1, k2, k3, k4⟩, H5⟩))
  all_goals
   go_wp2_with fail
   go_ret
   exact ⟨o + f, by rw [← hm9]; rfl, .inl rfl, H5.out⟩
/-- an entry's cells -/
def entV (a b f l : Nat) (c : Nat) : List Value := [.int .i64 (a : Int), .int .i64 (b : Int), .int .i64 (f : Int), .int .i64 (l : Int), .int .u32 (c : Int)]
namespace Dc
structure En where
 a : Nat
 b : Nat
 f : Nat
 l : Nat
 c : Nat
def entD (q : Pt) (s : D) : En × D :=
 let a := takeD q 2 s
 let b := takeD q 2 a.2
 let c := takeD q 4 b.2
 let d := takeD q 4 c.2
 let e := takeD q 4 d.2
 (⟨a.1, b.1, c.1, d.1, e.1⟩, e.2)
end Dc
def enE (x : En) : List Value := entV x.a x.b x.f x.l x.c
section
variable {B kb : Nat} {raw : Value} {im en : List Value} {q : Pt} {p g : Nat} {w0 : World} {s : D} {w w' : World}
set_option maxRecDepth 100000 in
set_option maxHeartbeats 4000000 in
theorem readEntX (h : Dt B kb raw im en q p g w0 s w) : Calls Tryz.prog 84 #[.pointer (some ⟨p, 0, none⟩)] w fun e w' => e = .returned (.agg (enE (entD q s).1).toArray) ∧ Dt B kb raw im en q p g w0 (entD q s).2 w' := by
 obtain ⟨h1, hf1, hb1, hl1⟩ := h.boxed (.cells ([.int .i64 0, .int .i64 0, .int .i64 0, .int .i64 0, .int .u32 0] : List Value).toArray 58)
 have HF := Lib.hid hf1
 have HS : Hid (w0.heap.size ≤ w.heap.size) := h.fr.size
 have HB : Hid (∀ W t, Dt B kb raw im en q p g (w.alloc (.cells ([.int .i64 0, .int .i64 0, .int .i64 0, .int .i64 0, .int .u32 0] : List Value).toArray 58)) t W → W.heap[w.heap.size]? = some (.cells ([.int .i64 0, .int .i64 0, .int .i64 0, .int .i64 0, .int .u32 0] : List Value).toArray 58 (0, 0))) := fun W t hW => hW.box hb1 (by decide) (by decide)
 have H0 : Hid (Dt B kb raw im en q p g (w.alloc (.cells ([.int .i64 0, .int .i64 0, .int .i64 0, .int .i64 0, .int .u32 0] : List Value).toArray 58)) s (w.alloc (.cells ([.int .i64 0, .int .i64 0, .int .i64 0, .int .i64 0, .int .u32 0] : List Value).toArray 58))) := h1
 obtain ⟨v0, s1, e0⟩ : ∃ v t, takeD q 2 s = (v, t) := ⟨_, _, rfl⟩
 obtain ⟨v1, s2, e1⟩ : ∃ v t, takeD q 2 s1 = (v, t) := ⟨_, _, rfl⟩
 obtain ⟨v2, s3, e2⟩ : ∃ v t, takeD q 4 s2 = (v, t) := ⟨_, _, rfl⟩
 obtain ⟨v3, s4, e3⟩ : ∃ v t, takeD q 4 s3 = (v, t) := ⟨_, _, rfl⟩
 obtain ⟨v4, s5, e4⟩ : ∃ v t, takeD q 4 s4 = (v, t) := ⟨_, _, rfl⟩
 have K0 : Hid (∀ W w9, Hid (Dt B kb raw im en q p g w9 s W) → Calls Tryz.prog 81 #[.pointer (some ⟨p, 0, none⟩)] W fun e w' => e = .returned (.int .u16 (v0 : Nat)) ∧ Dt B kb raw im en q p g w9 s1 w') := fun W w9 hW => by have h9 := tHalfX hW.out; rw [e0] at h9; exact h9
 have K1 : Hid (∀ W w9, Hid (Dt B kb raw im en q p g w9 s1 W) → Calls Tryz.prog 81 #[.pointer (some ⟨p, 0, none⟩)] W fun e w' => e = .returned (.int .u16 (v1 : Nat)) ∧ Dt B kb raw im en q p g w9 s2 w') := fun W w9 hW => by have h9 := tHalfX hW.out; rw [e1] at h9; exact h9
 have K2 : Hid (∀ W w9, Hid (Dt B kb raw im en q p g w9 s2 W) → Calls Tryz.prog 82 #[.pointer (some ⟨p, 0, none⟩)] W fun e w' => e = .returned (.int .u32 (v2 : Nat)) ∧ Dt B kb raw im en q p g w9 s3 w') := fun W w9 hW => by have h9 := tWordX hW.out; rw [e2] at h9; exact h9
 have K3 : Hid (∀ W w9, Hid (Dt B kb raw im en q p g w9 s3 W) → Calls Tryz.prog 82 #[.pointer (some ⟨p, 0, none⟩)] W fun e w' => e = .returned (.int .u32 (v3 : Nat)) ∧ Dt B kb raw im en q p g w9 s4 w') := fun W w9 hW => by have h9 := tWordX hW.out; rw [e3] at h9; exact h9
 have K4 : Hid (∀ W w9, Hid (Dt B kb raw im en q p g w9 s4 W) → Calls Tryz.prog 82 #[.pointer (some ⟨p, 0, none⟩)] W fun e w' => e = .returned (.int .u32 (v4 : Nat)) ∧ Dt B kb raw im en q p g w9 s5 w') := fun W w9 hW => by have h9 := tWordX hW.out; rw [e4] at h9; exact h9
 have HE : entD q s = ((⟨v0, v1, v2, v3, v4⟩ : En), s5) := by simp only [entD, e0, e1, e2, e3, e4]
 have b0 : v0 < 65536 := by have h9 := take_lt h.small 2 s; rw [e0] at h9; exact h9
 have b1 : v1 < 65536 := by have h9 := take_lt h.small 2 s1; rw [e1] at h9; exact h9
 have b2 : v2 < 4294967296 := by have h9 := take_lt h.small 4 s2; rw [e2] at h9; exact h9
 have b3 : v3 < 4294967296 := by have h9 := take_lt h.small 4 s3; rw [e3] at h9; exact h9
 have b4 : v4 < 4294967296 := by have h9 := take_lt h.small 4 s4; rw [e4] at h9; exact h9
 clear h h1 hf1 hb1 hl1
 have hw0 : IntKind.i64.wrap (v0 : Int) = (v0 : Int) := by rw [IntKind.wrap_i64]; omega
 have hw1 : IntKind.i64.wrap (v1 : Int) = (v1 : Int) := by rw [IntKind.wrap_i64]; omega
 have hw2 : IntKind.i64.wrap (v2 : Int) = (v2 : Int) := by rw [IntKind.wrap_i64]; omega
 have hw3 : IntKind.i64.wrap (v3 : Int) = (v3 : Int) := by rw [IntKind.wrap_i64]; omega
 rw [HE]
 clear HE e0 e1 e2 e3 e4
 dsimp only
 go_enter Tryz.func84, Tryz.ntmps84
 go_wp2_with fail
 refine (K0.out _ _ H0).mono ?_
 rintro e w1 ⟨rfl, h9⟩
 have H1 : Hid (Dt B kb raw im en q p g (w.alloc (.cells ([.int .i64 0, .int .i64 0, .int .i64 0, .int .i64 0, .int .u32 0] : List Value).toArray 58)) s1 w1) := h9
 clear h9 H0 K0
 go_wp2_with fail
 refine (K1.out _ _ H1).mono ?_
 rintro e w2 ⟨rfl, h9⟩
 have H2 : Hid (Dt B kb raw im en q p g (w.alloc (.cells ([.int .i64 0, .int .i64 0, .int .i64 0, .int .i64 0, .int .u32 0] : List Value).toArray 58)) s2 w2) := h9
 clear h9 H1 K1
 go_wp2_with fail
 refine (K2.out _ _ H2).mono ?_
 rintro e w3 ⟨rfl, h9⟩
 have H3 : Hid (Dt B kb raw im en q p g (w.alloc (.cells ([.int .i64 0, .int .i64 0, .int .i64 0, .int .i64 0, .int .u32 0] : List Value).toArray 58)) s3 w3) := h9
 clear h9 H2 K2
 go_wp2_with fail
 refine (K3.out _ _ H3).mono ?_
 rintro e w4 ⟨rfl, h9⟩
 have H4 : Hid (Dt B kb raw im en q p g (w.alloc (.cells ([.int .i64 0, .int .i64 0, .int .i64 0, .int .i64 0, .int .u32 0] : List Value).toArray 58)) s4 w4) := h9
 clear h9 H3 K3
 go_wp2_with fail
 refine (K4.out _ _ H4).mono ?_
 rintro e w5 ⟨rfl, h9⟩
 have H5 : Hid (Dt B kb raw im en q p g (w.alloc (.cells ([.int .i64 0, .int .i64 0, .int .i64 0, .int .i64 0, .int .u32 0] : List Value).toArray 58)) s5 w5) := h9
 clear h9 H4 K4
 have hbx := HB.out _ _ H5.out
 have d0 := box_cell hbx 0
 have f0 := box_free hbx 0
 have d1 := box_cell hbx 1
 have f1 := box_free hbx 1
 have d2 := box_cell hbx 2
 have f2 := box_free hbx 2
 have d3 := box_cell hbx 3
 have f3 := box_free hbx 3
 have d4 := box_cell hbx 4
 have f4 := box_free hbx 4
 simp only [List.getElem?_cons_zero, List.getElem?_cons_succ] at d0 d1 d2 d3 d4
 have HD : Hid (Db 58 w.heap.size B kb raw im en q p g w0 s5 w5) := ⟨H5.out.since HF.out, ⟨_, hbx⟩, HS.out, by decide, by decide, by decide⟩
 have HZ := Lib.hid hbx
 clear hbx H5 HB HF HS
 go_wp2_with fail
 generalize hW : World.setCell _ _ _ = W
 have hz : W.heap[w.heap.size]? = some (.cells (enE (⟨v0, v1, v2, v3, v4⟩ : En)).toArray 58 (0, 0)) := by rw [← hW]; exact (box_set (box_set (box_set (box_set (box_set HZ.out _ _) _ _) _ _) _ _) _ _)
 have HW : Hid (Dt B kb raw im en q p g w0 s5 W) := by
  refine Db.dt (t := 58) (n := w.heap.size) ?_
  rw [← hW]
  exact (Db.set (Db.set (Db.set (Db.set (Db.set HD.out _ _) _ _) _ _) _ _) _ _)
 clear hW HD HZ d0 f0 d1 f1 d2 f2 d3 f3 d4 f4
 simp only [enE, entV] at hz
 have g0 := box_cell hz 0
 have g1 := box_cell hz 1
 have g2 := box_cell hz 2
 have g3 := box_cell hz 3
 have g4 := box_cell hz 4
 simp only [List.getElem?_cons_zero, List.getElem?_cons_succ] at g0 g1 g2 g3 g4
 clear hz
 refine bodyPost_ret (v := .agg (enE (⟨v0, v1, v2, v3, v4⟩ : En)).toArray) (by simp [results, Tryz.results84, go_sem, enE, entV, g0, g1, g2, g3, g4]) rfl ?_
 exact ⟨rfl, HW.out⟩
set_option maxHeartbeats 400000 in
theorem end_bad {zs : List Nat} {pos : Nat} {why : Int} (h : Rd w p g zs pos why) (hy : why ≠ 0) : Calls Tryz.prog 57 #[.pointer (some ⟨p, 0, none⟩)] w fun e w' => e = .returned (.int .i64 why) ∧ w' = w := by
 have c2 := h.cell2
 clear h
 go_enter Tryz.func57, Tryz.ntmps57
 go_wp2_with fail
 go_ret
 exact ⟨rfl, rfl⟩
theorem rendX (h : Dt B kb raw im en q p g w0 s w) : Calls Tryz.prog 57 #[.pointer (some ⟨p, 0, none⟩)] w fun e w' => ∃ r : Int, e = .returned (.int .i64 r) ∧ (r = 0 ↔ s.rw = 0 ∧ s.pos = q.Z.length) ∧ Dt B kb raw im en q p g w0 s w' := by
 by_cases h0 : s.rw = 0
 ·have hr := h.rd
  rw [h0] at hr
  by_cases hl : s.pos = q.Z.length
  ·exact (end_none hr hl).mono (fun e w' h9 => ⟨0, h9.1, ⟨fun _ => ⟨h0, hl⟩, fun _ => rfl⟩, h.below h9.2.2⟩)
  ·exact (end_some hr (by have := hr.2.2.2.1; omega)).mono (fun e w' h9 => ⟨12, h9.1, ⟨fun e => by omega, fun e => absurd e.2 hl⟩, h.below h9.2.2⟩)
 ·exact (end_bad h.rd h0).mono (fun e w' h9 => ⟨s.rw, h9.1, ⟨fun e => absurd e h0, fun e => absurd e.1 h0⟩, by rw [h9.2]; exact h⟩)
end
end Go.Proofs.YtnifefmfhjfbnaaGreatDoor
/- Bundle: a part's bytes, wherever they lie. Own work. -/
namespace Go.Proofs.YtnifefmfhjfbnaaGreatDoor
open Go.RowKit Bn Dc
set_option linter.unusedVariables false
set_option linter.unusedSimpArgs false
set_option maxRecDepth 100000 in
set_option maxHeartbeats 4000000 in
theorem ofN {k cap : Nat} {c : Int} (a : Option Addr) (ha : a = none → cap = 0) (hc : cap ≤ maxLen) (w : World) : Calls Tryz.prog 43 #[.agg (entA k 0 0 c), .slice a 0 cap] w fun e w' => ∃ ao cp, e = .returned (.slice ao 0 cp) ∧ (ao = none → cp = 0) ∧ cp ≤ maxLen ∧ Below w.heap.size w w' := by
 have HB : Hid (Below w.heap.size w (w.alloc (.cells (entA k 0 0 c) 58))) := (Below.refl _ _).alloc (Nat.le_refl _) _
 have HCm := Lib.hid hc
 have hcm : cap ≤ 9223372036854775807 := by unfold maxLen at hc; omega
 clear hc
 obtain ⟨W0, hW0⟩ : ∃ W0, w.alloc (.cells (entA k 0 0 c) 58) = W0 := ⟨_, rfl⟩
 have hb : W0.heap[w.heap.size]? = some (.cells (entA k 0 0 c) 58 (0, 0)) := hW0 ▸ heap_alloc_new w _
 have HCell : Hid (∀ W, Below W0.heap.size W0 W → W.cell? ⟨w.heap.size, 0, none⟩ = some (.int .i64 (k : Int)) ∧ W.cell? ⟨w.heap.size, 1, none⟩ = some (.int .i64 0) ∧ W.cell? ⟨w.heap.size, 2, none⟩ = some (.int .i64 0) ∧ W.cell? ⟨w.heap.size, 3, none⟩ = some (.int .i64 0) ∧ W.cell? ⟨w.heap.size, 4, none⟩ = some (.int .u32 c)) := fun W hW => by
  have h2 := (hW.block w.heap.size (Array.getElem?_eq_some_iff.1 hb).1).trans hb
  refine ⟨?_, ?_, ?_, ?_, ?_⟩ <;> (rw [cell_of_row _ _ _ _ _ _ h2]; rfl)
 rw [hW0] at HB
 have HE : Hid (Calls Tryz.prog 77 #[.agg (entA k 0 0 c)] W0.drew fun e w' => e = .returned (.int .i64 0) ∧ (w'.cell? ⟨w.heap.size, 0, none⟩ = some (.int .i64 (k : Int)) ∧ w'.cell? ⟨w.heap.size, 1, none⟩ = some (.int .i64 0) ∧ w'.cell? ⟨w.heap.size, 2, none⟩ = some (.int .i64 0) ∧ w'.cell? ⟨w.heap.size, 3, none⟩ = some (.int .i64 0) ∧ w'.cell? ⟨w.heap.size, 4, none⟩ = some (.int .u32 c)) ∧ Hid (Below w.heap.size w w')) := (endX (f := 0) (l := 0) (by omega) (by omega) W0.drew).mono (fun e w' h => by
  have hb0 : Below W0.heap.size W0 W0.drew := ⟨rfl, rfl, rfl, Nat.le_refl _, fun _ _ => rfl⟩
  have hb2 : Below W0.heap.size W0 w' := hb0.trans h.2
  exact ⟨h.1, HCell.out _ hb2, HB.out.trans (hb2.mono HB.out.size)⟩)
 have hS := HCell.out W0.drew ⟨rfl, rfl, rfl, Nat.le_refl _, fun _ _ => rfl⟩
 have hn0 : (0 : Int) ≤ (cap : Int) := by omega
 unfold entA at *
 simp only [show ((0 : Nat) : Int) = 0 from rfl] at HE HB hW0 hb ⊢
 cases a with
 | none =>
  obtain rfl : cap = 0 := ha rfl
  go_enter Tryz.func43, Tryz.ntmps43
  go_wp2_with fail
  clear hW0 hb
  go_region_held3 (fun w' => w'.cell? ⟨w.heap.size, 0, none⟩ = some (.int .i64 (k : Int)) ∧ w'.cell? ⟨w.heap.size, 1, none⟩ = some (.int .i64 0) ∧ w'.cell? ⟨w.heap.size, 2, none⟩ = some (.int .i64 0) ∧ w'.cell? ⟨w.heap.size, 3, none⟩ = some (.int .i64 0) ∧ w'.cell? ⟨w.heap.size, 4, none⟩ = some (.int .u32 c)) (go_keep) (first | (go_at_call 77; refine HE.out.mono ?_; rintro e w5 ⟨rfl, ⟨k0, k1, k2, k3, k4⟩, H5⟩))
  all_goals
   go_wp2_with fail
   go_ret
   exact ⟨none, 0, rfl, fun _ => rfl, Nat.zero_le _, H5.out⟩
 | some a =>
  by_cases hcf : cap = 0
  ·subst hcf
   go_enter Tryz.func43, Tryz.ntmps43
   go_wp2_with fail
   clear hW0 hb
   go_region_held3 (fun w' => w'.cell? ⟨w.heap.size, 0, none⟩ = some (.int .i64 (k : Int)) ∧ w'.cell? ⟨w.heap.size, 1, none⟩ = some (.int .i64 0) ∧ w'.cell? ⟨w.heap.size, 2, none⟩ = some (.int .i64 0) ∧ w'.cell? ⟨w.heap.size, 3, none⟩ = some (.int .i64 0) ∧ w'.cell? ⟨w.heap.size, 4, none⟩ = some (.int .u32 c)) (go_keep) (first | (go_at_call 77; refine HE.out.mono ?_; rintro e w5 ⟨rfl, ⟨k0, k1, k2, k3, k4⟩, H5⟩))
   all_goals
    go_wp2_with fail
    go_ret
    exact ⟨_, _, rfl, fun _ => (by first | rfl | assumption), Nat.zero_le _, H5.out⟩
  ·have hcf1 : ¬ (cap : Int) = 0 := by omega
   have hcf2 : 0 < cap := by omega
   go_enter Tryz.func43, Tryz.ntmps43
   go_wp2_with fail
   clear hW0 hb
   go_region_held3 (fun w' => w'.cell? ⟨w.heap.size, 0, none⟩ = some (.int .i64 (k : Int)) ∧ w'.cell? ⟨w.heap.size, 1, none⟩ = some (.int .i64 0) ∧ w'.cell? ⟨w.heap.size, 2, none⟩ = some (.int .i64 0) ∧ w'.cell? ⟨w.heap.size, 3, none⟩ = some (.int .i64 0) ∧ w'.cell? ⟨w.heap.size, 4, none⟩ = some (.int .u32 c)) (go_keep) (first | (go_at_call 77; refine HE.out.mono ?_; rintro e w5 ⟨rfl, ⟨k0, k1, k2, k3, k4⟩, H5⟩))
   all_goals
    go_wp2_with fail
    go_ret
    exact ⟨_, _, rfl, fun e => (by cases e), (by have := HCm.out; first | exact this | omega), H5.out⟩
theorem ofS {k f l : Nat} {c : Int} {w : World} {v : Value} {bs : List Nat} (hs : Sl w v bs) (hfl : f + l ≤ bs.length) (hz : f ≤ 1099511627776 ∧ l ≤ 1099511627776) : Calls Tryz.prog 43 #[.agg (entA k f l c), v] w fun e w' => ∃ v', e = .returned v' ∧ Sl w' v' ((bs.drop f).take l) ∧ Below w.heap.size w w' := by
 have hsm : ∀ z ∈ (bs.drop f).take l, z < 256 := fun z h => hs.small z (List.mem_of_mem_drop (List.mem_of_mem_take h))
 have hll : ((bs.drop f).take l).length = l := by rw [List.length_take, List.length_drop]; omega
 by_cases h0 : bs.length = 0
 ·obtain ⟨ao, cap, rfl, h1, h2, h3, h4, h5⟩ := hs
  obtain rfl : f = 0 := by omega
  obtain rfl : l = 0 := by omega
  rw [h0]
  refine (ofN (k := k) (c := c) ao h4 h2 w).mono ?_
  rintro e w' ⟨ao', cp, rfl, ha, hc, hb⟩
  exact ⟨_, rfl, ⟨ao', cp, by rw [hll], by rw [hll]; exact Nat.zero_le _, hc, hsm, ha, fun i hi => by rw [hll] at hi; exact absurd hi (Nat.not_lt_zero _)⟩, hb⟩
 ·obtain ⟨b, o, cap, rfl, h1, h2, h3, h5⟩ := hs.pos (by omega)
  refine (ofO (k := k) (c := c) (g := b) (o := o) hfl h1 h2 hz w).mono ?_
  rintro e w' ⟨ad, rfl, had, hb⟩
  refine ⟨_, rfl, ⟨_, cap - f, by rw [hll], by rw [hll]; omega, by omega, hsm, fun e => (by cases e), fun i hi => ?_⟩, hb⟩
  rw [hll] at hi
  refine ⟨b, ad, rfl, ?_⟩
  have h9 := h5 (f + i) (by omega)
  have hlt := World.block_lt_of_cell? w _ h9
  obtain rfl : ad = o + f := by rcases had with h | h; exact h; omega
  rw [show o + f + i = o + (f + i) by omega]
  have e1 : ((bs.drop f).take l).getD i 0 = bs.getD (f + i) 0 := by
   rw [List.getD_eq_getElem?_getD, List.getD_eq_getElem?_getD, List.getElem?_take, if_pos hi, List.getElem?_drop]
  rw [e1]
  exact (World.cell?_of_block (a := ⟨b, o + (f + i), none⟩) (hb.block b hlt)).trans h9
end Go.Proofs.YtnifefmfhjfbnaaGreatDoor
