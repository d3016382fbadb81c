import Derived.Test.YtmfkggngjeolcaaGreatDoorPk20
import Derived.Test.YtmfkggngjeolcaaGreatDoorPk15
import Derived.Laws.StructEq
set_option linter.unusedSimpArgs false
set_option linter.unusedVariables false
set_option maxHeartbeats 4000000
set_option maxRecDepth 100000
namespace Go.Proofs.YtmfkggngjeolcaaGreatDoor
open Go.RowKit Bn Dc
theorem ofN {k cap : Nat} {c : Int} (a : Option Addr) (ha : a = none → cap = 0) (hc : cap ≤ maxLen) (w : World) : Calls Tryz.prog 64 #[.agg (entA k 0 0 c), .slice a 0 cap] w fun e w' => ∃ ao cp, e = .returned (.slice ao 0 cp) ∧ (ao = none → cp = 0) ∧ cp ≤ maxLen ∧ Below w.heap.size w w' := by
 have HB : Hid (Below w.heap.size w (w.alloc (.cells (entA k 0 0 c) 88))) := (Below.refl _ _).alloc (Nat.le_refl _) _;have HCm := Lib.hid hc;have hcm : cap ≤ 9223372036854775807 := by unfold maxLen at hc; omega
 clear hc;obtain ⟨W0, hW0⟩ : ∃ W0, w.alloc (.cells (entA k 0 0 c) 88) = W0 := ⟨_, rfl⟩
 have hb : W0.heap[w.heap.size]? = some (.cells (entA k 0 0 c) 88 (0, 0)) := hW0 ▸ heap_alloc_new w _;have HCell : Hid (∀ W, Below W0.heap.size W0 W → W.cell? ⟨w.heap.size, 0, none⟩ = some (.int .i64 (k : Int)) ∧ W.cell? ⟨w.heap.size, 1, none⟩ = some (.int .i64 0) ∧ W.cell? ⟨w.heap.size, 2, none⟩ = some (.int .i64 0) ∧ W.cell? ⟨w.heap.size, 3, none⟩ = some (.int .i64 0) ∧ W.cell? ⟨w.heap.size, 4, none⟩ = some (.int .u32 c)) := fun W hW => by
  have h2 := (hW.block w.heap.size (Array.getElem?_eq_some_iff.1 hb).1).trans hb;refine ⟨?_, ?_, ?_, ?_, ?_⟩ <;> (rw [cell_of_row _ _ _ _ _ _ h2]; rfl)
 rw [hW0] at HB;have HE : Hid (Calls Tryz.prog 104 #[.agg (entA k 0 0 c)] W0.drew fun e w' => e = .returned (.int .i64 0) ∧ (w'.cell? ⟨w.heap.size, 0, none⟩ = some (.int .i64 (k : Int)) ∧ w'.cell? ⟨w.heap.size, 1, none⟩ = some (.int .i64 0) ∧ w'.cell? ⟨w.heap.size, 2, none⟩ = some (.int .i64 0) ∧ w'.cell? ⟨w.heap.size, 3, none⟩ = some (.int .i64 0) ∧ w'.cell? ⟨w.heap.size, 4, none⟩ = some (.int .u32 c)) ∧ Hid (Below w.heap.size w w')) := (endX (f := 0) (l := 0) (by omega) (by omega) W0.drew).mono (fun e w' h => by
  have hb0 : Below W0.heap.size W0 W0.drew := ⟨rfl, rfl, rfl, Nat.le_refl _, fun _ _ => rfl⟩
  have hb2 : Below W0.heap.size W0 w' := hb0.trans h.2;exact ⟨h.1, HCell.out _ hb2, HB.out.trans (hb2.mono HB.out.size)⟩)
 have hS := HCell.out W0.drew ⟨rfl, rfl, rfl, Nat.le_refl _, fun _ _ => rfl⟩;have hn0 : (0 : Int) ≤ (cap : Int) := by omega
 unfold entA at *;simp only [show ((0 : Nat) : Int) = 0 from rfl] at HE HB hW0 hb ⊢
 cases a with
 | none =>
  obtain rfl : cap = 0 := ha rfl;go_enter Tryz.func64, Tryz.ntmps64
  go_wp2_with fail
  clear hW0 hb;go_region_held3 (fun w' => w'.cell? ⟨w.heap.size, 0, none⟩ = some (.int .i64 (k : Int)) ∧ w'.cell? ⟨w.heap.size, 1, none⟩ = some (.int .i64 0) ∧ w'.cell? ⟨w.heap.size, 2, none⟩ = some (.int .i64 0) ∧ w'.cell? ⟨w.heap.size, 3, none⟩ = some (.int .i64 0) ∧ w'.cell? ⟨w.heap.size, 4, none⟩ = some (.int .u32 c)) (go_keep) (first | (go_at_call 104; refine HE.out.mono ?_; rintro e w5 ⟨rfl, ⟨k0, k1, k2, k3, k4⟩, H5⟩))
  all_goals
   go_wp2_with fail
   go_ret
   exact ⟨none, 0, rfl, fun _ => rfl, Nat.zero_le _, H5.out⟩
 | some a =>
  by_cases hcf : cap = 0
  ·subst hcf;go_enter Tryz.func64, Tryz.ntmps64
   go_wp2_with fail
   clear hW0 hb;go_region_held3 (fun w' => w'.cell? ⟨w.heap.size, 0, none⟩ = some (.int .i64 (k : Int)) ∧ w'.cell? ⟨w.heap.size, 1, none⟩ = some (.int .i64 0) ∧ w'.cell? ⟨w.heap.size, 2, none⟩ = some (.int .i64 0) ∧ w'.cell? ⟨w.heap.size, 3, none⟩ = some (.int .i64 0) ∧ w'.cell? ⟨w.heap.size, 4, none⟩ = some (.int .u32 c)) (go_keep) (first | (go_at_call 104; refine HE.out.mono ?_; rintro e w5 ⟨rfl, ⟨k0, k1, k2, k3, k4⟩, H5⟩))
   all_goals
    go_wp2_with fail
    go_ret
    exact ⟨_, _, rfl, fun _ => (by first | rfl | assumption), Nat.zero_le _, H5.out⟩
  ·have hcf1 : ¬ (cap : Int) = 0 := by omega
   have hcf2 : 0 < cap := by omega
   go_enter Tryz.func64, Tryz.ntmps64
   go_wp2_with fail
   clear hW0 hb;go_region_held3 (fun w' => w'.cell? ⟨w.heap.size, 0, none⟩ = some (.int .i64 (k : Int)) ∧ w'.cell? ⟨w.heap.size, 1, none⟩ = some (.int .i64 0) ∧ w'.cell? ⟨w.heap.size, 2, none⟩ = some (.int .i64 0) ∧ w'.cell? ⟨w.heap.size, 3, none⟩ = some (.int .i64 0) ∧ w'.cell? ⟨w.heap.size, 4, none⟩ = some (.int .u32 c)) (go_keep) (first | (go_at_call 104; refine HE.out.mono ?_; rintro e w5 ⟨rfl, ⟨k0, k1, k2, k3, k4⟩, H5⟩))
   all_goals
    go_wp2_with fail
    go_ret
    exact ⟨_, _, rfl, fun e => (by cases e), (by have := HCm.out; first | exact this | omega), H5.out⟩
theorem ofS {k f l : Nat} {c : Int} {w : World} {v : Value} {bs : List Nat} (hs : Sl w v bs) (hfl : f + l ≤ bs.length) (hz : f ≤ 1099511627776 ∧ l ≤ 1099511627776) : Calls Tryz.prog 64 #[.agg (entA k f l c), v] w fun e w' => ∃ v', e = .returned v' ∧ Sl w' v' ((bs.drop f).take l) ∧ Below w.heap.size w w' := by
 have hsm : ∀ z ∈ (bs.drop f).take l, z < 256 := fun z h => hs.small z (List.mem_of_mem_drop (List.mem_of_mem_take h));have hll : ((bs.drop f).take l).length = l := by rw [List.length_take, List.length_drop]; omega
 by_cases h0 : bs.length = 0
 ·obtain ⟨ao, cap, rfl, h1, h2, h3, h4, h5⟩ := hs;obtain rfl : f = 0 := by omega
  obtain rfl : l = 0 := by omega
  rw [h0];refine (ofN (k := k) (c := c) ao h4 h2 w).mono ?_;rintro e w' ⟨ao', cp, rfl, ha, hc, hb⟩;exact ⟨_, rfl, ⟨ao', cp, by rw [hll], by rw [hll]; exact Nat.zero_le _, hc, hsm, ha, fun i hi => by rw [hll] at hi; exact absurd hi (Nat.not_lt_zero _)⟩, hb⟩
 ·obtain ⟨b, o, cap, rfl, h1, h2, h3, h5⟩ := hs.pos (by omega);refine (ofO (k := k) (c := c) (g := b) (o := o) hfl h1 h2 hz w).mono ?_;rintro e w' ⟨ad, rfl, had, hb⟩;refine ⟨_, rfl, ⟨_, cap - f, by rw [hll], by rw [hll]; omega, by omega, hsm, fun e => (by cases e), fun i hi => ?_⟩, hb⟩;rw [hll] at hi;refine ⟨b, ad, rfl, ?_⟩;have h9 := h5 (f + i) (by omega);have hlt := World.block_lt_of_cell? w _ h9;obtain rfl : ad = o + f := by rcases had with h | h; exact h; omega
  rw [show o + f + i = o + (f + i) by omega];have e1 : ((bs.drop f).take l).getD i 0 = bs.getD (f + i) 0 := by
   rw [List.getD_eq_getElem?_getD, List.getD_eq_getElem?_getD, List.getElem?_take, if_pos hi, List.getElem?_drop]
  rw [e1];exact (World.cell?_of_block (a := ⟨b, o + (f + i), none⟩) (hb.block b hlt)).trans h9
end Go.Proofs.YtmfkggngjeolcaaGreatDoor
namespace Go.Proofs.YtmfkggngjeolcaaGreatDoor
open Go.RowKit Bn Dc
def rdN (raw : Value) (im en : List Value) (pt : Int) (pv : Value) (sec ad why : Int) : List Value := raw :: (im ++ (en ++ [.int .i64 pt, pv, .int .i64 sec, .int .i64 ad, .int .i64 why]))
structure Dn (B kb : Nat) (raw : Value) (im en : List Value) (pt : Int) (pv : Value) (w0 : World) (why sec ad : Int) (w : World) : Prop where
 blk : w.heap[kb]? = some (.cells (rdN raw im en pt pv sec ad why).toArray 144 (0, 0))
 him : im.length = 12
 hen : en.length = 45
 hB : B ≤ kb
 fr : Fd B w0 w
def EnAt (en : List Value) (k f l : Nat) (c : Int) : Prop := en[5 * k]? = some (.int .i64 (k : Int)) ∧ en[5 * k + 1]? = some (.int .i64 0) ∧ en[5 * k + 2]? = some (.int .i64 (f : Int)) ∧ en[5 * k + 3]? = some (.int .i64 (l : Int)) ∧ en[5 * k + 4]? = some (.int .u32 c)
section
variable {B kb : Nat} {raw : Value} {im en : List Value} {pt : Int} {pv : Value} {w0 : World} {why sec ad : Int} {w w' : World}
theorem Dt.dn {q : Pt} {p g : Nat} {s : D} (h : Dt B kb raw im en q p g w0 s w) : Dn B kb raw im en (q.pt : Int) (.pointer (some ⟨p, 0, none⟩)) w0 s.why s.sec s.ad w := ⟨h.blk, h.him, h.hen, h.hB.1, h.fr⟩
theorem Dn.lt (h : Dn B kb raw im en pt pv w0 why sec ad w) : kb < w.heap.size := (Array.getElem?_eq_some_iff.1 h.blk).1
theorem Dn.cell (h : Dn B kb raw im en pt pv w0 why sec ad w) (i : Nat) : w.cell? ⟨kb, i, none⟩ = (rdN raw im en pt pv sec ad why)[i]? := by
 rw [cell_of_row _ _ i _ _ _ h.blk, List.getElem?_toArray]
theorem Dn.free (h : Dn B kb raw im en pt pv w0 why sec ad w) (i : Nat) : w.frozen? ⟨kb, i, none⟩ = false := by simp [World.frozen?, h.blk]
theorem Dn.ce (h : Dn B kb raw im en pt pv w0 why sec ad w) {i : Nat} (hi : i < 45) : w.cell? ⟨kb, 13 + i, none⟩ = en[i]? := by
 rw [h.cell, rdN, show 13 + i = (12 + i) + 1 by omega, List.getElem?_cons_succ, List.getElem?_append_right (by rw [h.him]; omega), h.him, show 12 + i - 12 = i by omega, List.getElem?_append_left (by rw [h.hen]; exact hi)]
theorem Dn.cend (h : Dn B kb raw im en pt pv w0 why sec ad w) (i : Nat) : w.cell? ⟨kb, 58 + i, none⟩ = [Value.int .i64 pt, pv, .int .i64 sec, .int .i64 ad, .int .i64 why][i]? := by
 rw [h.cell, rdN, show 58 + i = (57 + i) + 1 by omega, List.getElem?_cons_succ, List.getElem?_append_right (by rw [h.him]; omega), h.him, List.getElem?_append_right (by rw [h.hen]; omega), h.hen, show 57 + i - 12 - 45 = i by omega]
theorem Dn.set (h : Dn B kb raw im en pt pv w0 why sec ad w) {i : Nat} {u : Value} {im' en' : List Value} {pt' : Int} {pv' : Value} {why' sec' ad' : Int} (he : (rdN raw im en pt pv sec ad why).set i u = rdN raw im' en' pt' pv' sec' ad' why') (h1 : im'.length = 12) (h2 : en'.length = 45) : Dn B kb raw im' en' pt' pv' w0 why' sec' ad' (w.setCell ⟨kb, i, none⟩ u) := by
 refine ⟨?_, h1, h2, h.hB, h.fr.trans (Keeps.mono (Keeps.setCell w kb i u) (fun k _ e => by subst e; exact ⟨h.hB, .inl ⟨_, h.blk⟩⟩))⟩;rw [← he];simp [World.setCell, Array.getElem?_modify, h.blk]
theorem rdN_end (h1 : im.length = 12) (h2 : en.length = 45) (i : Nat) (u : Value) : (rdN raw im en pt pv sec ad why).set (58 + i) u = raw :: (im ++ (en ++ [Value.int .i64 pt, pv, .int .i64 sec, .int .i64 ad, .int .i64 why].set i u)) := by
 unfold rdN;rw [show 58 + i = (57 + i) + 1 by omega, List.set_cons_succ, List.set_append_right _ _ (by omega), h1, List.set_append_right _ _ (by omega), h2, show 57 + i - 12 - 45 = i by omega]
theorem Dn.below (h : Dn B kb raw im en pt pv w0 why sec ad w) (hb : Below w.heap.size w w') : Dn B kb raw im en pt pv w0 why sec ad w' := ⟨(hb.block kb h.lt).trans h.blk, h.him, h.hen, h.hB, h.fr.trans (Fd.of_below hb)⟩
theorem Dn.drew (h : Dn B kb raw im en pt pv w0 why sec ad w) : Dn B kb raw im en pt pv w0 why sec ad w.drew := h.below ⟨rfl, rfl, rfl, Nat.le_refl _, fun _ _ => rfl⟩
theorem Dn.c5 (h : Dn B kb raw im en pt pv w0 why sec ad w) {k f l : Nat} {c : Int} (he : EnAt en k f l c) (hk : k ≤ 8) : w.cell? ⟨kb, 13 + k * 5, none⟩ = some (.int .i64 (k : Int)) ∧ w.cell? ⟨kb, 13 + k * 5 + 1, none⟩ = some (.int .i64 0) ∧ w.cell? ⟨kb, 13 + k * 5 + 2, none⟩ = some (.int .i64 (f : Int)) ∧ w.cell? ⟨kb, 13 + k * 5 + 3, none⟩ = some (.int .i64 (l : Int)) ∧ w.cell? ⟨kb, 13 + k * 5 + 4, none⟩ = some (.int .u32 c) := by
 obtain ⟨e0, e1, e2, e3, e4⟩ := he;refine ⟨?_, ?_, ?_, ?_, ?_⟩
 ·rw [show 13 + k * 5 = 13 + (5 * k) by omega]; exact (h.ce (by omega)).trans e0
 ·rw [show 13 + k * 5 + 1 = 13 + (5 * k + 1) by omega]; exact (h.ce (by omega)).trans e1
 ·rw [show 13 + k * 5 + 2 = 13 + (5 * k + 2) by omega]; exact (h.ce (by omega)).trans e2
 ·rw [show 13 + k * 5 + 3 = 13 + (5 * k + 3) by omega]; exact (h.ce (by omega)).trans e3
 ·rw [show 13 + k * 5 + 4 = 13 + (5 * k + 4) by omega]; exact (h.ce (by omega)).trans e4
theorem openX {bs : List Nat} {k f l : Nat} {c : Int} (h : Dn B kb raw im en pt pv w0 why sec ad w) (hraw : ∀ W, Fd B w0 W → Sl W raw bs) (hk : k ≤ 8) (he : EnAt en k f l c) (hfl : f + l ≤ bs.length) (hz : f + l ≤ 1099511627776) :
  Calls Tryz.prog 122 #[.pointer (some ⟨kb, 0, none⟩), .int .i64 (k : Int)] w fun e w' => e = .returned (.tuple #[]) ∧ ∃ p g, Dt B kb raw im en ⟨k, f, (bs.drop f).take l⟩ p g w0 ⟨0, 0, why, sec, ad⟩ w' ∧ w.heap.size ≤ g := by
 have c58 := h.cend 0;have f58 := h.free 58;have h1 := h.set (i := 58) (u := .int .i64 (k : Int)) (rdN_end (i := 0) h.him h.hen _) h.him h.hen;simp only [show 58 + 0 = 58 from rfl, List.getElem?_cons_zero] at c58;obtain ⟨W1, hW1⟩ : ∃ W, w.setCell ⟨kb, 58, none⟩ (.int .i64 (k : Int)) = W := ⟨_, rfl⟩
 have hs1 : w.heap.size ≤ W1.heap.size := by rw [← hW1]; simp [World.setCell]
 rw [hW1] at h1;have h2 : Dn B kb raw im en (k : Int) pv w0 why sec ad W1.drew := Dn.drew h1;have HL : Hid (∀ W, Dn B kb raw im en (k : Int) pv w0 why sec ad W → W.cell? ⟨kb, 0, none⟩ = some raw ∧ (W.cell? ⟨kb, 13 + k * 5, none⟩ = some (.int .i64 (k : Int)) ∧ W.cell? ⟨kb, 13 + k * 5 + 1, none⟩ = some (.int .i64 0) ∧ W.cell? ⟨kb, 13 + k * 5 + 2, none⟩ = some (.int .i64 (f : Int)) ∧ W.cell? ⟨kb, 13 + k * 5 + 3, none⟩ = some (.int .i64 (l : Int)) ∧ W.cell? ⟨kb, 13 + k * 5 + 4, none⟩ = some (.int .u32 c)) ∧ W.cell? ⟨kb, 59, none⟩ = some pv ∧ W.frozen? ⟨kb, 59, none⟩ = false) := fun W hW => ⟨hW.cell 0, hW.c5 he hk, hW.cend 1, hW.free _⟩
 have K0 : Hid (∀ W, Dn B kb raw im en (k : Int) pv w0 why sec ad W → Calls Tryz.prog 64 #[.agg (entA k f l c), raw] W fun e w' => ∃ v', e = .returned v' ∧ Sl w' v' ((bs.drop f).take l) ∧ Dn B kb raw im en (k : Int) pv w0 why sec ad w' ∧ W.heap.size ≤ w'.heap.size) := fun W hW => (ofS (hraw _ hW.fr) hfl (by omega)).mono (fun e w' ⟨v, he, hs, hb⟩ => ⟨v, he, hs, hW.below hb, hb.size⟩);have hll : ((bs.drop f).take l).length = l := by rw [List.length_take, List.length_drop]; omega
 have K1 : Hid (∀ W v, Dn B kb raw im en (k : Int) pv w0 why sec ad W → Sl W v ((bs.drop f).take l) → Calls Tryz.prog 163 #[v] W fun e w' => ∃ p, e = .returned (.pointer (some ⟨p, 0, none⟩)) ∧ W.heap.size < p ∧ Rd w' p W.heap.size ((bs.drop f).take l) 0 0 ∧ Dn B kb raw im en (k : Int) pv w0 why sec ad w') := fun W v hW hv => (newReader_any hv (by rw [hll]; omega)).mono (fun e w' ⟨p, he, h1, h2, h3⟩ => ⟨p, he, h1, h2, hW.below h3⟩);have HFin : Hid (∀ W p g, Dn B kb raw im en (k : Int) pv w0 why sec ad W → Rd W p g ((bs.drop f).take l) 0 0 → B ≤ p ∧ B ≤ g → Dt B kb raw im en ⟨k, f, (bs.drop f).take l⟩ p g w0 ⟨0, 0, why, sec, ad⟩ (W.setCell ⟨kb, 59, none⟩ (.pointer (some ⟨p, 0, none⟩)))) := fun W p g hW hr hB => by
  have h5 := hW.set (i := 59) (u := .pointer (some ⟨p, 0, none⟩)) (rdN_end (i := 1) hW.him hW.hen _) hW.him hW.hen;have np : p ≠ kb := fun e => by
   have h1 := hr.1;rw [e, hW.blk] at h1;simp at h1
  have ng : g ≠ kb := fun e => by
   obtain ⟨c, hc⟩ : ∃ c, W.heap[g]? = some (.cells c 5 (0, 0)) := ⟨_, hr.2.1⟩
   rw [e, hW.blk] at hc;simp at hc
  exact ⟨h5.blk, h5.him, h5.hen, by show k < 9; omega, he.2.2.1, by show f + _ ≤ _; rw [hll]; exact hz, hr.keeps (Keeps.setCell W kb 59 _) np ng, ⟨hW.hB, hB⟩, h5.fr⟩
 have HKp : Hid (∀ W (p : Nat), Dn B kb raw im en (k : Int) pv w0 why sec ad W → (W.setCell ⟨kb, 59, none⟩ (.pointer (some ⟨p, 0, none⟩))).cell? ⟨kb, 0, none⟩ = some raw ∧ ((W.setCell ⟨kb, 59, none⟩ (.pointer (some ⟨p, 0, none⟩))).cell? ⟨kb, 13 + k * 5, none⟩ = some (.int .i64 (k : Int)) ∧ (W.setCell ⟨kb, 59, none⟩ (.pointer (some ⟨p, 0, none⟩))).cell? ⟨kb, 13 + k * 5 + 1, none⟩ = some (.int .i64 0) ∧ (W.setCell ⟨kb, 59, none⟩ (.pointer (some ⟨p, 0, none⟩))).cell? ⟨kb, 13 + k * 5 + 2, none⟩ = some (.int .i64 (f : Int)) ∧ (W.setCell ⟨kb, 59, none⟩ (.pointer (some ⟨p, 0, none⟩))).cell? ⟨kb, 13 + k * 5 + 3, none⟩ = some (.int .i64 (l : Int)) ∧ (W.setCell ⟨kb, 59, none⟩ (.pointer (some ⟨p, 0, none⟩))).cell? ⟨kb, 13 + k * 5 + 4, none⟩ = some (.int .u32 c))) := fun W p hW => by
  have h5 := hW.set (i := 59) (u := .pointer (some ⟨p, 0, none⟩)) (rdN_end (i := 1) hW.him hW.hen _) hW.him hW.hen;have h6 : Dn B kb raw im en (k : Int) (.pointer (some ⟨p, 0, none⟩)) w0 why sec ad (W.setCell ⟨kb, 59, none⟩ (.pointer (some ⟨p, 0, none⟩))) := h5;exact ⟨h6.cell 0, h6.c5 he hk⟩
 have HBk : Hid (B ≤ kb ∧ kb < w.heap.size) := ⟨h.hB, h.lt⟩
 have HS1 := Lib.hid hs1;obtain ⟨x0, xs, x59, xf⟩ := HL.out _ h2;have ji : (k : Int) < 9 := by omega
 have j0 : (0 : Int) ≤ (k : Int) := by omega
 have H2 := Lib.hid h2;clear h h1 h2 hraw he hfl hz hll hs1;unfold entA at K0;go_enter Tryz.func122, Tryz.ntmps122
 go_wp2_with fail
 clear hW1 c58 f58;go_region_held3 (fun W => W.cell? ⟨kb, 0, none⟩ = some raw ∧ (W.cell? ⟨kb, 13 + k * 5, none⟩ = some (.int .i64 (k : Int)) ∧ W.cell? ⟨kb, 13 + k * 5 + 1, none⟩ = some (.int .i64 0) ∧ W.cell? ⟨kb, 13 + k * 5 + 2, none⟩ = some (.int .i64 (f : Int)) ∧ W.cell? ⟨kb, 13 + k * 5 + 3, none⟩ = some (.int .i64 (l : Int)) ∧ W.cell? ⟨kb, 13 + k * 5 + 4, none⟩ = some (.int .u32 c))) (first | assumption | exact ⟨by assumption, by assumption⟩ | (with_reducible exact HKp.out _ _ H4.out) | go_keep) (first | (go_at_call 64; refine (K0.out _ H2.out).mono ?_; rintro e w3 ⟨v3, rfl, hs3, h3, hz3⟩; have HS3 := Lib.hid hs3; have H3 := Lib.hid h3; have HZ3 := Lib.hid hz3; obtain ⟨y0, ys, y59, yf⟩ := HL.out _ h3; clear hs3 h3 hz3 H2 K0) | (go_at_call 163; refine (K1.out _ _ H3.out HS3.out).mono ?_; rintro e w4 ⟨p4, rfl, hp4, hr4, h4⟩; have H4 := Lib.hid h4; have HR4 := Lib.hid hr4; have HP4 := Lib.hid hp4; obtain ⟨z0, zs, z59, zf⟩ := HL.out _ h4; clear hp4 hr4 h4 K1))
 all_goals
  go_wp2_with fail
  go_end0
  have hz3 := HZ3.out;have hz1 := HS1.out;have hp4 := HP4.out;have hbk := HBk.out;have hd : W1.drew.heap.size = W1.heap.size := rfl;exact ⟨rfl, _, _, HFin.out _ _ _ H4.out HR4.out (by omega), by omega⟩
end
end Go.Proofs.YtmfkggngjeolcaaGreatDoor
namespace Go.Proofs.YtmfkggngjeolcaaGreatDoor
open Go.RowKit Bn
theorem txt_eq (a b : ByteArray) : (a.toList = b.toList) = (a = b) := propext ⟨fun h => by
  rw [ByteArray.toList_eq, ByteArray.toList_eq] at h
  cases a
  cases b
  simp at h
  rw [h], fun h => by rw [h]⟩
theorem cast_eq (a b : Nat) : ((a : Int) = (b : Int)) = (a = b) := propext ⟨fun h => by omega, fun h => by rw [h]⟩
theorem rg_equal (x y : Rg) (w : World) : (Op.equalIn 10000 64 (.agg (rgE x).toArray) (.agg (rgE y).toArray)).run Tryz.prog w = .ok (decide (x.1 = y.1 ∧ x.2 = y.2)) w := by
 have u0 := Tryz.underlying22;have a0 := Tryz.isAgg22;have z0 := Tryz.sizeOf22;have hS : Tryz.prog.underlying 64 = some (.struct (Tryz.prog.fieldsOf 64)) := by kernel_rfl
 have hp : Tryz.prog.stoodInHeld 64 = false := by kernel_rfl
 unfold rgE;rw [show (10000 : Nat) = 9999 + 1 from rfl, run_equalIn_agg w 9999 64 _ _ hS hp];simp only [Program.fieldsOf, Tryz.underlying64];go_simp
 by_cases h0 : x.1 = y.1
 ·skip
  by_cases h1 : x.2 = y.2
  ·simp [cast_eq, txt_eq, h0, h1]
  ·simp [cast_eq, txt_eq, h0, h1]
 ·simp [cast_eq, txt_eq, h0]
theorem rg_guard : Tryz.prog.eqGuardType Tryz.prog.depth 64 = false := by kernel_rfl
theorem rg_neq (x y : Rg) (w : World) : (binOp .neq 64 (.agg (rgE x).toArray) (.agg (rgE y).toArray)).run Tryz.prog w = .ok (.bool (!decide (x.1 = y.1 ∧ x.2 = y.2))) w := by
 rw [run_neq_struct, rg_equal]
 rfl
theorem st_equal (x y : (Int × Int)) (w : World) : (Op.equalIn 10000 74 (.agg (stE x).toArray) (.agg (stE y).toArray)).run Tryz.prog w = .ok (decide (x.1 = y.1 ∧ x.2 = y.2)) w := by
 have u0 := Tryz.underlying3;have a0 := Tryz.isAgg3;have z0 := Tryz.sizeOf3;have hS : Tryz.prog.underlying 74 = some (.struct (Tryz.prog.fieldsOf 74)) := by kernel_rfl
 have hp : Tryz.prog.stoodInHeld 74 = false := by kernel_rfl
 unfold stE;rw [show (10000 : Nat) = 9999 + 1 from rfl, run_equalIn_agg w 9999 74 _ _ hS hp];simp only [Program.fieldsOf, Tryz.underlying74];go_simp
 by_cases h0 : x.1 = y.1
 ·skip
  by_cases h1 : x.2 = y.2
  ·simp [cast_eq, txt_eq, h0, h1]
  ·simp [cast_eq, txt_eq, h0, h1]
 ·simp [cast_eq, txt_eq, h0]
theorem st_guard : Tryz.prog.eqGuardType Tryz.prog.depth 74 = false := by kernel_rfl
theorem st_neq (x y : (Int × Int)) (w : World) : (binOp .neq 74 (.agg (stE x).toArray) (.agg (stE y).toArray)).run Tryz.prog w = .ok (.bool (!decide (x.1 = y.1 ∧ x.2 = y.2))) w := by
 rw [run_neq_struct, st_equal]
 rfl
theorem tn_equal (x y : Tn) (w : World) : (Op.equalIn 10000 66 (.agg (tnE x).toArray) (.agg (tnE y).toArray)).run Tryz.prog w = .ok (decide (x.cpu = y.cpu ∧ x.root = y.root ∧ x.st = y.st ∧ x.rule = y.rule ∧ x.to = y.to ∧ x.vec = y.vec)) w := by
 have u0 := Tryz.underlying3;have a0 := Tryz.isAgg3;have z0 := Tryz.sizeOf3;have u1 := Tryz.underlying4;have a1 := Tryz.isAgg4;have z1 := Tryz.sizeOf4;have hS : Tryz.prog.underlying 66 = some (.struct (Tryz.prog.fieldsOf 66)) := by kernel_rfl
 have hp : Tryz.prog.stoodInHeld 66 = false := by kernel_rfl
 unfold tnE;rw [show (10000 : Nat) = 9999 + 1 from rfl, run_equalIn_agg w 9999 66 _ _ hS hp];simp only [Program.fieldsOf, Tryz.underlying66];go_simp
 by_cases h0 : x.cpu = y.cpu
 ·skip
  by_cases h1 : x.root = y.root
  ·skip
   by_cases h2 : x.st = y.st
   ·skip
    by_cases h3 : x.rule = y.rule
    ·skip
     by_cases h4 : x.to = y.to
     ·skip
      by_cases h5 : x.vec = y.vec
      ·simp [cast_eq, txt_eq, h0, h1, h2, h3, h4, h5]
      ·simp [cast_eq, txt_eq, h0, h1, h2, h3, h4, h5]
     ·simp [cast_eq, txt_eq, h0, h1, h2, h3, h4]
    ·simp [cast_eq, txt_eq, h0, h1, h2, h3]
   ·simp [cast_eq, txt_eq, h0, h1, h2]
  ·simp [cast_eq, txt_eq, h0, h1]
 ·simp [cast_eq, txt_eq, h0]
theorem tn_guard : Tryz.prog.eqGuardType Tryz.prog.depth 66 = false := by kernel_rfl
theorem tn_neq (x y : Tn) (w : World) : (binOp .neq 66 (.agg (tnE x).toArray) (.agg (tnE y).toArray)).run Tryz.prog w = .ok (.bool (!decide (x.cpu = y.cpu ∧ x.root = y.root ∧ x.st = y.st ∧ x.rule = y.rule ∧ x.to = y.to ∧ x.vec = y.vec))) w := by
 rw [run_neq_struct, tn_equal]
 rfl
theorem po_equal (x y : Int) (w : World) : (Op.equalIn 10000 68 (.agg (poE x).toArray) (.agg (poE y).toArray)).run Tryz.prog w = .ok (decide (x = y)) w := by
 have u0 := Tryz.underlying3;have a0 := Tryz.isAgg3;have z0 := Tryz.sizeOf3;have hS : Tryz.prog.underlying 68 = some (.struct (Tryz.prog.fieldsOf 68)) := by kernel_rfl
 have hp : Tryz.prog.stoodInHeld 68 = false := by kernel_rfl
 unfold poE;rw [show (10000 : Nat) = 9999 + 1 from rfl, run_equalIn_agg w 9999 68 _ _ hS hp];simp only [Program.fieldsOf, Tryz.underlying68];go_simp
 by_cases h0 : x = y
 ·simp [cast_eq, txt_eq, h0]
 ·simp [cast_eq, txt_eq, h0]
theorem po_guard : Tryz.prog.eqGuardType Tryz.prog.depth 68 = false := by kernel_rfl
theorem po_neq (x y : Int) (w : World) : (binOp .neq 68 (.agg (poE x).toArray) (.agg (poE y).toArray)).run Tryz.prog w = .ok (.bool (!decide (x = y))) w := by
 rw [run_neq_struct, po_equal]
 rfl
theorem lk_equal (x y : Lk) (w : World) : (Op.equalIn 10000 72 (.agg (lkE x).toArray) (.agg (lkE y).toArray)).run Tryz.prog w = .ok (decide (x.fr = y.fr ∧ x.to = y.to ∧ x.eff = y.eff ∧ x.vec = y.vec ∧ x.msk = y.msk)) w := by
 have u0 := Tryz.underlying3;have a0 := Tryz.isAgg3;have z0 := Tryz.sizeOf3;have u1 := Tryz.underlying4;have a1 := Tryz.isAgg4;have z1 := Tryz.sizeOf4;have hS : Tryz.prog.underlying 72 = some (.struct (Tryz.prog.fieldsOf 72)) := by kernel_rfl
 have hp : Tryz.prog.stoodInHeld 72 = false := by kernel_rfl
 unfold lkE;rw [show (10000 : Nat) = 9999 + 1 from rfl, run_equalIn_agg w 9999 72 _ _ hS hp];simp only [Program.fieldsOf, Tryz.underlying72];go_simp
 by_cases h0 : x.fr = y.fr
 ·skip
  by_cases h1 : x.to = y.to
  ·skip
   by_cases h2 : x.eff = y.eff
   ·skip
    by_cases h3 : x.vec = y.vec
    ·skip
     by_cases h4 : x.msk = y.msk
     ·simp [cast_eq, txt_eq, h0, h1, h2, h3, h4]
     ·simp [cast_eq, txt_eq, h0, h1, h2, h3, h4]
    ·simp [cast_eq, txt_eq, h0, h1, h2, h3]
   ·simp [cast_eq, txt_eq, h0, h1, h2]
  ·simp [cast_eq, txt_eq, h0, h1]
 ·simp [cast_eq, txt_eq, h0]
theorem lk_guard : Tryz.prog.eqGuardType Tryz.prog.depth 72 = false := by kernel_rfl
theorem lk_neq (x y : Lk) (w : World) : (binOp .neq 72 (.agg (lkE x).toArray) (.agg (lkE y).toArray)).run Tryz.prog w = .ok (.bool (!decide (x.fr = y.fr ∧ x.to = y.to ∧ x.eff = y.eff ∧ x.vec = y.vec ∧ x.msk = y.msk))) w := by
 rw [run_neq_struct, lk_equal]
 rfl
theorem gd_equal (x y : Gd) (w : World) : (Op.equalIn 10000 70 (.agg (gdE x).toArray) (.agg (gdE y).toArray)).run Tryz.prog w = .ok (decide (x.ad = y.ad ∧ x.sz = y.sz ∧ x.fill = y.fill ∧ x.txt = y.txt)) w := by
 have u0 := Tryz.underlying22;have a0 := Tryz.isAgg22;have z0 := Tryz.sizeOf22;have u1 := Tryz.underlying5;have a1 := Tryz.isAgg5;have z1 := Tryz.sizeOf5;have u2 := Tryz.underlying9;have a2 := Tryz.isAgg9;have z2 := Tryz.sizeOf9;have hS : Tryz.prog.underlying 70 = some (.struct (Tryz.prog.fieldsOf 70)) := by kernel_rfl
 have hp : Tryz.prog.stoodInHeld 70 = false := by kernel_rfl
 unfold gdE;rw [show (10000 : Nat) = 9999 + 1 from rfl, run_equalIn_agg w 9999 70 _ _ hS hp];simp only [Program.fieldsOf, Tryz.underlying70];go_simp
 by_cases h0 : x.ad = y.ad
 ·skip
  by_cases h1 : x.sz = y.sz
  ·skip
   by_cases h2 : x.fill = y.fill
   ·skip
    by_cases h3 : x.txt = y.txt
    ·simp [cast_eq, txt_eq, h0, h1, h2, h3]
    ·simp [cast_eq, txt_eq, h0, h1, h2, h3]
   ·simp [cast_eq, txt_eq, h0, h1, h2]
  ·simp [cast_eq, txt_eq, h0, h1]
 ·simp [cast_eq, txt_eq, h0]
theorem gd_guard : Tryz.prog.eqGuardType Tryz.prog.depth 70 = false := by kernel_rfl
theorem gd_neq (x y : Gd) (w : World) : (binOp .neq 70 (.agg (gdE x).toArray) (.agg (gdE y).toArray)).run Tryz.prog w = .ok (.bool (!decide (x.ad = y.ad ∧ x.sz = y.sz ∧ x.fill = y.fill ∧ x.txt = y.txt))) w := by
 rw [run_neq_struct, gd_equal]
 rfl
theorem tab_equal2 (f g : Nat → Nat) (w : World) : (Op.equalIn 10000 80 (.agg (tabV f)) (.agg (tabV g))).run Tryz.prog w = .ok (decide (∀ j ∈ List.range 512, f j = g j)) w := by
 have hu : Tryz.prog.underlying 80 = some (.array 512 22) := by kernel_rfl
 have hb : Tryz.prog.underlying 22 = some (.int .u64) := by kernel_rfl
 have hs : (Tryz.prog.info? 22).isSome = true := by kernel_rfl
 obtain ⟨i, hi⟩ := Option.isSome_iff_exists.1 hs;have hc : Tryz.prog.cellsOf 22 = 1 := by kernel_rfl
 rw [run_equalIn_array w 9999 (tabV f) (tabV g) hu hi, hc];have hl : ∀ j ∈ List.range 512, j < 512 := fun j hj => List.mem_range.1 hj;generalize List.range 512 = l at hl ⊢
 induction l with
 | nil => simp [Op.eqItems]
 | cons j l ih =>
  have hj : j < 512 := hl j (by simp);have px : (part 22 (tabV f) (j * 1)).run Tryz.prog w = .ok (.int .u64 (f j : Int)) w := by
   have := tabV_get f hj;simp [part, isAgg, run_underlying hb, this]
  have py : (part 22 (tabV g) (j * 1)).run Tryz.prog w = .ok (.int .u64 (g j : Int)) w := by
   have := tabV_get g hj;simp [part, isAgg, run_underlying hb, this]
  have ih' := ih fun k hk => hl k (by simp [hk])
  by_cases h : f j = g j
  ·have hbq : ((f j : Int) == (g j : Int)) = true := by simp [h]
   simp only [Op.eqItems, Sem.run_bind, px, py, run_equalIn_int w 9998 22 .u64 .u64 _ _ hb, Result.andThen_ok, hbq];simp [h] at ih' ⊢
   exact ih'
  ·have hbq : ((f j : Int) == (g j : Int)) = false := by simp; omega
   simp only [Op.eqItems, Sem.run_bind, px, py, run_equalIn_int w 9998 22 .u64 .u64 _ _ hb, Result.andThen_ok, hbq];simp [h]
theorem tab_neq2 (f g : Nat → Nat) (w : World) : (binOp .neq 80 (.agg (tabV f)) (.agg (tabV g))).run Tryz.prog w = .ok (.bool (!decide (∀ j ∈ List.range 512, f j = g j))) w := by
 rw [run_neq_struct, tab_equal2]
 rfl
end Go.Proofs.YtmfkggngjeolcaaGreatDoor
