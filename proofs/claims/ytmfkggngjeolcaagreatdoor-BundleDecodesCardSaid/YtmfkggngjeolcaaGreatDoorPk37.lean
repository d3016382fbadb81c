import Derived.Test.YtmfkggngjeolcaaGreatDoorPk36
import Derived.Test.YtmfkggngjeolcaaGreatDoorPk23
set_option linter.unusedSimpArgs false
set_option linter.unusedVariables false
set_option maxHeartbeats 64000000
set_option maxRecDepth 100000
namespace Go.Proofs.YtmfkggngjeolcaaGreatDoor
open Go.RowKit Bn Dd
open Dc
def SmV (v u : Value) : Prop := u = v ∨ ∃ k a b, v = .int k a ∧ u = .int k b
theorem SmV.int {kd : IntKind} {x : Int} {u : Value} (h : SmV (.int kd x) u) : ∃ y, u = .int kd y := by
 rcases h with rfl | ⟨k, a, b, h1, rfl⟩
 ·exact ⟨x, rfl⟩
 ·cases h1
  exact ⟨b, rfl⟩
theorem SmV.sl {a : Option Addr} {n c : Nat} {u : Value} (h : SmV (.slice a n c) u) : u = .slice a n c := by
 rcases h with rfl | ⟨k, a, b, h1, _⟩
 ·rfl
 ·cases h1
structure SpQ (Z Y : Nat) (w w' : World) : Prop where
 os : w'.os = w.os
 tape : w'.tape = w.tape
 output : w'.output = w.output
 size : w'.heap.size = w.heap.size
 out : ∀ k, ¬ (Z ≤ k ∧ k < Y) → w'.heap[k]? = w.heap[k]?
 cl : ∀ b o v, w.cell? ⟨b, o, none⟩ = some v → ∃ u, w'.cell? ⟨b, o, none⟩ = some u ∧ SmV v u
 fz : ∀ a, w'.frozen? a = w.frozen? a
theorem SpQ.refl (Z Y : Nat) (w : World) : SpQ Z Y w w := ⟨rfl, rfl, rfl, rfl, fun _ _ => rfl, fun _ _ v h => ⟨v, h, .inl rfl⟩, fun _ => rfl⟩
theorem SpQ.drew {Z Y : Nat} {w W : World} (h : SpQ Z Y w W) : SpQ Z Y w W.drew := ⟨h.os, h.tape, h.output, h.size, h.out, h.cl, h.fz⟩
theorem SpQ.keeps {Z Y : Nat} {w W : World} (h : SpQ Z Y w W) : Keeps (fun k => Z ≤ k ∧ k < Y) w W := ⟨h.os, h.tape, h.output, by rw [h.size]; exact Nat.le_refl _, fun k _ hn => h.out k hn⟩
theorem SpQ.set {Z Y : Nat} {w W : World} (h : SpQ Z Y w W) {b o : Nat} {kd : IntKind} {x : Int} (hb1 : Z ≤ b) (hb2 : b < Y) (hc : W.cell? ⟨b, o, none⟩ = some (.int kd x)) (y : Int) : SpQ Z Y w (W.setCell ⟨b, o, none⟩ (.int kd y)) := by
 refine ⟨h.os, h.tape, h.output, by rw [← h.size]; simp [World.setCell], fun k hk => ?_, fun b' o' v hv => ?_, fun a => by rw [World.frozen?_setCell, h.fz]⟩
 ·rw [Below.heap_setCell _ _ _ _ (show k ≠ b from fun e => hk (by rw [e]; exact ⟨hb1, hb2⟩))];exact h.out k hk
 ·obtain ⟨u, hu, hs⟩ := h.cl b' o' v hv
  by_cases e : (⟨b, o, none⟩ : Addr) = ⟨b', o', none⟩
  ·cases e
   refine ⟨_, World.cell?_setCell_same _ _ _ hc, ?_⟩;rw [hc] at hu
   cases hu
   rcases hs with e | ⟨k, p, q, h1, h2⟩
   ·exact .inr ⟨kd, x, y, e.symm, rfl⟩
   ·cases h2
    exact .inr ⟨_, p, y, h1, rfl⟩
  ·exact ⟨u, (World.cell?_setCell_other _ _ _ _ e).trans hu, hs⟩
theorem SmV.trans {a b c : Value} (h : SmV a b) (k : SmV b c) : SmV a c := by
 rcases h with rfl | ⟨kd, x, y, rfl, rfl⟩
 ·exact k
 ·obtain ⟨z, rfl⟩ := k.int;exact .inr ⟨kd, x, z, rfl, rfl⟩
theorem SpQ.trans {Z Y : Nat} {w W V : World} (h : SpQ Z Y w W) (k : SpQ Z Y W V) : SpQ Z Y w V :=
 ⟨k.os.trans h.os, k.tape.trans h.tape, k.output.trans h.output, k.size.trans h.size, fun i hi => (k.out i hi).trans (h.out i hi), fun b o v hv => by
  obtain ⟨u, hu, hs⟩ := h.cl b o v hv;obtain ⟨u2, hu2, hs2⟩ := k.cl b o u hu;exact ⟨u2, hu2, hs.trans hs2⟩, fun a => (k.fz a).trans (h.fz a)⟩
def Rw (Z Y k c : Nat) (kd : IntKind) (w : World) (ao : Option Addr) (n : Nat) : Prop := n ≤ maxLen ∧ ∀ i, i < n → ∃ b o, ao = some ⟨b, o, none⟩ ∧ Z ≤ b ∧ b < Y ∧ (∃ x, w.cell? ⟨b, o + i * k + c, none⟩ = some (.int kd x)) ∧ w.frozen? ⟨b, o + i * k + c, none⟩ = false
theorem Rw.sp {Z Y Z' Y' k c : Nat} {kd : IntKind} {w w' : World} {ao : Option Addr} {n : Nat} (h : Rw Z Y k c kd w ao n) (hs : SpQ Z' Y' w w') : Rw Z Y k c kd w' ao n := ⟨h.1, fun i hi => by
 obtain ⟨b, o, e, h1, h2, ⟨x, h3⟩, h4⟩ := h.2 i hi;obtain ⟨u, hu, hm⟩ := hs.cl _ _ _ h3;obtain ⟨y, rfl⟩ := hm.int;exact ⟨b, o, e, h1, h2, ⟨y, hu⟩, (hs.fz _).trans h4⟩⟩
theorem below_cell {Y : Nat} {w w' : World} (hb : Below Y w w') {b o : Nat} (h : b < Y) : w'.cell? ⟨b, o, none⟩ = w.cell? ⟨b, o, none⟩ ∧ w'.frozen? ⟨b, o, none⟩ = w.frozen? ⟨b, o, none⟩ := by
 constructor
 ·simp only [World.cell?, hb.block b h]
 ·simp only [World.frozen?, hb.block b h]
theorem Rw.below {Z Y k c : Nat} {kd : IntKind} {w w' : World} {ao : Option Addr} {n : Nat} (h : Rw Z Y k c kd w ao n) (hb : Below Y w w') : Rw Z Y k c kd w' ao n := ⟨h.1, fun i hi => by
 obtain ⟨b, o, e, h1, h2, ⟨x, h3⟩, h4⟩ := h.2 i hi;exact ⟨b, o, e, h1, h2, ⟨x, (below_cell hb h2).1.trans h3⟩, (below_cell hb h2).2.trans h4⟩⟩
theorem OwnG.rw' {β : Type} {t : TypeId} {k : Nat} {enc : β → List Value} {w : World} {Z : Nat} {v : Value} {xs : List β} (h : OwnG t k enc w Z v xs) (he : EncOk k enc) {c : Nat} (hck : c < k) {kd : IntKind} (hc : ∀ x, ∃ y, (enc x)[c]? = some (.int kd y)) : ∃ ao cap, v = .slice ao xs.length cap ∧ Rw Z w.heap.size k c kd w ao xs.length := by
 obtain ⟨_, _, _, _, _, hj⟩ := h.form;obtain ⟨ao, cap, rfl, h1, h2, h3⟩ := h.rowG he;refine ⟨ao, cap, rfl, Nat.le_trans h1 h2, fun i hi => ?_⟩;obtain ⟨b, o, rfl, h4, h5⟩ := h3 i hi;obtain ⟨k1, k2, cur, k3⟩ := hj b rfl;obtain ⟨y, hy⟩ := hc (xs[i]);exact ⟨b, o, rfl, k1, k2, ⟨y, (h5 c hck).trans hy⟩, by simp [World.frozen?, k3]⟩
def LaR (Z Y : Nat) (w : World) (lo : Option Addr) (ln : Nat) : Prop := ln ≤ maxLen ∧ ∀ k, k < ln → ∃ b o, lo = some ⟨b, o, none⟩ ∧ b < Y ∧ ∃ tq tn tc, w.cell? ⟨b, o + k, none⟩ = some (.slice tq tn tc) ∧ Rw Z Y 2 1 .i64 w tq tn
theorem LaR.sp {Z Y Z' Y' : Nat} {w w' : World} {lo : Option Addr} {ln : Nat} (h : LaR Z Y w lo ln) (hs : SpQ Z' Y' w w') : LaR Z Y w' lo ln := ⟨h.1, fun i hi => by
 obtain ⟨b, o, e, h1, tq, tn, tc, h2, h3⟩ := h.2 i hi;obtain ⟨u, hu, hm⟩ := hs.cl _ _ _ h2;obtain rfl := hm.sl;exact ⟨b, o, e, h1, tq, tn, tc, hu, h3.sp hs⟩⟩
theorem LaR.below {Z Y : Nat} {w w' : World} {lo : Option Addr} {ln : Nat} (h : LaR Z Y w lo ln) (hb : Below Y w w') : LaR Z Y w' lo ln := ⟨h.1, fun i hi => by
 obtain ⟨b, o, e, h1, tq, tn, tc, h2, h3⟩ := h.2 i hi;exact ⟨b, o, e, h1, tq, tn, tc, (below_cell hb h1).1.trans h2, h3.below hb⟩⟩
theorem LaO.laR {Z : Nat} {w : World} {v : SlV} {ls : List (List (Int × Int))} (h : LaO Z w v ls) : LaR Z w.heap.size w v.a v.n := by
 obtain ⟨us, ho, ht⟩ := h;obtain ⟨ao, cap, e, h1, h2, h3⟩ := ho.rowG sl_ok;simp only [slE1, Value.slice.injEq] at e;obtain ⟨rfl, e2, rfl⟩ := e;rw [e2];refine ⟨Nat.le_trans h1 h2, fun i hi => ?_⟩;obtain ⟨b, o, e, h4, h5⟩ := h3 i hi;have hl := ht.len;obtain ⟨ao2, cap2, e3, h6⟩ := (ht.get i hi (by omega)).rw' st_ok (c := 1) (by decide) (kd := .i64) (fun x => ⟨_, rfl⟩);refine ⟨b, o, e, h4, ao2, _, cap2, ?_, h6⟩;have h7 := h5 0 (by decide);rw [Nat.mul_one, Nat.add_zero] at h7;rw [h7, ← e3]
 rfl
def PlR (Z Y : Nat) (w : World) (po : Option Addr) (n : Nat) : Prop := n ≤ maxLen ∧ ∀ j, j < n → ∃ b o, po = some ⟨b, o, none⟩ ∧ Z ≤ b ∧ b < Y ∧ (∃ x, w.cell? ⟨b, o + j * 2, none⟩ = some (.int .i64 x)) ∧ w.frozen? ⟨b, o + j * 2, none⟩ = false ∧ ∃ lo ln lc, w.cell? ⟨b, o + j * 2 + 1, none⟩ = some (.slice lo ln lc) ∧ LaR Z Y w lo ln
theorem PlR.sp {Z Y Z' Y' : Nat} {w w' : World} {po : Option Addr} {n : Nat} (h : PlR Z Y w po n) (hs : SpQ Z' Y' w w') : PlR Z Y w' po n := ⟨h.1, fun i hi => by
 obtain ⟨b, o, e, h1, h2, ⟨x, h3⟩, h4, lo, ln, lc, h5, h6⟩ := h.2 i hi;obtain ⟨u, hu, hm⟩ := hs.cl _ _ _ h3;obtain ⟨y, rfl⟩ := hm.int;obtain ⟨u2, hu2, hm2⟩ := hs.cl _ _ _ h5;obtain rfl := hm2.sl;exact ⟨b, o, e, h1, h2, ⟨y, hu⟩, (hs.fz _).trans h4, lo, ln, lc, hu2, h6.sp hs⟩⟩
theorem PlR.below {Z Y : Nat} {w w' : World} {po : Option Addr} {n : Nat} (h : PlR Z Y w po n) (hb : Below Y w w') : PlR Z Y w' po n := ⟨h.1, fun i hi => by
 obtain ⟨b, o, e, h1, h2, ⟨x, h3⟩, h4, lo, ln, lc, h5, h6⟩ := h.2 i hi;exact ⟨b, o, e, h1, h2, ⟨x, (below_cell hb h2).1.trans h3⟩, (below_cell hb h2).2.trans h4, lo, ln, lc, (below_cell hb h2).1.trans h5, h6.below hb⟩⟩
theorem PlO.plR {Z : Nat} {w : World} {v : Value} {ps : List Sc} (h : PlO Z w v ps) : ∃ po n c, v = .slice po n c ∧ PlR Z w.heap.size w po n := by
 obtain ⟨us, ho, ht⟩ := h;obtain ⟨_, _, _, _, _, hj⟩ := ho.form;obtain ⟨ao, cap, rfl, h1, h2, h3⟩ := ho.rowG sc_ok;refine ⟨ao, us.length, cap, rfl, Nat.le_trans h1 h2, fun i hi => ?_⟩;obtain ⟨b, o, rfl, h4, h5⟩ := h3 i hi;obtain ⟨k1, k2, cur, k3⟩ := hj b rfl;have hl := ht.len;exact ⟨b, o, rfl, k1, k2, ⟨_, h5 0 (by decide)⟩, by simp [World.frozen?, k3], _, _, _, h5 1 (by decide), (ht.get i hi (by omega)).2.laR⟩
structure SpI (Z Y : Nat) (w : World) (o1 o2 o3 o4 o5 o6 o7 o8 o11 : Option Addr) (n1 n2 n3 n4 n5 n6 n7 n8 n11 : Nat) : Prop where
 r1 : Rw Z Y 2 0 .u64 w o1 n1
 r2 : Rw Z Y 2 0 .u64 w o2 n2
 r3 : Rw Z Y 6 0 .i64 w o3 n3
 r4 : Rw Z Y 1 0 .i64 w o4 n4
 r5 : Rw Z Y 4 0 .u64 w o5 n5
 r6 : Rw Z Y 5 3 .i64 w o6 n6
 r7 : Rw Z Y 5 3 .i64 w o7 n7
 r8 : PlR Z Y w o8 n8
 r11 : Rw Z Y 512 0 .u64 w o11 n11
theorem ImD.spI {Z : Nat} {wa w : World} {im : List Value} {J : Im} (h : ImD Z wa im J) (hl : im.length = 12) (hb : Below wa.heap.size wa w) : ∃ bs ms st o1 o2 o3 o4 o5 o6 o7 o8 o11 n1 n2 n3 n4 n5 n6 n7 n8 n11 c1 c2 c3 c4 c5 c6 c7 c8 c11, im = [.int .u64 bs, .slice o1 n1 c1, .slice o2 n2 c2, .slice o3 n3 c3, .slice o4 n4 c4, .slice o5 n5 c5, .slice o6 n6 c6, .slice o7 n7 c7, .slice o8 n8 c8, .int .i64 ms, .int .i64 st, .slice o11 n11 c11] ∧ SpI Z wa.heap.size w o1 o2 o3 o4 o5 o6 o7 o8 o11 n1 n2 n3 n4 n5 n6 n7 n8 n11 := by
 obtain ⟨h0, ⟨v1, a1, b1⟩, ⟨v2, a2, b2⟩, ⟨v3, a3, b3⟩, ⟨v4, a4, b4⟩, ⟨v5, a5, b5⟩, ⟨v6, a6, b6⟩, ⟨v7, a7, b7⟩, ⟨v8, a8, b8⟩, h9, h10, ⟨v11, a11, b11⟩⟩ := h;obtain ⟨o1, c1, rfl, r1⟩ := b1.rw' rg_ok (c := 0) (by decide) (kd := .u64) (fun x => ⟨_, rfl⟩);obtain ⟨o2, c2, rfl, r2⟩ := b2.rw' rg_ok (c := 0) (by decide) (kd := .u64) (fun x => ⟨_, rfl⟩);obtain ⟨o3, c3, rfl, r3⟩ := b3.rw' tn_ok (c := 0) (by decide) (kd := .i64) (fun x => ⟨_, rfl⟩);obtain ⟨o4, c4, rfl, r4⟩ := b4.rw' po_ok (c := 0) (by decide) (kd := .i64) (fun x => ⟨_, rfl⟩);obtain ⟨o5, c5, rfl, r5⟩ := b5.rw' gd_ok (c := 0) (by decide) (kd := .u64) (fun x => ⟨_, rfl⟩);obtain ⟨o6, c6, rfl, r6⟩ := b6.rw' lk_ok (c := 3) (by decide) (kd := .i64) (fun x => ⟨_, rfl⟩);obtain ⟨o7, c7, rfl, r7⟩ := b7.rw' lk_ok (c := 3) (by decide) (kd := .i64) (fun x => ⟨_, rfl⟩);obtain ⟨o8, n8, c8, rfl, r8⟩ := b8.plR;obtain ⟨o11, c11, rfl, r11⟩ := b11.rw' tb_ok (c := 0) (by decide) (kd := .u64) (fun f => ⟨f 0, by unfold tbE; rw [Array.getElem?_toList]; exact tabV_get f (by decide)⟩);refine ⟨(J.base : Int), J.master, J.start, o1, o2, o3, o4, o5, o6, o7, o8, o11, _, _, _, _, _, _, _, n8, _, c1, c2, c3, c4, c5, c6, c7, c8, c11, ?_, r1.below hb, r2.below hb, r3.below hb, r4.below hb, r5.below hb, r6.below hb, r7.below hb, r8.below hb, r11.below hb⟩;refine List.ext_getElem? (fun i => ?_)
 by_cases hi : i < 12
 ·have e : i = 0 ∨ i = 1 ∨ i = 2 ∨ i = 3 ∨ i = 4 ∨ i = 5 ∨ i = 6 ∨ i = 7 ∨ i = 8 ∨ i = 9 ∨ i = 10 ∨ i = 11 := by omega
  rcases e with rfl | rfl | rfl | rfl | rfl | rfl | rfl | rfl | rfl | rfl | rfl | rfl
  ·exact h0
  ·exact a1
  ·exact a2
  ·exact a3
  ·exact a4
  ·exact a5
  ·exact a6
  ·exact a7
  ·exact a8
  ·exact h9
  ·exact h10
  ·exact a11
 ·rw [List.getElem?_eq_none (by omega), List.getElem?_eq_none (by show 12 ≤ i; omega)]
end Go.Proofs.YtmfkggngjeolcaaGreatDoor
namespace Go.Proofs.YtmfkggngjeolcaaGreatDoor
open Go.RowKit Bn Dd
open Dc
theorem spoilX {Z : Nat} {wa w : World} {im : List Value} {J : Im} (h : ImD Z wa im J) (hl : im.length = 12) (hb : Below wa.heap.size wa w) : Calls Tryz.prog 28 #[.agg im.toArray] w fun e w' => e = .returned (.tuple #[]) ∧ Keeps (fun k => Z ≤ k ∧ k < wa.heap.size) w w' := by
 have hY := hb.size;obtain ⟨bs, ms, st, o1, o2, o3, o4, o5, o6, o7, o8, o11, n1, n2, n3, n4, n5, n6, n7, n8, n11, c1, c2, c3, c4, c5, c6, c7, c8, c11, rfl, hI⟩ := h.spI hl hb;clear h hl hb;generalize wa.heap.size = Y at *;obtain ⟨W1, hW1⟩ : ∃ W, w.alloc (.cells #[.int .u64 bs, .slice o1 n1 c1, .slice o2 n2 c2, .slice o3 n3 c3, .slice o4 n4 c4, .slice o5 n5 c5, .slice o6 n6 c6, .slice o7 n7 c7, .slice o8 n8 c8, .int .i64 ms, .int .i64 st, .slice o11 n11 c11] 33) = W := ⟨_, rfl⟩
 have hb1 : Below w.heap.size w W1 := by rw [← hW1]; exact (Below.refl _ _).alloc (Nat.le_refl _) _
 have hx1 : W1.heap[w.heap.size]? = some (.cells #[.int .u64 bs, .slice o1 n1 c1, .slice o2 n2 c2, .slice o3 n3 c3, .slice o4 n4 c4, .slice o5 n5 c5, .slice o6 n6 c6, .slice o7 n7 c7, .slice o8 n8 c8, .int .i64 ms, .int .i64 st, .slice o11 n11 c11] 33 (0, 0)) := by rw [← hW1]; exact heap_alloc_new w _
 have HB1 := Lib.hid hb1;have HBx : Hid (∀ W, SpQ Z Y W1 W → W.heap[w.heap.size]? = some (.cells #[.int .u64 bs, .slice o1 n1 c1, .slice o2 n2 c2, .slice o3 n3 c3, .slice o4 n4 c4, .slice o5 n5 c5, .slice o6 n6 c6, .slice o7 n7 c7, .slice o8 n8 c8, .int .i64 ms, .int .i64 st, .slice o11 n11 c11] 33 (0, 0))) := fun W hW => (hW.out w.heap.size (fun e => by omega)).trans hx1;have HC1 : Hid (∀ W, SpQ Z Y W1 W → W.cell? ⟨w.heap.size, 1, none⟩ = some (.slice o1 n1 c1)) := fun W hW => by rw [cell_of_row _ _ 1 _ _ _ (HBx.out W hW)]; rfl
 have HR1 := Lib.hid (hI.r1.below (hb1.mono hY));have HC2 : Hid (∀ W, SpQ Z Y W1 W → W.cell? ⟨w.heap.size, 2, none⟩ = some (.slice o2 n2 c2)) := fun W hW => by rw [cell_of_row _ _ 2 _ _ _ (HBx.out W hW)]; rfl
 have HR2 := Lib.hid (hI.r2.below (hb1.mono hY));have HC3 : Hid (∀ W, SpQ Z Y W1 W → W.cell? ⟨w.heap.size, 3, none⟩ = some (.slice o3 n3 c3)) := fun W hW => by rw [cell_of_row _ _ 3 _ _ _ (HBx.out W hW)]; rfl
 have HR3 := Lib.hid (hI.r3.below (hb1.mono hY));have HC4 : Hid (∀ W, SpQ Z Y W1 W → W.cell? ⟨w.heap.size, 4, none⟩ = some (.slice o4 n4 c4)) := fun W hW => by rw [cell_of_row _ _ 4 _ _ _ (HBx.out W hW)]; rfl
 have HR4 := Lib.hid (hI.r4.below (hb1.mono hY));have HC5 : Hid (∀ W, SpQ Z Y W1 W → W.cell? ⟨w.heap.size, 5, none⟩ = some (.slice o5 n5 c5)) := fun W hW => by rw [cell_of_row _ _ 5 _ _ _ (HBx.out W hW)]; rfl
 have HR5 := Lib.hid (hI.r5.below (hb1.mono hY));have HC6 : Hid (∀ W, SpQ Z Y W1 W → W.cell? ⟨w.heap.size, 6, none⟩ = some (.slice o6 n6 c6)) := fun W hW => by rw [cell_of_row _ _ 6 _ _ _ (HBx.out W hW)]; rfl
 have HR6 := Lib.hid (hI.r6.below (hb1.mono hY));have HC7 : Hid (∀ W, SpQ Z Y W1 W → W.cell? ⟨w.heap.size, 7, none⟩ = some (.slice o7 n7 c7)) := fun W hW => by rw [cell_of_row _ _ 7 _ _ _ (HBx.out W hW)]; rfl
 have HR7 := Lib.hid (hI.r7.below (hb1.mono hY));have HC8 : Hid (∀ W, SpQ Z Y W1 W → W.cell? ⟨w.heap.size, 8, none⟩ = some (.slice o8 n8 c8)) := fun W hW => by rw [cell_of_row _ _ 8 _ _ _ (HBx.out W hW)]; rfl
 have HC11 : Hid (∀ W, SpQ Z Y W1 W → W.cell? ⟨w.heap.size, 11, none⟩ = some (.slice o11 n11 c11)) := fun W hW => by rw [cell_of_row _ _ 11 _ _ _ (HBx.out W hW)]; rfl
 have HR11 := Lib.hid (hI.r11.below (hb1.mono hY));have HP8 := Lib.hid (hI.r8.below (hb1.mono hY));have HEnd : Hid (∀ W, SpQ Z Y W1 W → Keeps (fun k => Z ≤ k ∧ k < Y) w W) := fun W hW => (Keeps.of_below (S := fun k => Z ≤ k ∧ k < Y) HB1.out).trans hW.keeps (fun _ _ e => e);have HS : Hid (SpQ Z Y W1 W1) := SpQ.refl _ _ _;clear hI hb1 hx1 HBx;go_enter Tryz.func28, Tryz.ntmps28
 go_wp2_with fail
 subst hW1;have hml := HR1.out.1;unfold maxLen at hml;go_loopw [2] (fun iv wr => ∃ i : Nat, i ≤ n1 ∧ iv = .int .i64 (i : Int) ∧ Hid (SpQ Z Y (w.alloc (.cells #[.int .u64 bs, .slice o1 n1 c1, .slice o2 n2 c2, .slice o3 n3 c3, .slice o4 n4 c4, .slice o5 n5 c5, .slice o6 n6 c6, .slice o7 n7 c7, .slice o8 n8 c8, .int .i64 ms, .int .i64 st, .slice o11 n11 c11] 33)) wr)) (fun iv _ => n1 - (intOf iv).toNat)
 case atStart => exact ⟨0, Nat.zero_le _, rfl, HS⟩
 case round =>
  clear HS;obtain ⟨i, hi, rfl, HS⟩ := hrel;have ci := HC1.out _ HS.out
  by_cases hin : i < n1
  case pos =>
   have jj : (i : Int) < (n1 : Int) := by omega
   have hw1 : IntKind.i64.wrap ((i : Int) + 1) = ((i + 1 : Nat) : Int) := by rw [IntKind.wrap_i64]; omega
   obtain ⟨b, o, ho, hb1, hb2, ⟨x, hx⟩, hf⟩ := (HR1.out.sp HS.out).2 i hin;subst ho;clear HC1 HC2 HC3 HC4 HC5 HC6 HC7 HC8 HC11 HR1 HR2 HR3 HR4 HR5 HR6 HR7 HR11 HP8 HEnd;rw [Nat.add_zero] at hx hf;have HN := Lib.hid (fun y => HS.out.set hb1 hb2 hx y);clear HS;go_wp2_with fail
   go_roundw
   case rel => exact ⟨i + 1, by omega, rfl, HN.out _⟩
   case measure => simp [intOf]; omega
  case neg =>
   have jj : ¬ (i : Int) < (n1 : Int) := by omega
   clear hml hin;go_wp2_with fail
   clear ci jj;have hml := HR2.out.1;unfold maxLen at hml;go_loopw [3] (fun iv wr => ∃ i : Nat, i ≤ n2 ∧ iv = .int .i64 (i : Int) ∧ Hid (SpQ Z Y (w.alloc (.cells #[.int .u64 bs, .slice o1 n1 c1, .slice o2 n2 c2, .slice o3 n3 c3, .slice o4 n4 c4, .slice o5 n5 c5, .slice o6 n6 c6, .slice o7 n7 c7, .slice o8 n8 c8, .int .i64 ms, .int .i64 st, .slice o11 n11 c11] 33)) wr)) (fun iv _ => n2 - (intOf iv).toNat)
   case atStart => exact ⟨0, Nat.zero_le _, rfl, HS⟩
   case round =>
    clear HS;obtain ⟨i, hi, rfl, HS⟩ := hrel;have ci := HC2.out _ HS.out
    by_cases hin : i < n2
    case pos =>
     have jj : (i : Int) < (n2 : Int) := by omega
     have hw1 : IntKind.i64.wrap ((i : Int) + 1) = ((i + 1 : Nat) : Int) := by rw [IntKind.wrap_i64]; omega
     obtain ⟨b, o, ho, hb1, hb2, ⟨x, hx⟩, hf⟩ := (HR2.out.sp HS.out).2 i hin;subst ho;clear HC1 HC2 HC3 HC4 HC5 HC6 HC7 HC8 HC11 HR1 HR2 HR3 HR4 HR5 HR6 HR7 HR11 HP8 HEnd;rw [Nat.add_zero] at hx hf;have HN := Lib.hid (fun y => HS.out.set hb1 hb2 hx y);clear HS;go_wp2_with fail
     go_roundw
     case rel => exact ⟨i + 1, by omega, rfl, HN.out _⟩
     case measure => simp [intOf]; omega
    case neg =>
     have jj : ¬ (i : Int) < (n2 : Int) := by omega
     clear hml hin;go_wp2_with fail
     clear ci jj;have hml := HR3.out.1;unfold maxLen at hml;go_loopw [4] (fun iv wr => ∃ i : Nat, i ≤ n3 ∧ iv = .int .i64 (i : Int) ∧ Hid (SpQ Z Y (w.alloc (.cells #[.int .u64 bs, .slice o1 n1 c1, .slice o2 n2 c2, .slice o3 n3 c3, .slice o4 n4 c4, .slice o5 n5 c5, .slice o6 n6 c6, .slice o7 n7 c7, .slice o8 n8 c8, .int .i64 ms, .int .i64 st, .slice o11 n11 c11] 33)) wr)) (fun iv _ => n3 - (intOf iv).toNat)
     case atStart => exact ⟨0, Nat.zero_le _, rfl, HS⟩
     case round =>
      clear HS;obtain ⟨i, hi, rfl, HS⟩ := hrel;have ci := HC3.out _ HS.out
      by_cases hin : i < n3
      case pos =>
       have jj : (i : Int) < (n3 : Int) := by omega
       have hw1 : IntKind.i64.wrap ((i : Int) + 1) = ((i + 1 : Nat) : Int) := by rw [IntKind.wrap_i64]; omega
       obtain ⟨b, o, ho, hb1, hb2, ⟨x, hx⟩, hf⟩ := (HR3.out.sp HS.out).2 i hin;subst ho;clear HC1 HC2 HC3 HC4 HC5 HC6 HC7 HC8 HC11 HR1 HR2 HR3 HR4 HR5 HR6 HR7 HR11 HP8 HEnd;rw [Nat.add_zero] at hx hf;have HN := Lib.hid (fun y => HS.out.set hb1 hb2 hx y);clear HS;go_wp2_with fail
       go_roundw
       case rel => exact ⟨i + 1, by omega, rfl, HN.out _⟩
       case measure => simp [intOf]; omega
      case neg =>
       have jj : ¬ (i : Int) < (n3 : Int) := by omega
       clear hml hin;go_wp2_with fail
       clear ci jj;have hml := HR4.out.1;unfold maxLen at hml;go_loopw [5] (fun iv wr => ∃ i : Nat, i ≤ n4 ∧ iv = .int .i64 (i : Int) ∧ Hid (SpQ Z Y (w.alloc (.cells #[.int .u64 bs, .slice o1 n1 c1, .slice o2 n2 c2, .slice o3 n3 c3, .slice o4 n4 c4, .slice o5 n5 c5, .slice o6 n6 c6, .slice o7 n7 c7, .slice o8 n8 c8, .int .i64 ms, .int .i64 st, .slice o11 n11 c11] 33)) wr)) (fun iv _ => n4 - (intOf iv).toNat)
       case atStart => exact ⟨0, Nat.zero_le _, rfl, HS⟩
       case round =>
        clear HS;obtain ⟨i, hi, rfl, HS⟩ := hrel;have ci := HC4.out _ HS.out
        by_cases hin : i < n4
        case pos =>
         have jj : (i : Int) < (n4 : Int) := by omega
         have hw1 : IntKind.i64.wrap ((i : Int) + 1) = ((i + 1 : Nat) : Int) := by rw [IntKind.wrap_i64]; omega
         obtain ⟨b, o, ho, hb1, hb2, ⟨x, hx⟩, hf⟩ := (HR4.out.sp HS.out).2 i hin;subst ho;clear HC1 HC2 HC3 HC4 HC5 HC6 HC7 HC8 HC11 HR1 HR2 HR3 HR4 HR5 HR6 HR7 HR11 HP8 HEnd;rw [Nat.mul_one] at hx hf;rw [Nat.add_zero] at hx hf;have HN := Lib.hid (fun y => HS.out.set hb1 hb2 hx y);clear HS;go_wp2_with fail
         go_roundw
         case rel => exact ⟨i + 1, by omega, rfl, HN.out _⟩
         case measure => simp [intOf]; omega
        case neg =>
         have jj : ¬ (i : Int) < (n4 : Int) := by omega
         clear hml hin;go_wp2_with fail
         clear ci jj;have hml := HR5.out.1;unfold maxLen at hml;go_loopw [6] (fun iv wr => ∃ i : Nat, i ≤ n5 ∧ iv = .int .i64 (i : Int) ∧ Hid (SpQ Z Y (w.alloc (.cells #[.int .u64 bs, .slice o1 n1 c1, .slice o2 n2 c2, .slice o3 n3 c3, .slice o4 n4 c4, .slice o5 n5 c5, .slice o6 n6 c6, .slice o7 n7 c7, .slice o8 n8 c8, .int .i64 ms, .int .i64 st, .slice o11 n11 c11] 33)) wr)) (fun iv _ => n5 - (intOf iv).toNat)
         case atStart => exact ⟨0, Nat.zero_le _, rfl, HS⟩
         case round =>
          clear HS;obtain ⟨i, hi, rfl, HS⟩ := hrel;have ci := HC5.out _ HS.out
          by_cases hin : i < n5
          case pos =>
           have jj : (i : Int) < (n5 : Int) := by omega
           have hw1 : IntKind.i64.wrap ((i : Int) + 1) = ((i + 1 : Nat) : Int) := by rw [IntKind.wrap_i64]; omega
           obtain ⟨b, o, ho, hb1, hb2, ⟨x, hx⟩, hf⟩ := (HR5.out.sp HS.out).2 i hin;subst ho;clear HC1 HC2 HC3 HC4 HC5 HC6 HC7 HC8 HC11 HR1 HR2 HR3 HR4 HR5 HR6 HR7 HR11 HP8 HEnd;rw [Nat.add_zero] at hx hf;have HN := Lib.hid (fun y => HS.out.set hb1 hb2 hx y);clear HS;go_wp2_with fail
           go_roundw
           case rel => exact ⟨i + 1, by omega, rfl, HN.out _⟩
           case measure => simp [intOf]; omega
          case neg =>
           have jj : ¬ (i : Int) < (n5 : Int) := by omega
           clear hml hin;go_wp2_with fail
           clear ci jj;have hml := HR6.out.1;unfold maxLen at hml;go_loopw [7] (fun iv wr => ∃ i : Nat, i ≤ n6 ∧ iv = .int .i64 (i : Int) ∧ Hid (SpQ Z Y (w.alloc (.cells #[.int .u64 bs, .slice o1 n1 c1, .slice o2 n2 c2, .slice o3 n3 c3, .slice o4 n4 c4, .slice o5 n5 c5, .slice o6 n6 c6, .slice o7 n7 c7, .slice o8 n8 c8, .int .i64 ms, .int .i64 st, .slice o11 n11 c11] 33)) wr)) (fun iv _ => n6 - (intOf iv).toNat)
           case atStart => exact ⟨0, Nat.zero_le _, rfl, HS⟩
           case round =>
            clear HS;obtain ⟨i, hi, rfl, HS⟩ := hrel;have ci := HC6.out _ HS.out
            by_cases hin : i < n6
            case pos =>
             have jj : (i : Int) < (n6 : Int) := by omega
             have hw1 : IntKind.i64.wrap ((i : Int) + 1) = ((i + 1 : Nat) : Int) := by rw [IntKind.wrap_i64]; omega
             obtain ⟨b, o, ho, hb1, hb2, ⟨x, hx⟩, hf⟩ := (HR6.out.sp HS.out).2 i hin;subst ho;clear HC1 HC2 HC3 HC4 HC5 HC6 HC7 HC8 HC11 HR1 HR2 HR3 HR4 HR5 HR6 HR7 HR11 HP8 HEnd;have HN := Lib.hid (fun y => HS.out.set hb1 hb2 hx y);clear HS;go_wp2_with fail
             go_roundw
             case rel => exact ⟨i + 1, by omega, rfl, HN.out _⟩
             case measure => simp [intOf]; omega
            case neg =>
             have jj : ¬ (i : Int) < (n6 : Int) := by omega
             clear hml hin;go_wp2_with fail
             clear ci jj;have hml := HR7.out.1;unfold maxLen at hml;go_loopw [8] (fun iv wr => ∃ i : Nat, i ≤ n7 ∧ iv = .int .i64 (i : Int) ∧ Hid (SpQ Z Y (w.alloc (.cells #[.int .u64 bs, .slice o1 n1 c1, .slice o2 n2 c2, .slice o3 n3 c3, .slice o4 n4 c4, .slice o5 n5 c5, .slice o6 n6 c6, .slice o7 n7 c7, .slice o8 n8 c8, .int .i64 ms, .int .i64 st, .slice o11 n11 c11] 33)) wr)) (fun iv _ => n7 - (intOf iv).toNat)
             case atStart => exact ⟨0, Nat.zero_le _, rfl, HS⟩
             case round =>
              clear HS;obtain ⟨i, hi, rfl, HS⟩ := hrel;have ci := HC7.out _ HS.out
              by_cases hin : i < n7
              case pos =>
               have jj : (i : Int) < (n7 : Int) := by omega
               have hw1 : IntKind.i64.wrap ((i : Int) + 1) = ((i + 1 : Nat) : Int) := by rw [IntKind.wrap_i64]; omega
               obtain ⟨b, o, ho, hb1, hb2, ⟨x, hx⟩, hf⟩ := (HR7.out.sp HS.out).2 i hin;subst ho;clear HC1 HC2 HC3 HC4 HC5 HC6 HC7 HC8 HC11 HR1 HR2 HR3 HR4 HR5 HR6 HR7 HR11 HP8 HEnd;have HN := Lib.hid (fun y => HS.out.set hb1 hb2 hx y);clear HS;go_wp2_with fail
               go_roundw
               case rel => exact ⟨i + 1, by omega, rfl, HN.out _⟩
               case measure => simp [intOf]; omega
              case neg =>
               have jj : ¬ (i : Int) < (n7 : Int) := by omega
               clear hml hin;go_wp2_with fail
               clear ci jj;have hml := HR11.out.1;unfold maxLen at hml;go_loopw [9] (fun iv wr => ∃ i : Nat, i ≤ n11 ∧ iv = .int .i64 (i : Int) ∧ Hid (SpQ Z Y (w.alloc (.cells #[.int .u64 bs, .slice o1 n1 c1, .slice o2 n2 c2, .slice o3 n3 c3, .slice o4 n4 c4, .slice o5 n5 c5, .slice o6 n6 c6, .slice o7 n7 c7, .slice o8 n8 c8, .int .i64 ms, .int .i64 st, .slice o11 n11 c11] 33)) wr)) (fun iv _ => n11 - (intOf iv).toNat)
               case atStart => exact ⟨0, Nat.zero_le _, rfl, HS⟩
               case round =>
                clear HS;obtain ⟨i, hi, rfl, HS⟩ := hrel;have ci := HC11.out _ HS.out
                by_cases hin : i < n11
                case pos =>
                 have jj : (i : Int) < (n11 : Int) := by omega
                 have hw1 : IntKind.i64.wrap ((i : Int) + 1) = ((i + 1 : Nat) : Int) := by rw [IntKind.wrap_i64]; omega
                 obtain ⟨b, o, ho, hb1, hb2, ⟨x, hx⟩, hf⟩ := (HR11.out.sp HS.out).2 i hin;subst ho;clear HC1 HC2 HC3 HC4 HC5 HC6 HC7 HC8 HC11 HR1 HR2 HR3 HR4 HR5 HR6 HR7 HR11 HP8 HEnd;rw [Nat.add_zero] at hx hf;have hxd : World.cell? (World.drew wr) ⟨b, o + i * 512, none⟩ = some (.int .u64 x) := hx;have hfd : World.frozen? (World.drew wr) ⟨b, o + i * 512, none⟩ = false := hf;have cid := HS.out.drew;have HN := Lib.hid (fun y => (HS.out.set hb1 hb2 hx y).drew);have HN2 := Lib.hid (fun y => HS.out.drew.set hb1 hb2 hxd y);clear HS cid;go_wp2_with fail
                 go_region
                 all_goals
                  go_wp2_with fail
                  go_roundw
                  case rel => exact ⟨i + 1, by omega, rfl, by first | exact HN.out _ | exact HN2.out _⟩
                  case measure => simp [intOf]; omega
                case neg =>
                 have jj : ¬ (i : Int) < (n11 : Int) := by omega
                 clear hml hin;go_wp2_with fail
                 clear ci jj;have hml := HP8.out.1;unfold maxLen at hml;go_loopw [10, 11, 12] (fun jv _ _ wr => ∃ j : Nat, j ≤ n8 ∧ jv = .int .i64 (j : Int) ∧ Hid (SpQ Z Y (w.alloc (.cells #[.int .u64 bs, .slice o1 n1 c1, .slice o2 n2 c2, .slice o3 n3 c3, .slice o4 n4 c4, .slice o5 n5 c5, .slice o6 n6 c6, .slice o7 n7 c7, .slice o8 n8 c8, .int .i64 ms, .int .i64 st, .slice o11 n11 c11] 33)) wr)) (fun jv _ _ _ => n8 - (intOf jv).toNat)
                 case atStart => exact ⟨0, Nat.zero_le _, rfl, HS⟩
                 case round =>
                  clear HS;obtain ⟨j, hj, rfl, HS⟩ := hrel;have ci := HC8.out _ HS.out
                  by_cases hjn : j < n8
                  case pos =>
                   have jj : (j : Int) < (n8 : Int) := by omega
                   have hwj : IntKind.i64.wrap ((j : Int) + 1) = ((j + 1 : Nat) : Int) := by rw [IntKind.wrap_i64]; omega
                   obtain ⟨b, o, ho, hb1, hb2, ⟨x0, hx0⟩, hf0, lo, ln, lc, hlc, hla⟩ := HP8.out.2 j hjn;subst ho;have HX0 : Hid (∀ W, SpQ Z Y (w.alloc (.cells #[.int .u64 bs, .slice o1 n1 c1, .slice o2 n2 c2, .slice o3 n3 c3, .slice o4 n4 c4, .slice o5 n5 c5, .slice o6 n6 c6, .slice o7 n7 c7, .slice (some ⟨b, o, none⟩) n8 c8, .int .i64 ms, .int .i64 st, .slice o11 n11 c11] 33)) W → (∃ x, W.cell? ⟨b, o + j * 2, none⟩ = some (.int .i64 x)) ∧ W.frozen? ⟨b, o + j * 2, none⟩ = false ∧ W.cell? ⟨b, o + j * 2 + 1, none⟩ = some (.slice lo ln lc) ∧ LaR Z Y W lo ln) := fun W hW => by
                    obtain ⟨u, hu, hm⟩ := hW.cl _ _ _ hx0;obtain ⟨y, rfl⟩ := hm.int;obtain ⟨u2, hu2, hm2⟩ := hW.cl _ _ _ hlc;obtain rfl := hm2.sl;exact ⟨⟨y, hu⟩, (hW.fz _).trans hf0, hu2, hla.sp hW⟩
                   have hll := hla.1;unfold maxLen at hll;have HBB : Hid (Z ≤ b ∧ b < Y) := ⟨hb1, hb2⟩
                   clear hx0 hf0 hlc hla hb1 hb2 HP8 HEnd;go_wp2_with fail
                   clear ci;go_loopw [11, 12] (fun kv _ wr => ∃ k : Nat, k ≤ ln ∧ kv = .int .i64 (k : Int) ∧ Hid (SpQ Z Y (w.alloc (.cells #[.int .u64 bs, .slice o1 n1 c1, .slice o2 n2 c2, .slice o3 n3 c3, .slice o4 n4 c4, .slice o5 n5 c5, .slice o6 n6 c6, .slice o7 n7 c7, .slice (some ⟨b, o, none⟩) n8 c8, .int .i64 ms, .int .i64 st, .slice o11 n11 c11] 33)) wr)) (fun kv _ _ => ln - (intOf kv).toNat)
                   case atStart => exact ⟨0, Nat.zero_le _, rfl, HS⟩
                   case round =>
                    clear HS;obtain ⟨k, hk, rfl, HS⟩ := hrel;have ci := HC8.out _ HS.out;obtain ⟨⟨x0, hx0⟩, hf0, hlc, hla⟩ := HX0.out _ HS.out
                    by_cases hkn : k < ln
                    case pos =>
                     have kk : (k : Int) < (ln : Int) := by omega
                     have hwk : IntKind.i64.wrap ((k : Int) + 1) = ((k + 1 : Nat) : Int) := by rw [IntKind.wrap_i64]; omega
                     obtain ⟨kb, ko, ho, hb3, tq, tn, tc, htc, htr⟩ := hla.2 k hkn;subst ho;clear hx0 hf0 hla;have HX2 : Hid (∀ W, SpQ Z Y wr W → W.cell? ⟨kb, ko + k, none⟩ = some (.slice tq tn tc) ∧ Rw Z Y 2 1 .i64 W tq tn ∧ W.cell? ⟨b, o + j * 2 + 1, none⟩ = some (.slice (some ⟨kb, ko, none⟩) ln lc) ∧ W.cell? ⟨w.heap.size, 8, none⟩ = some (.slice (some ⟨b, o, none⟩) n8 c8)) := fun W hW => by
                      obtain ⟨u, hu, hm⟩ := hW.cl _ _ _ htc;obtain rfl := hm.sl;obtain ⟨u2, hu2, hm2⟩ := hW.cl _ _ _ hlc;obtain rfl := hm2.sl;obtain ⟨u3, hu3, hm3⟩ := hW.cl _ _ _ ci;obtain rfl := hm3.sl;exact ⟨hu, htr.sp hW, hu2, hu3⟩
                     have htl := htr.1;unfold maxLen at htl;have HS2 : Hid (SpQ Z Y wr wr) := SpQ.refl _ _ _;have HSt : Hid (∀ W, SpQ Z Y wr W → SpQ Z Y (w.alloc (.cells #[.int .u64 bs, .slice o1 n1 c1, .slice o2 n2 c2, .slice o3 n3 c3, .slice o4 n4 c4, .slice o5 n5 c5, .slice o6 n6 c6, .slice o7 n7 c7, .slice (some ⟨b, o, none⟩) n8 c8, .int .i64 ms, .int .i64 st, .slice o11 n11 c11] 33)) W) := fun W hW => HS.out.trans hW;clear HS HC8 HX0 htc htr;go_wp2_with fail
                     clear ci hlc;go_loopw [12] (fun xv wq => ∃ x : Nat, x ≤ tn ∧ xv = .int .i64 (x : Int) ∧ Hid (SpQ Z Y wr wq)) (fun xv _ => tn - (intOf xv).toNat)
                     case atStart => exact ⟨0, Nat.zero_le _, rfl, HS2⟩
                     case round =>
                      clear HS2;obtain ⟨x, hx, rfl, HS⟩ := hrel;obtain ⟨e1, e2, e3, e4⟩ := HX2.out _ HS.out
                      by_cases hxn : x < tn
                      case pos =>
                       have xx : (x : Int) < (tn : Int) := by omega
                       have hwx : IntKind.i64.wrap ((x : Int) + 1) = ((x + 1 : Nat) : Int) := by rw [IntKind.wrap_i64]; omega
                       obtain ⟨b3, o3, ho, h5, h6, ⟨y, h7⟩, h8⟩ := e2.2 x hxn;subst ho;have HN := Lib.hid (fun z => HS.out.set h5 h6 h7 z);clear HS HX2 e2;go_wp2_with fail
                       go_roundw
                       case rel => exact ⟨x + 1, by omega, rfl, HN.out _⟩
                       case measure => simp [intOf]; omega
                      case neg =>
                       have xx : ¬ (x : Int) < (tn : Int) := by omega
                       have HN := Lib.hid (HSt.out _ HS.out);clear HS HX2 HSt e2;go_wp2_with fail
                       go_roundw
                       case rel => exact ⟨k + 1, by omega, rfl, HN⟩
                       case measure => simp [intOf]; omega
                    case neg =>
                     have kk : ¬ (k : Int) < (ln : Int) := by omega
                     have HN := Lib.hid (fun z => HS.out.set HBB.out.1 HBB.out.2 hx0 z);clear HS HC8 HX0 hla;go_wp2_with fail
                     go_roundw
                     case rel => exact ⟨j + 1, by omega, rfl, HN.out _⟩
                     case measure => simp [intOf]; omega
                  case neg =>
                   have jj : ¬ (j : Int) < (n8 : Int) := by omega
                   have HF := Lib.hid (HEnd.out _ HS.out);clear HS HC8 HP8 HEnd;go_wp2_with fail
                   go_end0
                   exact ⟨rfl, HF.out⟩
end Go.Proofs.YtmfkggngjeolcaaGreatDoor
namespace Go.Proofs.YtmfkggngjeolcaaGreatDoor
open Go.RowKit Bn Dc
namespace Dc
def prA (bs : List Nat) (k : Nat) : A := partsA (hd0 bs).E bs k (headA bs)
theorem pr_zero {bs : List Nat} : ∀ {k : Nat}, (prA bs k).why = 0 → (headA bs).why = 0
 | 0, h => h
 | k + 1, h => by
  by_cases e : (prA bs k).why = 0
  ·exact pr_zero e
  ·rw [show prA bs (k + 1) = prA bs k from partsA_stop (k := k) e (k + 1) (by omega)] at h;exact absurd h e
theorem end_zero {q : Pt} {s : D} (h : (endD q s).why = 0) : s.why = 0 ∧ s.rw = 0 ∧ s.pos = q.Z.length := by
 obtain ⟨h1, h2⟩ := ask_zero' (by decide) h;exact ⟨h2, of_decide_eq_true h1⟩
theorem head_ok {bs : List Nat} (h : (headA bs).why = 0) : bs.length ≤ 4194304 ∧ ∀ j, 1 ≤ j → j ≤ 8 → okD (hd0 bs).E bs.length j = true := by
 have h1 := seal_zero 8 (end_zero h).1;obtain ⟨h2, h3⟩ := dirS_ok 8 h1;have h4 := asks_zero h2;exact ⟨by omega, h3⟩
theorem dec_at {bs : List Nat} (h : 160 ≤ bs.length) {k : Nat} (hk : k ≤ 8) (hy : (prA bs k).why ≠ 0) : decA bs = prA bs k := by
 rw [decA, if_neg (by omega)];exact partsA_stop hy 8 hk
theorem dec_all {bs : List Nat} (h : 160 ≤ bs.length) : decA bs = prA bs 8 := by rw [decA, if_neg (by omega)]; rfl
theorem pr_next {bs : List Nat} {k : Nat} (h : (prA bs k).why = 0) : prA bs (k + 1) = ⟨(secD (k + 1) (qOf (hd0 bs).E bs (k + 1)) (prA bs k).J (startD (prA bs k))).1, (endD (qOf (hd0 bs).E bs (k + 1)) (secD (k + 1) (qOf (hd0 bs).E bs (k + 1)) (prA bs k).J (startD (prA bs k))).2).why, (endD (qOf (hd0 bs).E bs (k + 1)) (secD (k + 1) (qOf (hd0 bs).E bs (k + 1)) (prA bs k).J (startD (prA bs k))).2).sec, (endD (qOf (hd0 bs).E bs (k + 1)) (secD (k + 1) (qOf (hd0 bs).E bs (k + 1)) (prA bs k).J (startD (prA bs k))).2).ad⟩ := by
 show partA (hd0 bs).E bs (k + 1) (prA bs k) = _
 rw [partA, if_neg (fun e => e h)]
end Dc
def funR (kb : Nat) : Array Value := #[Value.func (.func 113) #[.pointer (some ⟨kb, 0, none⟩)] #[], Value.func (.func 114) #[.pointer (some ⟨kb, 0, none⟩)] #[], Value.func (.func 115) #[.pointer (some ⟨kb, 0, none⟩)] #[], Value.func (.func 116) #[.pointer (some ⟨kb, 0, none⟩)] #[], Value.func (.func 117) #[.pointer (some ⟨kb, 0, none⟩)] #[], Value.func (.func 118) #[.pointer (some ⟨kb, 0, none⟩)] #[], Value.func (.func 119) #[.pointer (some ⟨kb, 0, none⟩)] #[], Value.func (.func 120) #[.pointer (some ⟨kb, 0, none⟩)] #[], Value.func (.func 121) #[.pointer (some ⟨kb, 0, none⟩)] #[]]
theorem info_r (kb : Nat) : (Tryz.prog.info? 123).map (·.size) = some (funR kb).size := by kernel_rfl
theorem funR_one (kb : Nat) : (funR kb).all (·.oneCell') = true := by kernel_rfl
def nilR : Array Value := #[.nilFunc, .nilFunc, .nilFunc, .nilFunc, .nilFunc, .nilFunc, .nilFunc, .nilFunc, .nilFunc]
def rdFn : Nat → FuncId
 | 0 => 113
 | 1 => 114
 | 2 => 115
 | 3 => 116
 | 4 => 117
 | 5 => 118
 | 6 => 119
 | 7 => 120
 | _ => 121
theorem funR_at (kb i : Nat) (h : i < 9) (W : World) : (Instr.index 123 (.agg (funR kb)) (.int .i64 (i : Int))).run Tryz.prog W = .ok (.func (.func (rdFn i)) #[.pointer (some ⟨kb, 0, none⟩)] #[]) W := by
 have hu := Tryz.underlying123;have hz : (Tryz.prog.info? 1).map (·.size) = some 1 := by kernel_rfl
 have hb := Tryz.underlying1;obtain ⟨j, hi1, hi2⟩ := Option.map_eq_some_iff.1 hz;rcases (by omega : i = 0 ∨ i = 1 ∨ i = 2 ∨ i = 3 ∨ i = 4 ∨ i = 5 ∨ i = 6 ∨ i = 7 ∨ i = 8) with rfl | rfl | rfl | rfl | rfl | rfl | rfl | rfl | rfl <;> simp [Instr.index, run_underlying hu, asIntOf, sizeOf, typeInfo, hi1, hi2, part, isAgg, run_underlying hb, funR, rdFn, go_sem]
theorem rdEn {i : Nat} (h9 : i < 9) : ∀ (args : Array Value) (w : World), (callFunc (rdFn i) args).run Tryz.prog w = .ok (.enter (rdFn i) args) w := by
 rcases (by omega : i = 0 ∨ i = 1 ∨ i = 2 ∨ i = 3 ∨ i = 4 ∨ i = 5 ∨ i = 6 ∨ i = 7 ∨ i = 8) with rfl | rfl | rfl | rfl | rfl | rfl | rfl | rfl | rfl
 ·exact enters_of Tryz.func113 (by kernel_rfl) rfl
 ·exact enters_of Tryz.func114 (by kernel_rfl) rfl
 ·exact enters_of Tryz.func115 (by kernel_rfl) rfl
 ·exact enters_of Tryz.func116 (by kernel_rfl) rfl
 ·exact enters_of Tryz.func117 (by kernel_rfl) rfl
 ·exact enters_of Tryz.func118 (by kernel_rfl) rfl
 ·exact enters_of Tryz.func119 (by kernel_rfl) rfl
 ·exact enters_of Tryz.func120 (by kernel_rfl) rfl
 ·exact enters_of Tryz.func121 (by kernel_rfl) rfl
theorem secQ {B kb : Nat} {raw : Value} {im en : List Value} {q : Pt} {p g : Nat} {w0 : World} {s : D} {w : World} {J : Im} {i : Nat} (h1 : 1 ≤ i) (h8 : i ≤ 8) (h : Dt B kb raw im en q p g w0 s w) (hJ : ImD B w im J) (hz : q.Z.length ≤ 4194304000) : Calls Tryz.prog (rdFn i) #[.pointer (some ⟨kb, 0, none⟩)] w fun e w' => e = .returned (.tuple #[]) ∧ SecQ i B kb raw en q p g w0 J s w' := by
 rcases (by omega : i = 1 ∨ i = 2 ∨ i = 3 ∨ i = 4 ∨ i = 5 ∨ i = 6 ∨ i = 7 ∨ i = 8) with rfl | rfl | rfl | rfl | rfl | rfl | rfl | rfl
 ·exact sec1Q h hJ
 ·exact sec2Q h hJ
 ·exact sec3Q h hJ
 ·exact sec4Q h hJ
 ·exact sec5Q h hJ
 ·exact sec6Q h hJ
 ·exact sec7Q h hJ
 ·exact sec8Q h hJ hz
def AtI (B kb : Nat) (raw : Value) (bs : List Nat) (w0 : World) (i : Nat) (wr : World) : Prop :=
 (i = 0 ∧ Dn B kb raw im0 (en0.set 3 (.int .i64 160)) 0 (.pointer none) w0 0 0 0 wr) ∨ (1 ≤ i ∧ (prA bs (i - 1)).why = 0 ∧ ∃ im en pt pv, EnR en (hd0 bs).E ∧ ImD B wr im (prA bs (i - 1)).J ∧ Dn B kb raw im en pt pv w0 0 (prA bs (i - 1)).sec (prA bs (i - 1)).ad wr)
def AllQ (B kb : Nat) (raw : Value) (bs : List Nat) (w0 : World) (w' : World) : Prop := ∃ im en pt pv, Dn B kb raw im en pt pv w0 (decA bs).why (decA bs).sec (decA bs).ad w' ∧ ((decA bs).why = 0 → ImD B w' im (decA bs).J)
section
variable {B kb : Nat} {raw : Value} {im en : List Value} {pt : Int} {pv : Value} {q : Pt} {p g : Nat} {w0 : World} {s : D} {w w' : World} {why sec ad : Int}
theorem atI_next {bs : List Nat} {k : Nat} {J : Im} {im : List Value} (hk : prA bs k = ⟨J, why, sec, ad⟩) (hy : why = 0) (hE : EnR en (hd0 bs).E) (hI : ImD B w im J) (hD : Dn B kb raw im en pt pv w0 why sec ad w) : AtI B kb raw bs w0 (k + 1) w := by
 subst hy;refine Or.inr ⟨by omega, ?_, im, en, pt, pv, hE, ?_, ?_⟩
 ·show (prA bs k).why = 0
  rw [hk]
 ·show ImD B w im (prA bs k).J
  rw [hk];exact hI
 ·show Dn B kb raw im en pt pv w0 0 (prA bs k).sec (prA bs k).ad w
  rw [hk];exact hD
theorem allQ_of {bs : List Nat} {k : Nat} {J : Im} {im : List Value} (h160 : 160 ≤ bs.length) (h8 : k ≤ 8) (hk : prA bs k = ⟨J, why, sec, ad⟩) (hy : why ≠ 0) (hD : Dn B kb raw im en pt pv w0 why sec ad w) : AllQ B kb raw bs w0 w := by
 have hd : decA bs = prA bs k := dec_at h160 h8 (by rw [hk]; exact hy);refine ⟨im, en, pt, pv, ?_, fun h => ?_⟩
 ·rw [hd, hk];exact hD
 ·rw [hd, hk] at h;exact absurd h hy
theorem Dn.here (h : Dn B kb raw im en pt pv w0 why sec ad w) : Dn B kb raw im en pt pv w why sec ad w := ⟨h.blk, h.him, h.hen, h.hB, Fd.refl _ _⟩
theorem openR {bs : List Nat} {k f l : Nat} {c : Int} (h : Dn B kb raw im en pt pv w0 why sec ad w) (hraw : ∀ W, Fd B w0 W → Sl W raw bs) (hk : k ≤ 8) (he : EnAt en k f l c) (hfl : f + l ≤ bs.length) (hz : f + l ≤ 1099511627776) :
  Calls Tryz.prog 122 #[.pointer (some ⟨kb, 0, none⟩), .int .i64 (k : Int)] w fun e w' => e = .returned (.tuple #[]) ∧ ∃ p g, Dt B kb raw im en ⟨k, f, (bs.drop f).take l⟩ p g w0 ⟨0, 0, why, sec, ad⟩ w' ∧ Fd B w w' :=
 (openX h.here (fun W hW => hraw W (h.fr.trans hW)) hk he hfl hz).mono (fun e w' ⟨he, p, g, hd, _⟩ => ⟨he, p, g, hd.since h.fr, hd.fr⟩)
theorem endX1 (h : Dt B kb raw im en q p g w0 s w) {bb : Bool} (hb : decide (s.rw = 0 ∧ s.pos = q.Z.length) = bb) : Calls Tryz.prog 124 #[.pointer (some ⟨p, 0, none⟩)] w fun e w' => ∃ r : Int, e = .returned (.int .i64 r) ∧ (r == 0) = bb ∧ Dt B kb raw im en q p g w0 s w' :=
 (rendX h).mono (fun e w' ⟨r, he, hr, hd⟩ => ⟨r, he, by
  rw [← hb]
  by_cases e : r = 0
  ·rw [decide_eq_true (hr.1 e), e]; rfl
  ·rw [decide_eq_false (fun h => e (hr.2 h))]; exact beq_eq_false_iff_ne.2 e, hd⟩)
theorem Dt.pos_le (h : Dt B kb raw im en q p g w0 s w) : s.pos ≤ 1099511627776 := by
 have h8 : s.pos ≤ q.Z.length := h.rd.2.2.2.1;have := h.hlen;omega
theorem dallX {bs : List Nat} {rb ro cap : Nat} (h : Dn B kb (.slice (some ⟨rb, ro, none⟩) bs.length cap) im0 en0 0 (.pointer none) w0 0 0 0 w) (hsz : 160 ≤ bs.length) (hraw : ∀ W, Fd B w0 W → Sl W (.slice (some ⟨rb, ro, none⟩) bs.length cap) bs) (ht : ∀ W, Fd B w0 W → Tab W) : Calls Tryz.prog 78 #[.pointer (some ⟨kb, 0, none⟩)] w fun e w' => e = .returned (.tuple #[]) ∧ AllQ B kb (.slice (some ⟨rb, ro, none⟩) bs.length cap) bs w0 w' := by
 have HRw := Lib.hid hraw;have HTb := Lib.hid ht;have HSz : Hid (160 ≤ bs.length) := hsz;have hb1 : Below w.heap.size w ((w.alloc (.cells nilR 123)).setRow w.heap.size (funR kb)) := ((Below.refl _ _).alloc (Nat.le_refl _) _).trans (below_setRow _ _ _ _ (Nat.le_refl _));have HZ0 : Hid ((w.alloc (.cells nilR 123)).heap[w.heap.size]? = some (.cells nilR 123 (0, 0))) := heap_alloc_new w _;have HZ1 : Hid (((w.alloc (.cells nilR 123)).setRow w.heap.size (funR kb)).heap[w.heap.size]? = some (.cells (funR kb) 123 (0, 0))) := setRow_heap _ _ _ _ _ _ HZ0.out;have H1 : Hid (Dn B kb (.slice (some ⟨rb, ro, none⟩) bs.length cap) im0 en0 0 (.pointer none) w0 0 0 0 ((w.alloc (.cells nilR 123)).setRow w.heap.size (funR kb))) := h.below hb1;have hne : kb ≠ w.heap.size := by have := h.lt; omega
 have HNe : Hid (kb ≠ w.heap.size) := hne;clear h hraw ht hb1 hne;obtain ⟨W1, hW1⟩ : ∃ W, (w.alloc (.cells nilR 123)).setRow w.heap.size (funR kb) = W := ⟨_, rfl⟩
 rw [hW1] at H1 HZ1;go_enter Tryz.func78, Tryz.ntmps78
 go_upto_region 1 with (refine wpList_store_arr rfl 123 (.tmp 2) (.tmp 23) rfl (b := w.heap.size) (Z := nilR) (g := funR kb) rfl rfl rfl HZ0.out (info_r kb) rfl (funR_one kb) ?_)
 unfold nilR at hW1;simp only [hW1];clear hW1 HZ0;have c0 : W1.drew.cell? ⟨kb, 0, none⟩ = some (.slice (some ⟨rb, ro, none⟩) bs.length cap) := H1.out.drew.cell 0;have c16 : W1.drew.cell? ⟨kb, 16, none⟩ = some (.int .i64 0) := H1.out.drew.cell 16;have f16 : W1.drew.frozen? ⟨kb, 16, none⟩ = false := H1.out.drew.free 16;have j1 : (160 : Int) ≤ (bs.length : Int) := by omega
 have j2 : min (160 : Int) (bs.length : Int) = 160 := by omega
 have H2 : Hid (Dn B kb (.slice (some ⟨rb, ro, none⟩) bs.length cap) im0 (en0.set 3 (.int .i64 160)) 0 (.pointer none) w0 0 0 0 (W1.drew.setCell ⟨kb, 16, none⟩ (.int .i64 160))) := Dn.set H1.out.drew (i := 16) rfl rfl rfl;have HZ2 : Hid ((W1.drew.setCell ⟨kb, 16, none⟩ (.int .i64 160)).heap[w.heap.size]? = some (.cells (funR kb) 123 (0, 0))) := show _ = _ by
  have h9 := HZ1.out;have hn := HNe.out;have h8 : W1.drew.heap[w.heap.size]? = some (.cells (funR kb) 123 (0, 0)) := h9;simp only [World.setCell, Array.getElem?_modify];rw [if_neg hn];exact h8
 clear H1 HZ1;go_cut [] (fun wx => wx = W1.drew.setCell ⟨kb, 16, none⟩ (.int .i64 160))
 case first =>
  go_region
  all_goals
   go_wp2_with fail
   go_meet
   rfl
 case rest =>
  obtain rfl := hcut;generalize W1.drew.setCell ⟨kb, 16, none⟩ (.int .i64 160) = W2 at *;clear c0 c16 f16;go_wp2_with (refine wpList_load_arr rfl 123 (.tmp 2) rfl (b := w.heap.size) (g := funR kb) rfl HZ2.out Tryz.underlying123 rfl (info_r kb) ?_)
  clear HZ2;go_loopw [36] (fun iv wr => ∃ i : Nat, i ≤ 9 ∧ iv = .int .i64 (i : Int) ∧ Hid (AtI B kb (.slice (some ⟨rb, ro, none⟩) bs.length cap) bs w0 i wr)) (fun iv _ => 9 - (intOf iv).toNat)
  case atStart => exact ⟨0, by decide, rfl, .inl ⟨rfl, H2.out⟩⟩
  case round =>
   clear H2;obtain ⟨i, hi, rfl, HI⟩ := hrel
   by_cases h9 : i = 9
   ·subst h9;rcases HI.out with ⟨h, _⟩ | ⟨_, hy, im, en, pt, pv, hE, hI, hD⟩
    ·cases h
    have HF : Hid (AllQ B kb (.slice (some ⟨rb, ro, none⟩) bs.length cap) bs w0 wr) := Lib.hid (by
     refine ⟨im, en, pt, pv, ?_, ?_⟩
     ·rw [dec_all HSz.out, show (prA bs 8).why = 0 from hy];exact hD
     ·intro _;rw [dec_all HSz.out];exact hI)
    clear HI hE hI hD;go_wp2_with fail
    go_end0
    exact ⟨rfl, HF.out⟩
   by_cases h0 : i = 0
   ·subst h0;have hD : Dn B kb (.slice (some ⟨rb, ro, none⟩) bs.length cap) im0 (en0.set 3 (.int .i64 160)) 0 (.pointer none) w0 0 0 0 wr := by
     rcases HI.out with ⟨_, h⟩ | ⟨h, _⟩
     ·exact h
     ·cases h
    have HO := Lib.hid (openR hD HRw.out (k := 0) (f := 0) (l := 160) (c := 0) (by decide) ⟨rfl, rfl, rfl, rfl, rfl⟩ (by have := HSz.out; omega) (by decide));obtain ⟨sE, hsE⟩ : ∃ t, headS bs = t := ⟨_, rfl⟩
    obtain ⟨bA, hbA⟩ : ∃ t, (hd0 bs).x.base = t := ⟨_, rfl⟩
    obtain ⟨q, hq⟩ : ∃ t, hq bs = t := ⟨_, rfl⟩
    have HR : Hid (∀ W p g, Dt B kb (.slice (some ⟨rb, ro, none⟩) bs.length cap) im0 (en0.set 3 (.int .i64 160)) q p g w0 ⟨0, 0, 0, 0, 0⟩ W → Calls Tryz.prog 113 #[.pointer (some ⟨kb, 0, none⟩)] W fun e w' => e = .returned (.tuple #[]) ∧ ∃ en, EnR en (hd0 bs).E ∧ Dt B kb (.slice (some ⟨rb, ro, none⟩) bs.length cap) (im0.set 0 (.int .u64 (bA : Nat))) en q p g w0 sE w') := fun W p g hW => by
     rw [← hq] at hW;have h9 := headerX hW rfl HSz.out HRw.out HTb.out;rw [← hsE, ← hbA, ← hq];exact h9
    have HSec : Hid (∀ W im en p g s', Dt B kb (.slice (some ⟨rb, ro, none⟩) bs.length cap) im en q p g w0 s' W → True) := fun _ _ _ _ _ _ _ => trivial;have HP : Hid (prA bs 0 = ⟨{ zeroI with base := bA }, (endD q sE).why, (endD q sE).sec, (endD q sE).ad⟩) := show _ = _ by
     rw [← hbA, ← hsE, ← hq]
     rfl
    have HJ : Hid (∀ W, ImD B W (im0.set 0 (.int .u64 (bA : Nat))) { zeroI with base := bA }) := fun W => ImD.zero B W bA;have hx9 : ∀ W, (Instr.index 123 (.agg (funR kb)) (.int .i64 0)).run Tryz.prog W = .ok (.func (.func 113) #[.pointer (some ⟨kb, 0, none⟩)] #[]) W := funR_at kb 0 (by decide);rw [show (⟨0, 0, (bs.drop 0).take 160⟩ : Pt) = q from hq] at HO;clear HI hD hsE hbA hq HSec;go_wp2_with fail
    refine HO.out.mono ?_;rintro e w1 ⟨rfl, p, g, h1, hf1⟩;have HR1 := Lib.hid (HR.out _ _ _ h1);clear h1 hf1 HO HR;go_wp2_with fail
    refine HR1.out.mono ?_;rintro e w2 ⟨rfl, en, hE, h2⟩;have HE := Lib.hid hE;have HD := Lib.hid h2.drew;clear hE HR1;obtain ⟨bb, hbb⟩ : ∃ b, decide (sE.rw = 0 ∧ sE.pos = q.Z.length) = b := ⟨_, rfl⟩
    obtain ⟨ps, hps⟩ : ∃ b, sE.pos = b := ⟨_, rfl⟩
    have hpl := h2.pos_le;rw [hps] at hpl;have HpL : Hid (ps ≤ 1099511627776) := hpl;obtain ⟨sF, hsF⟩ : ∃ t, endD q sE = t := ⟨_, rfl⟩
    have KE : Hid (∀ W, Dt B kb (.slice (some ⟨rb, ro, none⟩) bs.length cap) (im0.set 0 (.int .u64 (bA : Nat))) en q p g w2 sE W → Calls Tryz.prog 124 #[.pointer (some ⟨p, 0, none⟩)] W fun e w' => ∃ r : Int, e = .returned (.int .i64 r) ∧ (r == 0) = bb ∧ Dt B kb (.slice (some ⟨rb, ro, none⟩) bs.length cap) (im0.set 0 (.int .u64 (bA : Nat))) en q p g w2 sE w') := fun W hW => endX1 hW hbb;have KA : Hid (∀ W, Dt B kb (.slice (some ⟨rb, ro, none⟩) bs.length cap) (im0.set 0 (.int .u64 (bA : Nat))) en q p g w2 sE W → Calls Tryz.prog 125 #[.pointer (some ⟨p, 0, none⟩)] W fun e w' => e = .returned (.int .i64 (ps : Int)) ∧ w' = W) := fun W hW => by rw [← hps]; exact rat_any hW.rd
    have KF : Hid (∀ W, Dt B kb (.slice (some ⟨rb, ro, none⟩) bs.length cap) (im0.set 0 (.int .u64 (bA : Nat))) en q p g w2 sE W → Calls Tryz.prog 123 #[.pointer (some ⟨kb, 0, none⟩), .bool bb, .int .i64 (ps : Int)] W fun e w' => e = .returned (.tuple #[]) ∧ Dt B kb (.slice (some ⟨rb, ro, none⟩) bs.length cap) (im0.set 0 (.int .u64 (bA : Nat))) en q p g w2 sF w') := fun W hW => by
     have h9 := dformX hW bb (a := ps) HpL.out;rw [← hsF, endD, hbb, hps];exact h9
    have HD2 : Hid (Dt B kb (.slice (some ⟨rb, ro, none⟩) bs.length cap) (im0.set 0 (.int .u64 (bA : Nat))) en q p g w2 sE w2.drew) := h2.here.drew;have HFr : Hid (Fd B w0 w2) := h2.fr;have c59 := HD2.out.c59;rw [hsF] at HP;clear h2 HD hbb hps hpl hsF HpL;go_wp2_with fail
    go_region_held3 (fun W => W.cell? ⟨kb, 59, none⟩ = some (.pointer (some ⟨p, 0, none⟩))) (first | (with_reducible assumption) | go_keep) (first | (go_at_call 124; refine (KE.out _ HD2.out).mono ?_; rintro e y1 ⟨r, rfl, hr, h1⟩; have HX := Lib.hid h1; have a59 := h1.c59; clear h1) | (go_at_call 125; (first | (refine (KA.out _ HX.out).mono ?_) | (refine (KA.out _ HD2.out).mono ?_)); rintro e y2 ⟨rfl, h9⟩; subst h9) | (go_at_call 123; refine (KF.out _ HX.out).mono ?_; rintro e y3 ⟨rfl, h3⟩; have HY := Lib.hid h3; have b59 := h3.c59; clear h3))
    all_goals
     have c62 := HY.out.c62;obtain ⟨wy, hwy⟩ : ∃ t, sF.why = t := ⟨_, rfl⟩
     rw [hwy] at c62
     by_cases hw0 : wy = 0
     ·subst hw0;have HF := Lib.hid (atI_next HP.out hwy HE.out (HJ.out _) (HY.out.since HFr.out).dn);clear HP HY HE HX HD2 KE KA KF a59 b59 c59 hwy HFr HJ;go_wp2_with fail
      go_roundw
      case rel => exact ⟨1, by decide, rfl, HF⟩
      case measure => simp [intOf]
     ·have HF := Lib.hid (allQ_of HSz.out (by decide) HP.out (show sF.why ≠ 0 from fun e => hw0 (hwy.symm.trans e)) (HY.out.since HFr.out).dn);clear HP HY HE HX HD2 KE KA KF a59 b59 c59 hwy HFr HJ;go_wp2_with fail
      refine bodyPost_ret (results_none rfl _ _ _) rfl ?_;exact ⟨rfl, HF.out⟩
   obtain ⟨k, hk⟩ : ∃ k, i = k + 1 := ⟨i - 1, by omega⟩
   have HK : Hid (i = k + 1) := hk;have hi8 : i ≤ 8 := by omega
   obtain ⟨F, hF⟩ : ∃ F, rdFn i = F := ⟨_, rfl⟩
   have hEF := @rdEn i (by omega);rw [hF] at hEF;obtain ⟨hy, im, en, pt, pv, hE, hI, hD⟩ : (prA bs k).why = 0 ∧ ∃ im en pt pv, EnR en (hd0 bs).E ∧ ImD B wr im (prA bs k).J ∧ Dn B kb (.slice (some ⟨rb, ro, none⟩) bs.length cap) im en pt pv w0 0 (prA bs k).sec (prA bs k).ad wr := by
    rcases HI.out with ⟨h, _⟩ | ⟨_, h⟩
    ·exact absurd h h0
    ·rw [show i - 1 = k by omega] at h;exact h
   obtain ⟨hN, hok⟩ := head_ok (pr_zero hy);obtain ⟨o1, o2, o3, o4, o5⟩ := ok_end (k := i) (by omega) (by omega) (hok i (by omega) (by omega));have hfl : ((hd0 bs).E i).f + ((hd0 bs).E i).l ≤ bs.length := by omega
   have HO := Lib.hid (openR hD HRw.out (k := i) (f := ((hd0 bs).E i).f) (l := ((hd0 bs).E i).l) (c := (((hd0 bs).E i).c : Nat)) (by omega) (by
    have h9 := hE i (by omega) (by omega);rw [o1, o2] at h9;exact h9) hfl (by omega))
   have HP0 := Lib.hid (pr_next hy);obtain ⟨x, hx⟩ : ∃ x, prA bs k = x := ⟨_, rfl⟩
   have hZl : (qOf (hd0 bs).E bs i).Z.length ≤ 4194304000 := by
    show ((bs.drop _).take _).length ≤ _
    rw [List.length_take, List.length_drop];omega
   obtain ⟨q, hq⟩ : ∃ q, qOf (hd0 bs).E bs i = q := ⟨_, rfl⟩
   rw [show (⟨i, ((hd0 bs).E i).f, (bs.drop ((hd0 bs).E i).f).take ((hd0 bs).E i).l⟩ : Pt) = q from hq] at HO;rw [hq] at hZl;rw [hx] at HO hI hy;rw [hx] at HP0;rw [← HK.out, hq] at HP0;have HIm := Lib.hid hI;have HE := Lib.hid hE;have hst : (⟨0, 0, 0, x.sec, x.ad⟩ : D) = startD x := by unfold startD; rw [hy]
   rw [hst] at HO;obtain ⟨J', s', hse⟩ : ∃ J' s', secD i q x.J (startD x) = (J', s') := ⟨_, _, rfl⟩
   have HP : Hid (prA bs i = ⟨J', (endD q s').why, (endD q s').sec, (endD q s').ad⟩) := show _ = _ by
    have h9 := HP0.out;rw [hse] at h9;exact h9
   have HR : Hid (∀ W p g, Dt B kb (.slice (some ⟨rb, ro, none⟩) bs.length cap) im en q p g w0 (startD x) W → ImD B W im x.J → Calls Tryz.prog F #[.pointer (some ⟨kb, 0, none⟩)] W fun e w' => e = .returned (.tuple #[]) ∧ ∃ im', ImD B w' im' J' ∧ Dt B kb (.slice (some ⟨rb, ro, none⟩) bs.length cap) im' en q p g w0 s' w') := fun W p g hW hJ => by
    have h9 := secQ (by omega) hi8 hW hJ hZl;rw [hF] at h9;unfold SecQ at h9;rw [hse] at h9;exact h9
   have hx9 : ∀ W, (Instr.index 123 (.agg (funR kb)) (.int .i64 (i : Int))).run Tryz.prog W = .ok (.func (.func F) #[.pointer (some ⟨kb, 0, none⟩)] #[]) W := fun W => hF ▸ funR_at kb i (by omega) W;clear hk HI hD hI hE hok o1 o2 o3 o4 o5 hfl HP0 hx hq hst hse hy hZl hN hF h0;go_wp2_with fail
   refine HO.out.mono ?_;rintro e w1 ⟨rfl, p, g, h1, hf1⟩;have HR1 := Lib.hid (HR.out _ _ _ h1 (HIm.out.fd hf1));clear h1 hf1 HO HR HIm;go_wp2_with fail
   refine HR1.out.mono ?_;rintro e w2 ⟨rfl, im', hJ2, h2⟩;have HJ2 := Lib.hid hJ2;have HD := Lib.hid h2.drew;clear hJ2 HR1;obtain ⟨bb, hbb⟩ : ∃ b, decide (s'.rw = 0 ∧ s'.pos = q.Z.length) = b := ⟨_, rfl⟩
   obtain ⟨ps, hps⟩ : ∃ b, s'.pos = b := ⟨_, rfl⟩
   have hpl := h2.pos_le;rw [hps] at hpl;have HpL : Hid (ps ≤ 1099511627776) := hpl;obtain ⟨sF, hsF⟩ : ∃ t, endD q s' = t := ⟨_, rfl⟩
   have KE : Hid (∀ W, Dt B kb (.slice (some ⟨rb, ro, none⟩) bs.length cap) im' en q p g w2 s' W → Calls Tryz.prog 124 #[.pointer (some ⟨p, 0, none⟩)] W fun e w' => ∃ r : Int, e = .returned (.int .i64 r) ∧ (r == 0) = bb ∧ Dt B kb (.slice (some ⟨rb, ro, none⟩) bs.length cap) im' en q p g w2 s' w') := fun W hW => endX1 hW hbb;have KA : Hid (∀ W, Dt B kb (.slice (some ⟨rb, ro, none⟩) bs.length cap) im' en q p g w2 s' W → Calls Tryz.prog 125 #[.pointer (some ⟨p, 0, none⟩)] W fun e w' => e = .returned (.int .i64 (ps : Int)) ∧ w' = W) := fun W hW => by rw [← hps]; exact rat_any hW.rd
   have KF : Hid (∀ W, Dt B kb (.slice (some ⟨rb, ro, none⟩) bs.length cap) im' en q p g w2 s' W → Calls Tryz.prog 123 #[.pointer (some ⟨kb, 0, none⟩), .bool bb, .int .i64 (ps : Int)] W fun e w' => e = .returned (.tuple #[]) ∧ Dt B kb (.slice (some ⟨rb, ro, none⟩) bs.length cap) im' en q p g w2 sF w') := fun W hW => by
    have h9 := dformX hW bb (a := ps) HpL.out;rw [← hsF, endD, hbb, hps];exact h9
   have HD2 : Hid (Dt B kb (.slice (some ⟨rb, ro, none⟩) bs.length cap) im' en q p g w2 s' w2.drew) := h2.here.drew;have HFr : Hid (Fd B w0 w2) := h2.fr;have c59 := HD2.out.c59;rw [hsF] at HP;clear h2 HD hbb hps hpl hsF HpL;go_wp2_with fail
   go_region_held3 (fun W => W.cell? ⟨kb, 59, none⟩ = some (.pointer (some ⟨p, 0, none⟩))) (first | (with_reducible assumption) | go_keep) (first | (go_at_call 124; refine (KE.out _ HD2.out).mono ?_; rintro e y1 ⟨r, rfl, hr, h1⟩; have HX := Lib.hid h1; have a59 := h1.c59; clear h1) | (go_at_call 125; (first | (refine (KA.out _ HX.out).mono ?_) | (refine (KA.out _ HD2.out).mono ?_)); rintro e y2 ⟨rfl, h9⟩; subst h9) | (go_at_call 123; refine (KF.out _ HX.out).mono ?_; rintro e y3 ⟨rfl, h3⟩; have HY := Lib.hid h3; have b59 := h3.c59; clear h3))
   all_goals
    have c62 := HY.out.c62;obtain ⟨wy, hwy⟩ : ∃ t, sF.why = t := ⟨_, rfl⟩
    rw [hwy] at c62
    by_cases hw0 : wy = 0
    ·subst hw0;have HF := Lib.hid (atI_next HP.out hwy HE.out ((HJ2.out.fd HY.out.fr)) (HY.out.since HFr.out).dn);clear HP HY HE HX HD2 KE KA KF a59 b59 c59 hwy HFr HJ2;go_wp2_with fail
     go_roundw
     case rel => exact ⟨i + 1, by omega, rfl, HF⟩
     case measure => simp [intOf]; omega
    ·have HF := Lib.hid (allQ_of HSz.out hi8 HP.out (show sF.why ≠ 0 from fun e => hw0 (hwy.symm.trans e)) (HY.out.since HFr.out).dn);clear HP HY HE HX HD2 KE KA KF a59 b59 c59 hwy HFr HJ2;go_wp2_with fail
     refine bodyPost_ret (results_none rfl _ _ _) rfl ?_;exact ⟨rfl, HF.out⟩
end
end Go.Proofs.YtmfkggngjeolcaaGreatDoor
