import Derived.Test.YtmfkggngjeolcaaGreatDoorPk32
import Derived.Test.YtmfkggngjeolcaaGreatDoorPk09
import Derived.Test.YtmfkggngjeolcaaGreatDoorPk24
import Derived.Test.YtmfkggngjeolcaaGreatDoorPk31
import Derived.Test.YtmfkggngjeolcaaGreatDoorPk25
import Derived.Test.YtmfkggngjeolcaaGreatDoorPk23
set_option linter.unusedSimpArgs false
set_option linter.unusedVariables false
set_option maxHeartbeats 16000000
set_option maxRecDepth 100000
namespace Go.Proofs.YtmfkggngjeolcaaGreatDoor
open Go.RowKit Bn Dd Dc
structure Rd1 {β : Type} (t : TypeId) (k : Nat) (enc : β → List Value) (rb ib : Nat) (raw : Value) (p : Q) (w0 : World) (idx : Nat) (im : List Value) (r : R) (xs : List β) (v : Value) (w : World) : Prop where
 rk : Rk rb raw p w r w
 box : w.heap[ib]? = some (.cells (im.set idx v).toArray 33 (0, 0))
 row : OwnG t k enc w w0.heap.size v xs
 ne : ib ≠ rb
 lt : rb < w0.heap.size ∧ ib < w0.heap.size
 rw' : ∀ k, raw.ownBlock = some k → k < w0.heap.size
 rn : raw.ownBlock ≠ some ib
 fr : Keeps (fun k => k = rb ∨ k = ib) w0 w
structure Bx1 {β : Type} (t : TypeId) (k : Nat) (enc : β → List Value) (rb ib : Nat) (raw : Value) (p : Q) (w0 : World) (idx : Nat) (im : List Value) (r : R) (xs : List β) (v : Value) (cs : List Value) (m : Nat) (w : World) : Prop where
 rd : Rd1 t k enc rb ib raw p w0 idx im r xs v w
 bx : w.heap[m]? = some (.cells cs.toArray t (0, 0))
 hm : w0.heap.size ≤ m
 hv : v.ownBlock ≠ some m
theorem Rk.keepsAny {rb : Nat} {raw : Value} {p : Q} {r : R} {w0 w w' : World} {S : Nat → Prop} (h : Rk rb raw p w0 r w) (hk : Keeps S w w') (h1 : ¬ S rb) (h2 : ∀ k, raw.ownBlock = some k → ¬ S k) : Rk rb raw p w' r w' :=
 ⟨(hk.block rb h.lt h1).trans h.blk, h.sl.keeps hk h2, h.ne, h.le, h.en, h.sz, h.b1, h.b2, Keeps.refl _ _⟩
theorem numR_sm {p : Q} {raw : Value} {w : World} (h : Sl w raw p.bs) (k : Nat) (r : R) : (numR p k r).1 < 256 ^ k := by
 unfold numR
 split
 ·split
  ·exact Pl.acc_lt (fun z hz => h.small z (List.mem_of_mem_drop hz)) 0 k
  ·exact Nat.pow_pos (by decide)
 ·exact Nat.pow_pos (by decide)
theorem text_sl {W : World} {ao : Option Addr} {cap ps k : Nat} {bs : List Nat} (h : Sl W (.slice ao bs.length cap) bs) (hk : ps + k ≤ bs.length) : Sl W (.slice (if cap = ps then ao else Option.map (fun x => x.add ps) ao) (ps + k - ps) (cap - ps)) ((bs.drop ps).take k) := by
 have hl : ((bs.drop ps).take k).length = k := by rw [List.length_take, List.length_drop]; omega
 by_cases hc : cap = ps
 ·obtain ⟨_, _, e, h1, _⟩ := id h
  cases e
  have h2 := Sl.cutEnd (ao := ao) (fr := ps) (zs := bs) (by rw [← hc]; exact h);obtain rfl : k = 0 := by omega
  rw [if_pos hc, List.take_zero, hc, show ps + 0 - ps = 0 by omega, Nat.sub_self]
  rwa [List.drop_eq_nil_of_le (by omega)] at h2
 ·rw [if_neg hc, show ps + k - ps = k by omega];obtain ⟨a2, c2, e, h1, h2, h3, h4, h5⟩ := h.cut (fr := ps) (by omega);simp only [Value.slice.injEq] at e;obtain ⟨rfl, _, rfl⟩ := e;rw [List.length_drop] at h1 h5;refine ⟨_, _, by rw [hl], by rw [hl]; omega, h2, fun z hz => h3 z (List.mem_of_mem_take hz), h4, fun i hi => ?_⟩;rw [hl] at hi;obtain ⟨b, o, e, hcell⟩ := h5 i (by omega);refine ⟨b, o, e, ?_⟩;rw [hcell, List.getD_eq_getElem?_getD, List.getD_eq_getElem?_getD, List.getElem?_take_of_lt hi]
theorem longR_go {p : Q} {a n : Nat} {r t : R} (h : longR p a n r = t) (hb : t.bad < 0) (hl : r.ps ≤ p.en) : n ≤ 1048576 ∧ t.ps + n ≤ p.en := by
 unfold longR at h
 split at h
 ·rename_i hc
  unfold refR at h;rw [if_pos hc.1] at h;subst h;simp only at hb;omega
 ·rename_i hc
  subst h;omega
section
variable {β : Type} {t : TypeId} {k : Nat} {enc : β → List Value} {rb ib : Nat} {raw : Value} {p : Q} {w0 : World} {idx : Nat} {im : List Value} {r r' : R} {xs : List β} {v : Value} {cs : List Value} {m : Nat} {w w' : World}
theorem Rd1.size (h : Rd1 t k enc rb ib raw p w0 idx im r xs v w) : w0.heap.size ≤ w.heap.size := h.fr.size
theorem Rd1.call (h : Rd1 t k enc rb ib raw p w0 idx im r xs v w) (hk : Rk rb raw p w r' w') : Rd1 t k enc rb ib raw p w0 idx im r' xs v w' := by
 obtain ⟨_, _, _, _, _, hj⟩ := h.row.form;exact ⟨hk.here, (hk.fr.block ib (Nat.lt_of_lt_of_le h.lt.2 h.size) h.ne).trans h.box, h.row.keeps hk.fr (fun j e e2 => by have h1 := (hj j e).1; have h2 := h.lt.1; omega), h.ne, h.lt, h.rw', h.rn, h.fr.trans hk.fr (fun _ _ e => .inl e)⟩
theorem Rd1.below (h : Rd1 t k enc rb ib raw p w0 idx im r xs v w) (hb : Below w.heap.size w w') : Rd1 t k enc rb ib raw p w0 idx im r xs v w' :=
 ⟨(h.rk.below hb).here, (hb.block ib (Nat.lt_of_lt_of_le h.lt.2 h.size)).trans h.box, h.row.below hb, h.ne, h.lt, h.rw', h.rn, h.fr.trans (Keeps.of_below (S := fun k => k = rb ∨ k = ib) hb) (fun _ _ e => e)⟩
theorem Rd1.drew (h : Rd1 t k enc rb ib raw p w0 idx im r xs v w) : Rd1 t k enc rb ib raw p w0 idx im r xs v w.drew := h.below ⟨rfl, rfl, rfl, Nat.le_refl _, fun _ _ => rfl⟩
theorem Rd1.boxed (h : Rd1 t k enc rb ib raw p w0 idx im r xs v w) (cs : List Value) : Bx1 t k enc rb ib raw p w0 idx im r xs v cs w.heap.size (w.alloc (.cells cs.toArray t)) := by
 obtain ⟨_, _, _, _, _, hj⟩ := h.row.form;exact ⟨h.below ((Below.refl _ _).alloc (Nat.le_refl _) _), heap_alloc_new w _, h.size, fun e => by have h1 := (hj _ e).2.1; omega⟩
theorem Rd1.boxedAt (h : Rd1 t k enc rb ib raw p w0 idx im r xs v w) (cs : List Value) {m : Nat} (hm : w.heap.size = m) : Bx1 t k enc rb ib raw p w0 idx im r xs v cs m (w.alloc (.cells cs.toArray t)) := hm ▸ h.boxed cs
theorem Bx1.lt (h : Bx1 t k enc rb ib raw p w0 idx im r xs v cs m w) : m < w.heap.size := (Array.getElem?_eq_some_iff.1 h.bx).1
theorem Bx1.call (h : Bx1 t k enc rb ib raw p w0 idx im r xs v cs m w) (hk : Rk rb raw p w r' w') : Bx1 t k enc rb ib raw p w0 idx im r' xs v cs m w' :=
 ⟨h.rd.call hk, (hk.fr.block m h.lt (fun e => by have h1 := h.hm; have h2 := h.rd.lt.1; omega)).trans h.bx, h.hm, h.hv⟩
theorem Bx1.below (h : Bx1 t k enc rb ib raw p w0 idx im r xs v cs m w) (hb : Below w.heap.size w w') : Bx1 t k enc rb ib raw p w0 idx im r xs v cs m w' :=
 ⟨h.rd.below hb, (hb.block m h.lt).trans h.bx, h.hm, h.hv⟩
theorem Bx1.drew (h : Bx1 t k enc rb ib raw p w0 idx im r xs v cs m w) : Bx1 t k enc rb ib raw p w0 idx im r xs v cs m w.drew := h.below ⟨rfl, rfl, rfl, Nat.le_refl _, fun _ _ => rfl⟩
theorem Bx1.set (h : Bx1 t k enc rb ib raw p w0 idx im r xs v cs m w) (i : Nat) (u : Value) : Bx1 t k enc rb ib raw p w0 idx im r xs v (cs.set i u) m (w.setCell ⟨m, i, none⟩ u) := by
 have hk := Keeps.setCell w m i u;have hm := h.hm;have h1 := h.rd.lt.1;have h2 := h.rd.lt.2;refine ⟨⟨h.rd.rk.keepsAny hk (fun e => by omega) (fun j e e2 => by have := h.rd.rw' j e; omega), (hk.block ib (Nat.lt_of_lt_of_le h.rd.lt.2 h.rd.size) (fun e => by omega)).trans h.rd.box, h.rd.row.keeps hk (fun j e e2 => h.hv (by rw [e, e2])), h.rd.ne, h.rd.lt, h.rd.rw', h.rd.rn, ?_⟩, box_set h.bx i u, hm, h.hv⟩;have hf := h.rd.fr;exact ⟨hk.os.trans hf.os, hk.tape.trans hf.tape, hk.output.trans hf.output, Nat.le_trans hf.size hk.size, fun j hj hq => (hk.block j (Nat.lt_of_lt_of_le hj hf.size) (fun e => by omega)).trans (hf.block j hj hq)⟩
theorem Bx1.cell (h : Bx1 t k enc rb ib raw p w0 idx im r xs v cs m w) (i : Nat) : w.cell? ⟨m, i, none⟩ = cs[i]? := box_cell h.bx i
theorem Bx1.free (h : Bx1 t k enc rb ib raw p w0 idx im r xs v cs m w) (i : Nat) : w.frozen? ⟨m, i, none⟩ = false := box_free h.bx i
theorem Rd1.ic (h : Rd1 t k enc rb ib raw p w0 idx im r xs v w) (hi : idx < im.length) : w.cell? ⟨ib, idx, none⟩ = some v := by rw [box_cell h.box, List.getElem?_set_self hi]
theorem Rd1.io (h : Rd1 t k enc rb ib raw p w0 idx im r xs v w) {j : Nat} (hj : idx ≠ j) : w.cell? ⟨ib, j, none⟩ = im[j]? := by rw [box_cell h.box, List.getElem?_set_ne hj]
theorem Rd1.iF (h : Rd1 t k enc rb ib raw p w0 idx im r xs v w) (i : Nat) : w.frozen? ⟨ib, i, none⟩ = false := box_free h.box i
theorem Rd1.kept (h : Rd1 t k enc rb ib raw p w0 idx im r xs v w) (hg : w.grownBy w' v.ownBlock) : w'.heap[ib]? = some (.cells (im.set idx v).toArray 33 (0, 0)) := by
 obtain ⟨_, _, _, _, _, hj⟩ := h.row.form;exact (hg.block ib (Nat.lt_of_lt_of_le h.lt.2 h.size) (fun e => by have h1 := (hj _ e.symm).1; have h2 := h.lt.2; omega)).trans h.box
theorem Rd1.grown {x : β} {v' : Value} (h : Rd1 t k enc rb ib raw p w0 idx im r xs v w) (hg : w.grownBy w' v.ownBlock) (ho : OwnG t k enc w' w0.heap.size v' (xs ++ [x])) : Rd1 t k enc rb ib raw p w0 idx im r (xs ++ [x]) v' (w'.setCell ⟨ib, idx, none⟩ v') := by
 obtain ⟨_, _, _, _, _, hj⟩ := h.row.form;obtain ⟨_, _, _, _, _, hj2⟩ := ho.form;have hk1 : Keeps (fun j => v.ownBlock = some j) w w' := ⟨hg.os, hg.tape, hg.output, hg.size, fun i hi hn => hg.block i hi (fun e => hn e.symm)⟩
 have hk2 := Keeps.setCell w' ib idx v';have h1 := h.lt.1;have h2 := h.lt.2;refine ⟨(h.rk.keepsAny hk1 (fun e => by have := (hj _ e).1; omega) (fun j e e2 => by have h3 := h.rw' j e; have h4 := (hj _ e2).1; omega)).keepsAny hk2 (fun e => h.ne e.symm) (fun j e e2 => h.rn (by rw [e, e2])), ?_, ho.keeps hk2 (fun j e e2 => by have := (hj2 _ e).1; omega), h.ne, h.lt, h.rw', h.rn, ?_⟩
 ·have := box_set (h.kept hg) idx v'
  rwa [List.set_set] at this
 ·have hf := h.fr;refine ⟨hk2.os.trans (hk1.os.trans hf.os), hk2.tape.trans (hk1.tape.trans hf.tape), hk2.output.trans (hk1.output.trans hf.output), Nat.le_trans hf.size (Nat.le_trans hk1.size hk2.size), fun j hj' hq => ?_⟩;exact (hk2.block j (Nat.lt_of_lt_of_le hj' (Nat.le_trans hf.size hk1.size)) (fun e => hq (.inr e))).trans ((hk1.block j (Nat.lt_of_lt_of_le hj' hf.size) (fun e => by have := (hj _ e).1; omega)).trans (hf.block j hj' hq))
end
end Go.Proofs.YtmfkggngjeolcaaGreatDoor
namespace Go.Proofs.YtmfkggngjeolcaaGreatDoor
open Go.RowKit Bn Dd
theorem rd_start {β : Type} {t : TypeId} {k : Nat} {enc : β → List Value} {rb ib : Nat} {raw : Value} {p : Q} {w : World} {r : R} {im : List Value} {idx : Nat} (h : Rk rb raw p w r w) (hbx : w.heap[ib]? = some (.cells im.toArray 33 (0, 0))) (hl : idx < im.length) (hi0 : im[idx]? = some (.slice none 0 0)) (hne : ib ≠ rb) (hrw : ∀ k, raw.ownBlock = some k → k < w.heap.size) (hrn : raw.ownBlock ≠ some ib) : Rd1 t k enc rb ib raw p w idx im r [] (.slice none 0 0) w := by
 have he : im.set idx (.slice none 0 0) = im := by
  refine List.ext_getElem? (fun j => ?_)
  by_cases e : idx = j
  ·subst e;rw [List.getElem?_set_self hl, hi0]
  ·rw [List.getElem?_set_ne e]
 exact ⟨h, by rw [he]; exact hbx, OwnG.nil _ _ _ _ _, hne, ⟨h.lt, (Array.getElem?_eq_some_iff.1 hbx).1⟩, hrw, hrn, Keeps.refl _ _⟩
theorem dsubjectsQ {rb ib : Nat} {raw : Value} {p : Q} {w : World} {r : R} {im : List Value} (h : Rk rb raw p w r w) (hbx : w.heap[ib]? = some (.cells im.toArray 33 (0, 0))) (hl : im.length = 12) (hi0 : im[3]? = some (.slice none 0 0)) (hne : ib ≠ rb) (hrw : ∀ k, raw.ownBlock = some k → k < w.heap.size) (hrn : raw.ownBlock ≠ some ib) : Calls Tryz.prog 71 #[.pointer (some ⟨rb, 0, none⟩), .pointer (some ⟨ib, 0, none⟩)] w fun e w' => e = .returned (.tuple #[]) ∧ ∃ v, Rd1 66 6 tnE rb ib raw p w 3 im (listR (tenR p) (manyR p r).1 (manyR p r).2).2 (listR (tenR p) (manyR p r).1 (manyR p r).2).1 v w' := by
 have h0 : Rd1 66 6 tnE rb ib raw p w 3 im r [] (.slice none 0 0) w := rd_start h hbx (by omega) hi0 hne hrw hrn;have HI12 := hl;obtain ⟨n, r1, e0⟩ : ∃ v t, manyR p r = (v, t) := ⟨_, _, rfl⟩
 have KC : Hid (∀ W, Rk rb raw p W r W → Calls Tryz.prog 109 #[.pointer (some ⟨rb, 0, none⟩)] W fun e w' => e = .returned (.int .i64 (n : Nat)) ∧ Rk rb raw p W r1 w') := fun W hW => by have h9 := dcountQ hW; rw [e0] at h9; exact h9
 have hn : n ≤ 65535 := by have h9 := numR_lt h 2; rw [show (numR p 2 r).1 = (manyR p r).1 from rfl, e0] at h9; exact Nat.le_of_lt_succ h9
 have HFn : Hid ((manyR p r).1 = n ∧ (manyR p r).2 = r1) := ⟨by rw [e0], by rw [e0]⟩
 rw [HFn.out.1, HFn.out.2];have HS0 := Lib.hid h0;clear h h0 hbx hi0 e0 HFn;go_enter Tryz.func71, Tryz.ntmps71
 go_wp2_with fail
 refine (KC.out _ HS0.out.rk).mono ?_;rintro e w1 ⟨rfl, h1⟩;have HS1 := Lib.hid (HS0.out.call h1);clear h1 HS0 KC;go_wp2_with fail
 have H0 : Hid (∃ v, Rd1 66 6 tnE rb ib raw p w 3 im (listR (tenR p) 0 r1).2 (listR (tenR p) 0 r1).1 v _) := ⟨_, HS1.out⟩
 clear HS1;go_loopw [5] (fun iv wr => ∃ i : Nat, i ≤ n ∧ iv = .int .i64 (i : Int) ∧ Hid (∃ v, Rd1 66 6 tnE rb ib raw p w 3 im (listR (tenR p) i r1).2 (listR (tenR p) i r1).1 v wr)) (fun iv _ => n - (intOf iv).toNat)
 case atStart => exact ⟨0, Nat.zero_le _, rfl, H0⟩
 case round =>
  clear H0;obtain ⟨i, hi, rfl, HI⟩ := hrel;obtain ⟨v, h9⟩ := HI.out;have HStop := Lib.hid (listR_stop (tenR p) i r1);have HNext := Lib.hid (listR_next (tenR p) i r1);have HLen := Lib.hid (listR_len (tenR p) i r1);obtain ⟨⟨xs, rr⟩, hS⟩ : ∃ x, listR (tenR p) i r1 = x := ⟨_, rfl⟩
  rw [hS] at h9 HStop HNext HLen;clear HI;have k3 := h9.rk.cell3;have H9 := Lib.hid h9
  by_cases hb : rr.bad < 0
  ·have d3 : decide (rr.bad < 0) = true := decide_eq_true hb
   by_cases hin : i < n
   ·have ji : (i : Int) < (n : Int) := by omega
    have hw1 : IntKind.i64.wrap ((i : Int) + 1) = ((i + 1 : Nat) : Int) := by rw [IntKind.wrap_i64]; omega
    have HXl : Hid (xs.length ≤ 65535) := show _ ≤ _ by have := HLen.out; simp only at this; omega
    have HN : Hid (listR (tenR p) (i + 1) r1 = (xs ++ [(tenR p rr).1], (tenR p rr).2)) := HNext.out (show goR rr = true from decide_eq_true hb);clear HStop HNext HLen h9 hS;obtain ⟨x0, t0, e0⟩ : ∃ v t, numR p 1 rr = (v, t) := ⟨_, _, rfl⟩
    have K0 : Hid (∀ W, Rk rb raw p W rr W → Calls Tryz.prog 106 #[.pointer (some ⟨rb, 0, none⟩), .int .i64 1] W fun e w' => e = .returned (.int .i64 (x0 : Nat)) ∧ Rk rb raw p W t0 w') := fun W hW => by have h9 := dnum1Q hW; rw [e0] at h9; exact h9
    obtain ⟨x1, t1, e1⟩ : ∃ v t, flagR p t0 = (v, t) := ⟨_, _, rfl⟩
    have K1 : Hid (∀ W, Rk rb raw p W t0 W → Calls Tryz.prog 110 #[.pointer (some ⟨rb, 0, none⟩)] W fun e w' => e = .returned (.bool x1) ∧ Rk rb raw p W t1 w') := fun W hW => by have h9 := dflagQ hW; rw [e1] at h9; exact h9
    obtain ⟨x2, t2, e2⟩ : ∃ v t, numR p 1 t1 = (v, t) := ⟨_, _, rfl⟩
    have K2 : Hid (∀ W, Rk rb raw p W t1 W → Calls Tryz.prog 106 #[.pointer (some ⟨rb, 0, none⟩), .int .i64 1] W fun e w' => e = .returned (.int .i64 (x2 : Nat)) ∧ Rk rb raw p W t2 w') := fun W hW => by have h9 := dnum1Q hW; rw [e2] at h9; exact h9
    obtain ⟨x3, t3, e3⟩ : ∃ v t, numR p 1 t2 = (v, t) := ⟨_, _, rfl⟩
    have K3 : Hid (∀ W, Rk rb raw p W t2 W → Calls Tryz.prog 106 #[.pointer (some ⟨rb, 0, none⟩), .int .i64 1] W fun e w' => e = .returned (.int .i64 (x3 : Nat)) ∧ Rk rb raw p W t3 w') := fun W hW => by have h9 := dnum1Q hW; rw [e3] at h9; exact h9
    obtain ⟨x4, t4, e4⟩ : ∃ v t, noneR p t3 = (v, t) := ⟨_, _, rfl⟩
    have K4 : Hid (∀ W, Rk rb raw p W t3 W → Calls Tryz.prog 111 #[.pointer (some ⟨rb, 0, none⟩)] W fun e w' => e = .returned (.int .i64 x4) ∧ Rk rb raw p W t4 w') := fun W hW => by have h9 := dnoneQ hW; rw [e4] at h9; exact h9
    obtain ⟨x5, t5, e5⟩ : ∃ v t, noneR p t4 = (v, t) := ⟨_, _, rfl⟩
    have K5 : Hid (∀ W, Rk rb raw p W t4 W → Calls Tryz.prog 111 #[.pointer (some ⟨rb, 0, none⟩)] W fun e w' => e = .returned (.int .i64 x5) ∧ Rk rb raw p W t5 w') := fun W hW => by have h9 := dnoneQ hW; rw [e5] at h9; exact h9
    have HE : tenR p rr = ((⟨x0, x5, x1, x2, x4, x3⟩ : Tn), t5) := by simp only [tenR, e0, e1, e2, e3, e4, e5]
    rw [HE] at HN;clear HE e0 e1 e2 e3 e4 e5;go_wp2_with fail
    refine (K0.out _ H9.out.rk).mono ?_;rintro e w2 ⟨rfl, h8⟩;have G0 := Lib.hid (H9.out.call h8);clear h8 H9 K0 k3;have B0 := Lib.hid (G0.out.boxed [.int .i64 (x0 : Nat), .int .i64 0, .bool false, .int .i64 0, .int .i64 0, .int .i64 0]);clear G0;go_wp2_with fail
    refine (K1.out _ B0.out.rd.rk).mono ?_;rintro e w3 ⟨rfl, h8⟩;have G1 := Lib.hid (B0.out.call h8);clear h8 B0 K1;have d1 := G1.out.cell 2;have f1 := G1.out.free 2;simp only [List.getElem?_cons_zero, List.getElem?_cons_succ, List.set_cons_zero, List.set_cons_succ] at d1;have B1 := Lib.hid (G1.out.set 2 (.bool x1));simp only [List.set_cons_zero, List.set_cons_succ] at B1;clear G1;go_wp2_with fail
    refine (K2.out _ B1.out.rd.rk).mono ?_;rintro e w4 ⟨rfl, h8⟩;have G2 := Lib.hid (B1.out.call h8);clear h8 B1 K2;have d2 := G2.out.cell 3;have f2 := G2.out.free 3;simp only [List.getElem?_cons_zero, List.getElem?_cons_succ, List.set_cons_zero, List.set_cons_succ] at d2;have B2 := Lib.hid (G2.out.set 3 (.int .i64 (x2 : Nat)));simp only [List.set_cons_zero, List.set_cons_succ] at B2;clear G2;go_wp2_with fail
    refine (K3.out _ B2.out.rd.rk).mono ?_;rintro e w5 ⟨rfl, h8⟩;have G3 := Lib.hid (B2.out.call h8);clear h8 B2 K3;have d3 := G3.out.cell 5;have f3 := G3.out.free 5;simp only [List.getElem?_cons_zero, List.getElem?_cons_succ, List.set_cons_zero, List.set_cons_succ] at d3;have B3 := Lib.hid (G3.out.set 5 (.int .i64 (x3 : Nat)));simp only [List.set_cons_zero, List.set_cons_succ] at B3;clear G3;go_wp2_with fail
    refine (K4.out _ B3.out.rd.rk).mono ?_;rintro e w6 ⟨rfl, h8⟩;have G4 := Lib.hid (B3.out.call h8);clear h8 B3 K4;have d4 := G4.out.cell 4;have f4 := G4.out.free 4;simp only [List.getElem?_cons_zero, List.getElem?_cons_succ, List.set_cons_zero, List.set_cons_succ] at d4;have B4 := Lib.hid (G4.out.set 4 (.int .i64 x4));simp only [List.set_cons_zero, List.set_cons_succ] at B4;clear G4;go_wp2_with fail
    refine (K5.out _ B4.out.rd.rk).mono ?_;rintro e w7 ⟨rfl, h8⟩;have G5 := Lib.hid (B4.out.call h8);clear h8 B4 K5;have d5 := G5.out.cell 1;have f5 := G5.out.free 1;simp only [List.getElem?_cons_zero, List.getElem?_cons_succ, List.set_cons_zero, List.set_cons_succ] at d5;have B5 := Lib.hid (G5.out.set 1 (.int .i64 x5));simp only [List.set_cons_zero, List.set_cons_succ] at B5;clear G5;obtain ⟨va, vc, rfl, _⟩ := B5.out.rd.row.form;have a0 := B5.out.cell 0;have a1 := B5.out.cell 1;have a2 := B5.out.cell 2;have a3 := B5.out.cell 3;have a4 := B5.out.cell 4;have a5 := B5.out.cell 5;simp only [List.getElem?_cons_zero, List.getElem?_cons_succ, List.set_cons_zero, List.set_cons_succ] at a0 a1 a2 a3 a4 a5;have ic := B5.out.rd.ic (by omega)
    skip
    have HA0 := Lib.hid (B5.out.rd.boxedAt [.int .i64 (x0 : Nat), .int .i64 x5, .bool x1, .int .i64 (x2 : Nat), .int .i64 x4, .int .i64 (x3 : Nat)] (m := w7.heap.size) (by simp [World.setCell]));have ica := HA0.out.rd.ic (by omega);have HAl := Lib.hid HA0.out.drew;clear B5 HA0;go_wp2_with fail
    go_region_law (first
     | (refine step_appG1 (enc := tnE) (x := (⟨x0, x5, x1, x2, x4, x3⟩ : Tn)) (xs := xs) (by rfl) 26 66 (.tmp 43) (.tmp 45) rfl 6 48 _ Tryz.underlying26 infoTn (by decide) rfl (by decide) tn_ok (by rfl) HAl.out.rd.row (by rfl) HAl.out.bx (Nat.le_trans HXl.out (by decide)) HAl.out.rd.size ?_; intro vb vd w20 H20 HG20; have HF := Lib.hid (HAl.out.rd.grown HG20.out H20.out); have kc := box_cell (HAl.out.rd.kept HG20.out) 3; have kf := box_free (HAl.out.rd.kept HG20.out) 3; rw [List.getElem?_set_self (show 3 < im.length by omega)] at kc; clear H20 HG20))
    all_goals
     clear HAl ic ica a0 a1 a2 a3 a4 a5;go_wp2_with fail
     go_roundw
     case rel => exact ⟨i + 1, by omega, rfl, _, by rw [HN.out]; exact HF.out⟩
     case measure => simp [intOf]; omega
   ·have ji : ¬ (i : Int) < (n : Int) := by omega
    have HQ : Hid (∃ v, Rd1 66 6 tnE rb ib raw p w 3 im (listR (tenR p) n r1).2 (listR (tenR p) n r1).1 v wr) := ⟨v, by rw [show n = i by omega, hS]; exact H9.out⟩
    clear H9 HNext HStop HLen h9;go_wp2_with fail
    go_end0
    exact ⟨rfl, HQ.out⟩
  ·have d3 : decide (rr.bad < 0) = false := decide_eq_false hb;have HSt := Lib.hid (HStop.out (show ¬ goR rr = true from fun e => hb (of_decide_eq_true e)) n hi)
   by_cases hin : i < n
   ·have ji : (i : Int) < (n : Int) := by omega
    have HQ : Hid (∃ v, Rd1 66 6 tnE rb ib raw p w 3 im (listR (tenR p) n r1).2 (listR (tenR p) n r1).1 v wr) := ⟨v, by rw [HSt.out]; exact H9.out⟩
    clear H9 HNext HStop HLen h9;go_wp2_with fail
    go_end0
    exact ⟨rfl, HQ.out⟩
   ·have ji : ¬ (i : Int) < (n : Int) := by omega
    have HQ : Hid (∃ v, Rd1 66 6 tnE rb ib raw p w 3 im (listR (tenR p) n r1).2 (listR (tenR p) n r1).1 v wr) := ⟨v, by rw [HSt.out]; exact H9.out⟩
    clear H9 HNext HStop HLen h9;go_wp2_with fail
    go_end0
    exact ⟨rfl, HQ.out⟩
theorem dchannelsQ {rb ib : Nat} {raw : Value} {p : Q} {w : World} {r : R} {im : List Value} (h : Rk rb raw p w r w) (hbx : w.heap[ib]? = some (.cells im.toArray 33 (0, 0))) (hl : im.length = 12) (hi0 : im[6]? = some (.slice none 0 0)) (hne : ib ≠ rb) (hrw : ∀ k, raw.ownBlock = some k → k < w.heap.size) (hrn : raw.ownBlock ≠ some ib) : Calls Tryz.prog 74 #[.pointer (some ⟨rb, 0, none⟩), .pointer (some ⟨ib, 0, none⟩)] w fun e w' => e = .returned (.tuple #[]) ∧ ∃ v, Rd1 72 5 lkE rb ib raw p w 6 im (listR (chR p) (manyR p r).1 (manyR p r).2).2 (listR (chR p) (manyR p r).1 (manyR p r).2).1 v w' := by
 have h0 : Rd1 72 5 lkE rb ib raw p w 6 im r [] (.slice none 0 0) w := rd_start h hbx (by omega) hi0 hne hrw hrn;have HI12 := hl;obtain ⟨n, r1, e0⟩ : ∃ v t, manyR p r = (v, t) := ⟨_, _, rfl⟩
 have KC : Hid (∀ W, Rk rb raw p W r W → Calls Tryz.prog 109 #[.pointer (some ⟨rb, 0, none⟩)] W fun e w' => e = .returned (.int .i64 (n : Nat)) ∧ Rk rb raw p W r1 w') := fun W hW => by have h9 := dcountQ hW; rw [e0] at h9; exact h9
 have hn : n ≤ 65535 := by have h9 := numR_lt h 2; rw [show (numR p 2 r).1 = (manyR p r).1 from rfl, e0] at h9; exact Nat.le_of_lt_succ h9
 have HFn : Hid ((manyR p r).1 = n ∧ (manyR p r).2 = r1) := ⟨by rw [e0], by rw [e0]⟩
 rw [HFn.out.1, HFn.out.2];have HS0 := Lib.hid h0;clear h h0 hbx hi0 e0 HFn;go_enter Tryz.func74, Tryz.ntmps74
 go_wp2_with fail
 refine (KC.out _ HS0.out.rk).mono ?_;rintro e w1 ⟨rfl, h1⟩;have HS1 := Lib.hid (HS0.out.call h1);clear h1 HS0 KC;go_wp2_with fail
 have H0 : Hid (∃ v, Rd1 72 5 lkE rb ib raw p w 6 im (listR (chR p) 0 r1).2 (listR (chR p) 0 r1).1 v _) := ⟨_, HS1.out⟩
 clear HS1;go_loopw [5] (fun iv wr => ∃ i : Nat, i ≤ n ∧ iv = .int .i64 (i : Int) ∧ Hid (∃ v, Rd1 72 5 lkE rb ib raw p w 6 im (listR (chR p) i r1).2 (listR (chR p) i r1).1 v wr)) (fun iv _ => n - (intOf iv).toNat)
 case atStart => exact ⟨0, Nat.zero_le _, rfl, H0⟩
 case round =>
  clear H0;obtain ⟨i, hi, rfl, HI⟩ := hrel;obtain ⟨v, h9⟩ := HI.out;have HStop := Lib.hid (listR_stop (chR p) i r1);have HNext := Lib.hid (listR_next (chR p) i r1);have HLen := Lib.hid (listR_len (chR p) i r1);obtain ⟨⟨xs, rr⟩, hS⟩ : ∃ x, listR (chR p) i r1 = x := ⟨_, rfl⟩
  rw [hS] at h9 HStop HNext HLen;clear HI;have k3 := h9.rk.cell3;have H9 := Lib.hid h9
  by_cases hb : rr.bad < 0
  ·have d3 : decide (rr.bad < 0) = true := decide_eq_true hb
   by_cases hin : i < n
   ·have ji : (i : Int) < (n : Int) := by omega
    have hw1 : IntKind.i64.wrap ((i : Int) + 1) = ((i + 1 : Nat) : Int) := by rw [IntKind.wrap_i64]; omega
    have HXl : Hid (xs.length ≤ 65535) := show _ ≤ _ by have := HLen.out; simp only at this; omega
    have HN : Hid (listR (chR p) (i + 1) r1 = (xs ++ [(chR p rr).1], (chR p rr).2)) := HNext.out (show goR rr = true from decide_eq_true hb);clear HStop HNext HLen h9 hS;obtain ⟨x0, t0, e0⟩ : ∃ v t, noneR p rr = (v, t) := ⟨_, _, rfl⟩
    have K0 : Hid (∀ W, Rk rb raw p W rr W → Calls Tryz.prog 111 #[.pointer (some ⟨rb, 0, none⟩)] W fun e w' => e = .returned (.int .i64 x0) ∧ Rk rb raw p W t0 w') := fun W hW => by have h9 := dnoneQ hW; rw [e0] at h9; exact h9
    obtain ⟨x1, t1, e1⟩ : ∃ v t, noneR p t0 = (v, t) := ⟨_, _, rfl⟩
    have K1 : Hid (∀ W, Rk rb raw p W t0 W → Calls Tryz.prog 111 #[.pointer (some ⟨rb, 0, none⟩)] W fun e w' => e = .returned (.int .i64 x1) ∧ Rk rb raw p W t1 w') := fun W hW => by have h9 := dnoneQ hW; rw [e1] at h9; exact h9
    obtain ⟨x2, t2, e2⟩ : ∃ v t, numR p 1 t1 = (v, t) := ⟨_, _, rfl⟩
    have K2 : Hid (∀ W, Rk rb raw p W t1 W → Calls Tryz.prog 106 #[.pointer (some ⟨rb, 0, none⟩), .int .i64 1] W fun e w' => e = .returned (.int .i64 (x2 : Nat)) ∧ Rk rb raw p W t2 w') := fun W hW => by have h9 := dnum1Q hW; rw [e2] at h9; exact h9
    obtain ⟨x3, t3, e3⟩ : ∃ v t, numR p 1 t2 = (v, t) := ⟨_, _, rfl⟩
    have K3 : Hid (∀ W, Rk rb raw p W t2 W → Calls Tryz.prog 106 #[.pointer (some ⟨rb, 0, none⟩), .int .i64 1] W fun e w' => e = .returned (.int .i64 (x3 : Nat)) ∧ Rk rb raw p W t3 w') := fun W hW => by have h9 := dnum1Q hW; rw [e3] at h9; exact h9
    obtain ⟨t4, e4⟩ : ∃ t, zerosR p 2 t3 = t := ⟨_, rfl⟩
    have K4 : Hid (∀ W, Rk rb raw p W t3 W → Calls Tryz.prog 108 #[.pointer (some ⟨rb, 0, none⟩), .int .i64 2] W fun e w' => e = .returned (.tuple #[]) ∧ Rk rb raw p W t4 w') := fun W hW => by have h9 := dzerosQ hW (n := 2) (by decide); rw [e4] at h9; exact h9
    have HE : chR p rr = ((⟨x0, x1, x2, x3, false⟩ : Lk), t4) := by simp only [chR, e0, e1, e2, e3, e4]
    rw [HE] at HN;clear HE e0 e1 e2 e3 e4;go_wp2_with fail
    refine (K0.out _ H9.out.rk).mono ?_;rintro e w2 ⟨rfl, h8⟩;have G0 := Lib.hid (H9.out.call h8);clear h8 H9 K0 k3;have B0 := Lib.hid (G0.out.boxed [.int .i64 x0, .int .i64 0, .int .i64 0, .int .i64 0, .bool false]);clear G0;go_wp2_with fail
    refine (K1.out _ B0.out.rd.rk).mono ?_;rintro e w3 ⟨rfl, h8⟩;have G1 := Lib.hid (B0.out.call h8);clear h8 B0 K1;have d1 := G1.out.cell 1;have f1 := G1.out.free 1;simp only [List.getElem?_cons_zero, List.getElem?_cons_succ, List.set_cons_zero, List.set_cons_succ] at d1;have B1 := Lib.hid (G1.out.set 1 (.int .i64 x1));simp only [List.set_cons_zero, List.set_cons_succ] at B1;clear G1;go_wp2_with fail
    refine (K2.out _ B1.out.rd.rk).mono ?_;rintro e w4 ⟨rfl, h8⟩;have G2 := Lib.hid (B1.out.call h8);clear h8 B1 K2;have d2 := G2.out.cell 2;have f2 := G2.out.free 2;simp only [List.getElem?_cons_zero, List.getElem?_cons_succ, List.set_cons_zero, List.set_cons_succ] at d2;have B2 := Lib.hid (G2.out.set 2 (.int .i64 (x2 : Nat)));simp only [List.set_cons_zero, List.set_cons_succ] at B2;clear G2;go_wp2_with fail
    refine (K3.out _ B2.out.rd.rk).mono ?_;rintro e w5 ⟨rfl, h8⟩;have G3 := Lib.hid (B2.out.call h8);clear h8 B2 K3;have d3 := G3.out.cell 3;have f3 := G3.out.free 3;simp only [List.getElem?_cons_zero, List.getElem?_cons_succ, List.set_cons_zero, List.set_cons_succ] at d3;have B3 := Lib.hid (G3.out.set 3 (.int .i64 (x3 : Nat)));simp only [List.set_cons_zero, List.set_cons_succ] at B3;clear G3;go_wp2_with fail
    refine (K4.out _ B3.out.rd.rk).mono ?_;rintro e w6 ⟨rfl, h8⟩;have G4 := Lib.hid (B3.out.call h8);clear h8 B3 K4;obtain ⟨va, vc, rfl, _⟩ := G4.out.rd.row.form;have a0 := G4.out.cell 0;have a1 := G4.out.cell 1;have a2 := G4.out.cell 2;have a3 := G4.out.cell 3;have a4 := G4.out.cell 4;simp only [List.getElem?_cons_zero, List.getElem?_cons_succ, List.set_cons_zero, List.set_cons_succ] at a0 a1 a2 a3 a4;have ic := G4.out.rd.ic (by omega)
    skip
    have HA0 := Lib.hid (G4.out.rd.boxed [.int .i64 x0, .int .i64 x1, .int .i64 (x2 : Nat), .int .i64 (x3 : Nat), .bool false]);have ica := HA0.out.rd.ic (by omega);have HAl := Lib.hid HA0.out.drew;clear G4 HA0;go_wp2_with fail
    go_region_law (first
     | (refine step_appG1 (enc := lkE) (x := (⟨x0, x1, x2, x3, false⟩ : Lk)) (xs := xs) (by rfl) 29 72 (.tmp 39) (.tmp 41) rfl 5 40 _ Tryz.underlying29 infoCh (by decide) rfl (by decide) lk_ok (by rfl) HAl.out.rd.row (by rfl) HAl.out.bx (Nat.le_trans HXl.out (by decide)) HAl.out.rd.size ?_; intro vb vd w20 H20 HG20; have HF := Lib.hid (HAl.out.rd.grown HG20.out H20.out); have kc := box_cell (HAl.out.rd.kept HG20.out) 6; have kf := box_free (HAl.out.rd.kept HG20.out) 6; rw [List.getElem?_set_self (show 6 < im.length by omega)] at kc; clear H20 HG20))
    all_goals
     clear HAl ic ica a0 a1 a2 a3 a4;go_wp2_with fail
     go_roundw
     case rel => exact ⟨i + 1, by omega, rfl, _, by rw [HN.out]; exact HF.out⟩
     case measure => simp [intOf]; omega
   ·have ji : ¬ (i : Int) < (n : Int) := by omega
    have HQ : Hid (∃ v, Rd1 72 5 lkE rb ib raw p w 6 im (listR (chR p) n r1).2 (listR (chR p) n r1).1 v wr) := ⟨v, by rw [show n = i by omega, hS]; exact H9.out⟩
    clear H9 HNext HStop HLen h9;go_wp2_with fail
    go_end0
    exact ⟨rfl, HQ.out⟩
  ·have d3 : decide (rr.bad < 0) = false := decide_eq_false hb;have HSt := Lib.hid (HStop.out (show ¬ goR rr = true from fun e => hb (of_decide_eq_true e)) n hi)
   by_cases hin : i < n
   ·have ji : (i : Int) < (n : Int) := by omega
    have HQ : Hid (∃ v, Rd1 72 5 lkE rb ib raw p w 6 im (listR (chR p) n r1).2 (listR (chR p) n r1).1 v wr) := ⟨v, by rw [HSt.out]; exact H9.out⟩
    clear H9 HNext HStop HLen h9;go_wp2_with fail
    go_end0
    exact ⟨rfl, HQ.out⟩
   ·have ji : ¬ (i : Int) < (n : Int) := by omega
    have HQ : Hid (∃ v, Rd1 72 5 lkE rb ib raw p w 6 im (listR (chR p) n r1).2 (listR (chR p) n r1).1 v wr) := ⟨v, by rw [HSt.out]; exact H9.out⟩
    clear H9 HNext HStop HLen h9;go_wp2_with fail
    go_end0
    exact ⟨rfl, HQ.out⟩
theorem dirqsQ {rb ib : Nat} {raw : Value} {p : Q} {w : World} {r : R} {im : List Value} (h : Rk rb raw p w r w) (hbx : w.heap[ib]? = some (.cells im.toArray 33 (0, 0))) (hl : im.length = 12) (hi0 : im[7]? = some (.slice none 0 0)) (hne : ib ≠ rb) (hrw : ∀ k, raw.ownBlock = some k → k < w.heap.size) (hrn : raw.ownBlock ≠ some ib) : Calls Tryz.prog 75 #[.pointer (some ⟨rb, 0, none⟩), .pointer (some ⟨ib, 0, none⟩)] w fun e w' => e = .returned (.tuple #[]) ∧ ∃ v, Rd1 72 5 lkE rb ib raw p w 7 im (listR (iqR p) (manyR p r).1 (manyR p r).2).2 (listR (iqR p) (manyR p r).1 (manyR p r).2).1 v w' := by
 have h0 : Rd1 72 5 lkE rb ib raw p w 7 im r [] (.slice none 0 0) w := rd_start h hbx (by omega) hi0 hne hrw hrn;have HI12 := hl;obtain ⟨n, r1, e0⟩ : ∃ v t, manyR p r = (v, t) := ⟨_, _, rfl⟩
 have KC : Hid (∀ W, Rk rb raw p W r W → Calls Tryz.prog 109 #[.pointer (some ⟨rb, 0, none⟩)] W fun e w' => e = .returned (.int .i64 (n : Nat)) ∧ Rk rb raw p W r1 w') := fun W hW => by have h9 := dcountQ hW; rw [e0] at h9; exact h9
 have hn : n ≤ 65535 := by have h9 := numR_lt h 2; rw [show (numR p 2 r).1 = (manyR p r).1 from rfl, e0] at h9; exact Nat.le_of_lt_succ h9
 have HFn : Hid ((manyR p r).1 = n ∧ (manyR p r).2 = r1) := ⟨by rw [e0], by rw [e0]⟩
 rw [HFn.out.1, HFn.out.2];have HS0 := Lib.hid h0;clear h h0 hbx hi0 e0 HFn;go_enter Tryz.func75, Tryz.ntmps75
 go_wp2_with fail
 refine (KC.out _ HS0.out.rk).mono ?_;rintro e w1 ⟨rfl, h1⟩;have HS1 := Lib.hid (HS0.out.call h1);clear h1 HS0 KC;go_wp2_with fail
 have H0 : Hid (∃ v, Rd1 72 5 lkE rb ib raw p w 7 im (listR (iqR p) 0 r1).2 (listR (iqR p) 0 r1).1 v _) := ⟨_, HS1.out⟩
 clear HS1;go_loopw [5] (fun iv wr => ∃ i : Nat, i ≤ n ∧ iv = .int .i64 (i : Int) ∧ Hid (∃ v, Rd1 72 5 lkE rb ib raw p w 7 im (listR (iqR p) i r1).2 (listR (iqR p) i r1).1 v wr)) (fun iv _ => n - (intOf iv).toNat)
 case atStart => exact ⟨0, Nat.zero_le _, rfl, H0⟩
 case round =>
  clear H0;obtain ⟨i, hi, rfl, HI⟩ := hrel;obtain ⟨v, h9⟩ := HI.out;have HStop := Lib.hid (listR_stop (iqR p) i r1);have HNext := Lib.hid (listR_next (iqR p) i r1);have HLen := Lib.hid (listR_len (iqR p) i r1);obtain ⟨⟨xs, rr⟩, hS⟩ : ∃ x, listR (iqR p) i r1 = x := ⟨_, rfl⟩
  rw [hS] at h9 HStop HNext HLen;clear HI;have k3 := h9.rk.cell3;have H9 := Lib.hid h9
  by_cases hb : rr.bad < 0
  ·have d3 : decide (rr.bad < 0) = true := decide_eq_true hb
   by_cases hin : i < n
   ·have ji : (i : Int) < (n : Int) := by omega
    have hw1 : IntKind.i64.wrap ((i : Int) + 1) = ((i + 1 : Nat) : Int) := by rw [IntKind.wrap_i64]; omega
    have HXl : Hid (xs.length ≤ 65535) := show _ ≤ _ by have := HLen.out; simp only at this; omega
    have HN : Hid (listR (iqR p) (i + 1) r1 = (xs ++ [(iqR p rr).1], (iqR p rr).2)) := HNext.out (show goR rr = true from decide_eq_true hb);clear HStop HNext HLen h9 hS;obtain ⟨x0, t0, e0⟩ : ∃ v t, noneR p rr = (v, t) := ⟨_, _, rfl⟩
    have K0 : Hid (∀ W, Rk rb raw p W rr W → Calls Tryz.prog 111 #[.pointer (some ⟨rb, 0, none⟩)] W fun e w' => e = .returned (.int .i64 x0) ∧ Rk rb raw p W t0 w') := fun W hW => by have h9 := dnoneQ hW; rw [e0] at h9; exact h9
    obtain ⟨x1, t1, e1⟩ : ∃ v t, noneR p t0 = (v, t) := ⟨_, _, rfl⟩
    have K1 : Hid (∀ W, Rk rb raw p W t0 W → Calls Tryz.prog 111 #[.pointer (some ⟨rb, 0, none⟩)] W fun e w' => e = .returned (.int .i64 x1) ∧ Rk rb raw p W t1 w') := fun W hW => by have h9 := dnoneQ hW; rw [e1] at h9; exact h9
    obtain ⟨x2, t2, e2⟩ : ∃ v t, numR p 1 t1 = (v, t) := ⟨_, _, rfl⟩
    have K2 : Hid (∀ W, Rk rb raw p W t1 W → Calls Tryz.prog 106 #[.pointer (some ⟨rb, 0, none⟩), .int .i64 1] W fun e w' => e = .returned (.int .i64 (x2 : Nat)) ∧ Rk rb raw p W t2 w') := fun W hW => by have h9 := dnum1Q hW; rw [e2] at h9; exact h9
    obtain ⟨x3, t3, e3⟩ : ∃ v t, flagR p t2 = (v, t) := ⟨_, _, rfl⟩
    have K3 : Hid (∀ W, Rk rb raw p W t2 W → Calls Tryz.prog 110 #[.pointer (some ⟨rb, 0, none⟩)] W fun e w' => e = .returned (.bool x3) ∧ Rk rb raw p W t3 w') := fun W hW => by have h9 := dflagQ hW; rw [e3] at h9; exact h9
    obtain ⟨t4, e4⟩ : ∃ t, zerosR p 2 t3 = t := ⟨_, rfl⟩
    have K4 : Hid (∀ W, Rk rb raw p W t3 W → Calls Tryz.prog 108 #[.pointer (some ⟨rb, 0, none⟩), .int .i64 2] W fun e w' => e = .returned (.tuple #[]) ∧ Rk rb raw p W t4 w') := fun W hW => by have h9 := dzerosQ hW (n := 2) (by decide); rw [e4] at h9; exact h9
    have HE : iqR p rr = ((⟨x0, x1, 1, x2, x3⟩ : Lk), t4) := by simp only [iqR, e0, e1, e2, e3, e4]
    rw [HE] at HN;clear HE e0 e1 e2 e3 e4;go_wp2_with fail
    refine (K0.out _ H9.out.rk).mono ?_;rintro e w2 ⟨rfl, h8⟩;have G0 := Lib.hid (H9.out.call h8);clear h8 H9 K0 k3;have B0 := Lib.hid (G0.out.boxed [.int .i64 x0, .int .i64 0, .int .i64 1, .int .i64 0, .bool false]);clear G0;go_wp2_with fail
    refine (K1.out _ B0.out.rd.rk).mono ?_;rintro e w3 ⟨rfl, h8⟩;have G1 := Lib.hid (B0.out.call h8);clear h8 B0 K1;have d1 := G1.out.cell 1;have f1 := G1.out.free 1;simp only [List.getElem?_cons_zero, List.getElem?_cons_succ, List.set_cons_zero, List.set_cons_succ] at d1;have B1 := Lib.hid (G1.out.set 1 (.int .i64 x1));simp only [List.set_cons_zero, List.set_cons_succ] at B1;clear G1;go_wp2_with fail
    refine (K2.out _ B1.out.rd.rk).mono ?_;rintro e w4 ⟨rfl, h8⟩;have G2 := Lib.hid (B1.out.call h8);clear h8 B1 K2;have d2 := G2.out.cell 3;have f2 := G2.out.free 3;simp only [List.getElem?_cons_zero, List.getElem?_cons_succ, List.set_cons_zero, List.set_cons_succ] at d2;have B2 := Lib.hid (G2.out.set 3 (.int .i64 (x2 : Nat)));simp only [List.set_cons_zero, List.set_cons_succ] at B2;clear G2;go_wp2_with fail
    refine (K3.out _ B2.out.rd.rk).mono ?_;rintro e w5 ⟨rfl, h8⟩;have G3 := Lib.hid (B2.out.call h8);clear h8 B2 K3;have d3 := G3.out.cell 4;have f3 := G3.out.free 4;simp only [List.getElem?_cons_zero, List.getElem?_cons_succ, List.set_cons_zero, List.set_cons_succ] at d3;have B3 := Lib.hid (G3.out.set 4 (.bool x3));simp only [List.set_cons_zero, List.set_cons_succ] at B3;clear G3;go_wp2_with fail
    refine (K4.out _ B3.out.rd.rk).mono ?_;rintro e w6 ⟨rfl, h8⟩;have G4 := Lib.hid (B3.out.call h8);clear h8 B3 K4;obtain ⟨va, vc, rfl, _⟩ := G4.out.rd.row.form;have a0 := G4.out.cell 0;have a1 := G4.out.cell 1;have a2 := G4.out.cell 2;have a3 := G4.out.cell 3;have a4 := G4.out.cell 4;simp only [List.getElem?_cons_zero, List.getElem?_cons_succ, List.set_cons_zero, List.set_cons_succ] at a0 a1 a2 a3 a4;have ic := G4.out.rd.ic (by omega)
    skip
    have HA0 := Lib.hid (G4.out.rd.boxed [.int .i64 x0, .int .i64 x1, .int .i64 1, .int .i64 (x2 : Nat), .bool x3]);have ica := HA0.out.rd.ic (by omega);have HAl := Lib.hid HA0.out.drew;clear G4 HA0;go_wp2_with fail
    go_region_law (first
     | (refine step_appG1 (enc := lkE) (x := (⟨x0, x1, 1, x2, x3⟩ : Lk)) (xs := xs) (by rfl) 29 72 (.tmp 39) (.tmp 41) rfl 5 40 _ Tryz.underlying29 infoCh (by decide) rfl (by decide) lk_ok (by rfl) HAl.out.rd.row (by rfl) HAl.out.bx (Nat.le_trans HXl.out (by decide)) HAl.out.rd.size ?_; intro vb vd w20 H20 HG20; have HF := Lib.hid (HAl.out.rd.grown HG20.out H20.out); have kc := box_cell (HAl.out.rd.kept HG20.out) 7; have kf := box_free (HAl.out.rd.kept HG20.out) 7; rw [List.getElem?_set_self (show 7 < im.length by omega)] at kc; clear H20 HG20))
    all_goals
     clear HAl ic ica a0 a1 a2 a3 a4;go_wp2_with fail
     go_roundw
     case rel => exact ⟨i + 1, by omega, rfl, _, by rw [HN.out]; exact HF.out⟩
     case measure => simp [intOf]; omega
   ·have ji : ¬ (i : Int) < (n : Int) := by omega
    have HQ : Hid (∃ v, Rd1 72 5 lkE rb ib raw p w 7 im (listR (iqR p) n r1).2 (listR (iqR p) n r1).1 v wr) := ⟨v, by rw [show n = i by omega, hS]; exact H9.out⟩
    clear H9 HNext HStop HLen h9;go_wp2_with fail
    go_end0
    exact ⟨rfl, HQ.out⟩
  ·have d3 : decide (rr.bad < 0) = false := decide_eq_false hb;have HSt := Lib.hid (HStop.out (show ¬ goR rr = true from fun e => hb (of_decide_eq_true e)) n hi)
   by_cases hin : i < n
   ·have ji : (i : Int) < (n : Int) := by omega
    have HQ : Hid (∃ v, Rd1 72 5 lkE rb ib raw p w 7 im (listR (iqR p) n r1).2 (listR (iqR p) n r1).1 v wr) := ⟨v, by rw [HSt.out]; exact H9.out⟩
    clear H9 HNext HStop HLen h9;go_wp2_with fail
    go_end0
    exact ⟨rfl, HQ.out⟩
   ·have ji : ¬ (i : Int) < (n : Int) := by omega
    have HQ : Hid (∃ v, Rd1 72 5 lkE rb ib raw p w 7 im (listR (iqR p) n r1).2 (listR (iqR p) n r1).1 v wr) := ⟨v, by rw [HSt.out]; exact H9.out⟩
    clear H9 HNext HStop HLen h9;go_wp2_with fail
    go_end0
    exact ⟨rfl, HQ.out⟩
end Go.Proofs.YtmfkggngjeolcaaGreatDoor
namespace Go.Proofs.YtmfkggngjeolcaaGreatDoor
open Go.RowKit Bn Dd
theorem sl_front {W : World} {ao : Option Addr} {cap k : Nat} {bs : List Nat} (h : Sl W (.slice ao bs.length cap) bs) (hk : k ≤ bs.length) : Sl W (.slice ao k cap) (bs.take k) := by
 have hl : (bs.take k).length = k := by rw [List.length_take]; omega
 obtain ⟨a2, c2, e, h1, h2, h3, h4, h5⟩ := h;simp only [Value.slice.injEq] at e;obtain ⟨rfl, _, rfl⟩ := e;refine ⟨_, _, by rw [hl], by rw [hl]; omega, h2, fun z hz => h3 z (List.mem_of_mem_take hz), h4, fun i hi => ?_⟩;rw [hl] at hi;obtain ⟨b, o, e, hcell⟩ := h5 i (by omega);exact ⟨b, o, e, by rw [hcell, List.getD_eq_getElem?_getD, List.getD_eq_getElem?_getD, List.getElem?_take_of_lt hi]⟩
theorem sl_mid {W : World} {ao : Option Addr} {cap a k : Nat} {bs : List Nat} (h : Sl W (.slice ao bs.length cap) bs) (hk : a + k ≤ bs.length) (hc : cap ≠ a) : Sl W (.slice (Option.map (fun x => x.add a) ao) k (cap - a)) ((bs.drop a).take k) := by
 have h1 := text_sl h hk
 rwa [if_neg hc, Nat.add_sub_cancel_left] at h1
theorem zr_eq {T : List Nat} (h : ∀ z ∈ T, z < 256) (hl : T.length = 4) : ((mkS T).toList == [0, 0, 0, 0]) = decide (Pl.num 4 T = 0) := by
 obtain ⟨a, b, c, d, rfl⟩ : ∃ a b c d, T = [a, b, c, d] := by
  match T, hl with
  | [a, b, c, d], _ => exact ⟨a, b, c, d, rfl⟩
 rw [mkS_list];have ha := h a (by simp);have hb := h b (by simp);have hc := h c (by simp);have hd := h d (by simp);have hn : Pl.num 4 [a, b, c, d] = a + 256 * (b + 256 * (c + 256 * (d + 256 * 0))) := rfl;rw [hn];have u : ∀ z, z < 256 → ((UInt8.ofNat z == 0) = decide (z = 0)) := fun z hz => by
  by_cases e : z = 0
  ·subst e; rfl
  ·rw [decide_eq_false e];refine beq_eq_false_iff_ne.2 (fun e2 => e ?_);have := congrArg UInt8.toNat e2
   simpa [Nat.mod_eq_of_lt hz] using this
 simp only [List.map_cons, List.map_nil]
 show ((UInt8.ofNat a == 0) && ((UInt8.ofNat b == 0) && ((UInt8.ofNat c == 0) && ((UInt8.ofNat d == 0) && true)))) = _
 rw [u a ha, u b hb, u c hc, u d hd]
 by_cases e : a = 0 ∧ b = 0 ∧ c = 0 ∧ d = 0
 ·obtain ⟨rfl, rfl, rfl, rfl⟩ := e; rfl
 ·rw [decide_eq_false (show ¬ (a + 256 * (b + 256 * (c + 256 * (d + 256 * 0))) = 0) by omega)]
  by_cases e1 : a = 0 <;> by_cases e2 : b = 0 <;> by_cases e3 : c = 0 <;> by_cases e4 : d = 0 <;> simp [e1, e2, e3, e4] at e ⊢
theorem raw_lt {w : World} {raw : Value} {bs : List Nat} (h : Sl w raw bs) (hp : 0 < bs.length) : ∀ k, raw.ownBlock = some k → k < w.heap.size := fun k e => by
 obtain ⟨b, o, cap, rfl, _, _, _, hc⟩ := h.pos hp
 cases e
 exact World.block_lt_of_cell? w _ (hc 0 hp)
theorem rk_new {w : World} {raw : Value} {bs : List Nat} {a en : Nat} (h : Sl w raw bs) (hp : 0 < bs.length) (hs : bs.length ≤ 1099511627776) (ha : a ≤ en) (he : en ≤ bs.length) : Rk w.heap.size raw ⟨bs, en⟩ (w.alloc (.cells (rdV raw ⟨bs, en⟩ ⟨a, -1⟩) 138)) ⟨a, -1⟩ (w.alloc (.cells (rdV raw ⟨bs, en⟩ ⟨a, -1⟩) 138)) := by
 have hb : Below w.heap.size w (w.alloc (.cells (rdV raw ⟨bs, en⟩ ⟨a, -1⟩) 138)) := (Below.refl _ _).alloc (Nat.le_refl _) _;exact ⟨heap_alloc_new w _, h.below hb, fun k e => Nat.ne_of_lt (raw_lt h hp k e), ha, he, hs, by show (-1 : Int) ≤ -1; decide, by show (-1 : Int) ≤ _; decide, Keeps.refl _ _⟩
theorem dheadQ {w : World} {v : Value} {bs : List Nat} (hs : Sl w v bs) (h160 : 160 ≤ bs.length) (hsz : bs.length ≤ 1099511627776) : Calls Tryz.prog 67 #[v] w fun e w' => e = .returned (.tuple #[.int .i64 (headF bs).1, .int .i64 (headF bs).2]) ∧ Below w.heap.size w w' := by
 obtain ⟨ao, cap, rfl, q1, q2, q3, q4, q5⟩ := id hs;clear q3 q4 q5;unfold maxLen at q2;obtain ⟨W1, hW1⟩ : ∃ W, w.alloc (.cells #[.slice ao bs.length cap, .int .i64 8, .int .i64 160, .int .i64 (-1)] 138) = W := ⟨_, rfl⟩
 have hR : Rk w.heap.size (.slice ao bs.length cap) ⟨bs, 160⟩ W1 ⟨8, -1⟩ W1 := by rw [← hW1]; exact rk_new hs (by omega) hsz (by decide) h160
 have hB1 : Below w.heap.size w W1 := by rw [← hW1]; exact (Below.refl _ _).alloc (Nat.le_refl _) _
 have hst : ∀ a k, a + k ≤ 160 → numR ⟨bs, 160⟩ k ⟨a, -1⟩ = (Pl.num k (bs.drop a), ⟨a + k, -1⟩) := fun a k hk => by
  unfold numR;rw [if_pos (show (-1 : Int) < 0 by decide), if_pos hk]
 have HBe : Hid (∀ W r, Rk w.heap.size (.slice ao bs.length cap) ⟨bs, 160⟩ W1 r W → Below w.heap.size w W) := fun W r hW => hB1.trans (Keeps.below hW.fr hB1.size (fun k hk e => by omega));have HSl : Hid (∀ W r, Rk w.heap.size (.slice ao bs.length cap) ⟨bs, 160⟩ W1 r W → Sl W (.slice ao bs.length cap) bs) := fun W r hW => hW.sl;have HA : Hid (∀ W, Rk w.heap.size (.slice ao bs.length cap) ⟨bs, 160⟩ W1 ⟨8, -1⟩ W → Calls Tryz.prog 106 #[.pointer (some ⟨w.heap.size, 0, none⟩), .int .i64 2] W fun e w' => e = .returned (.int .i64 (Pl.num 2 (bs.drop 8) : Nat)) ∧ Rk w.heap.size (.slice ao bs.length cap) ⟨bs, 160⟩ W1 ⟨10, -1⟩ w') := fun W hW => by have h9 := dnum2Q hW; rw [hst 8 2 (by decide)] at h9; exact h9
 have HB : Hid (∀ W, Rk w.heap.size (.slice ao bs.length cap) ⟨bs, 160⟩ W1 ⟨10, -1⟩ W → Calls Tryz.prog 106 #[.pointer (some ⟨w.heap.size, 0, none⟩), .int .i64 2] W fun e w' => e = .returned (.int .i64 (Pl.num 2 (bs.drop 10) : Nat)) ∧ Rk w.heap.size (.slice ao bs.length cap) ⟨bs, 160⟩ W1 ⟨12, -1⟩ w') := fun W hW => by have h9 := dnum2Q hW; rw [hst 10 2 (by decide)] at h9; exact h9
 have HC : Hid (∀ W, Rk w.heap.size (.slice ao bs.length cap) ⟨bs, 160⟩ W1 ⟨12, -1⟩ W → Calls Tryz.prog 106 #[.pointer (some ⟨w.heap.size, 0, none⟩), .int .i64 4] W fun e w' => e = .returned (.int .i64 (Pl.num 4 (bs.drop 12) : Nat)) ∧ Rk w.heap.size (.slice ao bs.length cap) ⟨bs, 160⟩ W1 ⟨16, -1⟩ w') := fun W hW => by have h9 := dnum4Q hW; rw [hst 12 4 (by decide)] at h9; exact h9
 have HD : Hid (∀ W, Rk w.heap.size (.slice ao bs.length cap) ⟨bs, 160⟩ W1 ⟨16, -1⟩ W → Calls Tryz.prog 107 #[.pointer (some ⟨w.heap.size, 0, none⟩)] W fun e w' => e = .returned (.int .u64 (Pl.num 8 (bs.drop 16) : Nat)) ∧ Rk w.heap.size (.slice ao bs.length cap) ⟨bs, 160⟩ W1 ⟨24, -1⟩ w') := fun W hW => by have h9 := dlongQ hW; rw [hst 16 8 (by decide)] at h9; exact h9
 have HE : Hid (∀ W r, Rk w.heap.size (.slice ao bs.length cap) ⟨bs, 160⟩ W1 r W → Calls Tryz.prog 69 #[.slice (Option.map (fun x => x.add 152) ao) (bs.length - 152) (cap - 152), .int .i64 4] W fun e w' => e = .returned (.tuple #[.int .u64 (Pl.num 4 (bs.drop 152) : Nat), .bool true]) ∧ w' = W) := fun W r hW => rNumber_yes (s := 4) (by decide) (hW.sl.cut (fr := 152) (by omega)) (by rw [List.length_drop]; omega) (by decide);have HF : Hid (∀ W r, Rk w.heap.size (.slice ao bs.length cap) ⟨bs, 160⟩ W1 r W → Calls Tryz.prog 43 #[.slice ao 152 cap] W fun e w' => e = .returned (.int .u32 (Pl.crc (bs.take 152) : Nat)) ∧ w' = W) := fun W r hW => refcrc_any (sl_front hW.sl (by omega));have hc1 := conv_str (sl_front hs (k := 8) (by omega));have HG : Hid (∀ W r, Rk w.heap.size (.slice ao bs.length cap) ⟨bs, 160⟩ W1 r W → (convert 43 9 (.slice (Option.map (fun x : Addr => ({ block := x.block, off := x.off + 156 } : Addr)) ao) 4 (cap - 156))).run Tryz.prog W = .ok (.string (mkS ((bs.drop 156).take 4))) W) := fun W r hW => by
  rw [← show (fun x : Addr => x.add 156) = (fun x : Addr => ({ block := x.block, off := x.off + 156 } : Addr)) from by funext x; rfl];exact conv_str (sl_mid hW.sl (by omega) (by omega))
 have hsm : ∀ z ∈ bs, z < 256 := hs.small;have e1 := mg_eq (T := bs.take 8) (fun z hz => hsm z (List.mem_of_mem_take hz));have e2 := zr_eq (T := (bs.drop 156).take 4) (fun z hz => hsm z (List.mem_of_mem_drop (List.mem_of_mem_take hz))) (by rw [List.length_take, List.length_drop]; omega);rw [num_take0] at e2;have b4 : Pl.num 4 (bs.drop 12) < 4294967296 := Pl.acc_lt (fun z hz => hsm z (List.mem_of_mem_drop hz)) 0 4;have b8 : Pl.num 8 (bs.drop 16) < 18446744073709551616 := Pl.acc_lt (fun z hz => hsm z (List.mem_of_mem_drop hz)) 0 8;have b5 : Pl.num 4 (bs.drop 152) < 4294967296 := Pl.acc_lt (fun z hz => hsm z (List.mem_of_mem_drop hz)) 0 4;have b6 : Pl.crc (bs.take 152) < 4294967296 := Pl.more_lt (s := 0) (by decide) (fun z hz => hsm z (List.mem_of_mem_take hz));have hF : Hid (headF bs = if bs.take 8 ≠ Dc.mg then (130, 0) else if Pl.num 2 (bs.drop 8) ≠ 1 then (131, 8) else if Pl.num 2 (bs.drop 10) ≠ 8 then (5, 10) else if Pl.num 4 (bs.drop 152) ≠ Pl.crc (bs.take 152) then (11, 152) else if Pl.num 4 (bs.drop 156) ≠ 0 then (5, 156) else if 1024 < Pl.num 4 (bs.drop 12) then (4, 12) else if bs.length < Pl.num 4 (bs.drop 12) * 4096 then (10, (bs.length : Int)) else if Pl.num 4 (bs.drop 12) * 4096 < bs.length then (12, ((Pl.num 4 (bs.drop 12) * 4096 : Nat) : Int)) else if Pl.num 8 (bs.drop 16) % 4096 ≠ 0 then (132, 16) else (0, 0)) := rfl;obtain ⟨⟨rx, ry⟩, hxy⟩ : ∃ z, headF bs = z := ⟨_, rfl⟩
 have hX := hF.out.symm.trans hxy;rw [hxy];clear hxy;generalize mkS (bs.take 8) = S1 at *;generalize mkS ((bs.drop 156).take 4) = S2 at *;generalize Pl.num 2 (bs.drop 8) = n1 at *;generalize Pl.num 2 (bs.drop 10) = n2 at *;generalize Pl.num 4 (bs.drop 12) = cnt at *;generalize Pl.num 8 (bs.drop 16) = bse at *;generalize Pl.num 4 (bs.drop 152) = sm at *;generalize Pl.num 4 (bs.drop 156) = zr at *;generalize Pl.crc (bs.take 152) = cr at *;have HX := Lib.hid hX;have HR := Lib.hid hR;have HB0 := Lib.hid (Below.refl w.heap.size w);clear hs hsm hst hR hB1 hF hX;obtain ⟨L, hL⟩ : ∃ L, bs.length = L := ⟨_, rfl⟩
 have HQ : Hid (∀ W r, Rk w.heap.size (.slice ao bs.length cap) ⟨bs, 160⟩ W1 r W → Below w.heap.size w W) := HBe;have jl : ¬ (bs.length : Int) < 160 := by omega
 have hcap152 : cap ≠ 152 := by omega
 have hcap156 : cap ≠ 156 := by omega
 have h8 : 8 ≤ cap := by omega
 have h152 : 152 ≤ cap := by omega
 have h160c : 160 ≤ cap := by omega
 have h152l : 152 ≤ bs.length := by omega
 clear HBe hL L;go_enter Tryz.func67, Tryz.ntmps67
 by_cases t1 : bs.take 8 = Dc.mg
 ·rw [decide_eq_true t1] at e1;go_wp2_with fail
  refine (HA.out _ HR.out).mono ?_;rintro e w1 ⟨rfl, h1⟩;have H1 := Lib.hid h1;clear h1 HA HR hc1 e1 hW1
  by_cases t2 : n1 = 1
  ·have d2 : ((n1 : Int) != 1) = false := by rw [t2]; rfl
   go_wp2_with fail
   refine (HB.out _ H1.out).mono ?_;rintro e w2 ⟨rfl, h1⟩;have H2 := Lib.hid h1;clear h1 HB H1 d2
   by_cases t3 : n2 = 8
   ·have d3 : ((n2 : Int) != 8) = false := by rw [t3]; rfl
    go_wp2_with fail
    refine (HC.out _ H2.out).mono ?_;rintro e w3 ⟨rfl, h1⟩;have H3 := Lib.hid h1;clear h1 HC H2 d3;go_wp2_with fail
    refine (HD.out _ H3.out).mono ?_;rintro e w4 ⟨rfl, h1⟩;have H4 := Lib.hid h1;clear h1 HD H3;go_wp2_with fail
    refine (HE.out _ _ H4.out).mono ?_;rintro e w5 ⟨rfl, h5⟩;subst h5;clear HE;go_wp2_with fail
    refine (HF.out _ _ H4.out).mono ?_;rintro e w6 ⟨rfl, h6⟩;subst h6;have hcv := HG.out _ _ H4.out;have HBw := Lib.hid (HQ.out _ _ H4.out);clear HF HG H4 HQ;have hw32 : IntKind.u64.wrap (cr : Int) = (cr : Int) := by rw [IntKind.wrap_u64]; omega
    have hwm : IntKind.i64.wrap ((cnt : Int) * 4096) = (cnt : Int) * 4096 := by rw [IntKind.wrap_i64]; omega
    obtain ⟨rm, hrm⟩ : ∃ rm, bse % 4096 = rm := ⟨_, rfl⟩
    have hrm1 : Int.tmod (bse : Int) 4096 = (rm : Int) := by rw [← hrm]; rfl
    have hrm2 : IntKind.u64.wrap (rm : Int) = (rm : Int) := by rw [IntKind.wrap_u64]; omega
    have HRm := Lib.hid hrm;clear hrm
    by_cases t4 : sm = cr
    ·have d4 : ((sm : Int) != (cr : Int)) = false := by rw [t4]; simp
     by_cases t5 : zr = 0
     ·rw [decide_eq_true t5] at e2
      by_cases t6 : 1024 < cnt
      ·have d6 : decide ((cnt : Int) > 1024) = true := decide_eq_true (by omega);have j6 : (cnt : Int) > 1024 := by omega
       go_wp2_with fail
       go_ret2
       refine ⟨?_, HBw.out⟩; have h := HX.out; simp [t1, t2, t3, t4, t5, t6] at h; simp [← h.1, ← h.2]
      ·have d6 : decide ((cnt : Int) > 1024) = false := decide_eq_false (by omega);have j6 : ¬ (cnt : Int) > 1024 := by omega
       by_cases t7 : bs.length < cnt * 4096
       ·have d7 : decide ((bs.length : Int) < (cnt : Int) * 4096) = true := decide_eq_true (by omega);have j7 : (bs.length : Int) < (cnt : Int) * 4096 := by omega
        go_wp2_with fail
        go_ret2
        refine ⟨?_, HBw.out⟩; have h := HX.out; simp [t1, t2, t3, t4, t5, t6, t7] at h; simp [← h.1, ← h.2]
       ·have d7 : decide ((bs.length : Int) < (cnt : Int) * 4096) = false := decide_eq_false (by omega);have j7 : ¬ (bs.length : Int) < (cnt : Int) * 4096 := by omega
        by_cases t8 : cnt * 4096 < bs.length
        ·have d8 : decide ((bs.length : Int) > (cnt : Int) * 4096) = true := decide_eq_true (by omega);have j8 : (bs.length : Int) > (cnt : Int) * 4096 := by omega
         go_wp2_with fail
         go_ret2
         refine ⟨?_, HBw.out⟩; have h := HX.out; simp [t1, t2, t3, t4, t5, t6, t7, t8] at h; simp [← h.1, ← h.2]
        ·have d8 : decide ((bs.length : Int) > (cnt : Int) * 4096) = false := decide_eq_false (by omega);have j8 : ¬ (bs.length : Int) > (cnt : Int) * 4096 := by omega
         by_cases t9 : rm = 0
         ·have d9 : decide ((rm : Int) > 0) = false := decide_eq_false (by omega);have j9 : ¬ (rm : Int) > 0 := by omega
          go_wp2_with fail
          go_ret2
          refine ⟨?_, HBw.out⟩; have h := HX.out; simp [t1, t2, t3, t4, t5, t6, t7, t8, t9, HRm.out] at h; simp [← h.1, ← h.2]
         ·have d9 : decide ((rm : Int) > 0) = true := decide_eq_true (by omega);have j9 : (rm : Int) > 0 := by omega
          go_wp2_with fail
          go_ret2
          refine ⟨?_, HBw.out⟩; have h := HX.out; simp [t1, t2, t3, t4, t5, t6, t7, t8, t9, HRm.out] at h; simp [← h.1, ← h.2]
     ·rw [decide_eq_false t5] at e2;go_wp2_with fail
      go_ret2
      refine ⟨?_, HBw.out⟩; have h := HX.out; simp [t1, t2, t3, t4, t5] at h; simp [← h.1, ← h.2]
    ·have d4 : ((sm : Int) != (cr : Int)) = true := by simp; omega
     go_wp2_with fail
     go_ret2
     refine ⟨?_, HBw.out⟩; have h := HX.out; simp [t1, t2, t3, t4] at h; simp [← h.1, ← h.2]
   ·have d3 : ((n2 : Int) != 8) = true := by simp; omega
    have HBw := Lib.hid (HQ.out _ _ H2.out);go_wp2_with fail
    go_ret2
    refine ⟨?_, HBw.out⟩; have h := HX.out; simp [t1, t2, t3] at h; simp [← h.1, ← h.2]
  ·have d2 : ((n1 : Int) != 1) = true := by simp; omega
   have HBw := Lib.hid (HQ.out _ _ H1.out);go_wp2_with fail
   go_ret2
   refine ⟨?_, HBw.out⟩; have h := HX.out; simp [t1, t2] at h; simp [← h.1, ← h.2]
 ·rw [decide_eq_false t1] at e1;have HBw := Lib.hid (Below.refl w.heap.size w);go_wp2_with fail
  go_ret2
  refine ⟨?_, HBw.out⟩; have h := HX.out; simp [t1] at h; simp [← h.1, ← h.2]
end Go.Proofs.YtmfkggngjeolcaaGreatDoor
