import Derived.Test.YtnifefmfhjfbnaaGreatDoorPk12
import Derived.Test.YtnifefmfhjfbnaaGreatDoorPk11
/- Bundle: rows that come in. Own work. -/
namespace Go.Proofs.YtnifefmfhjfbnaaGreatDoor
open Go.RowKit Bn
set_option linter.unusedVariables false
set_option linter.unusedSimpArgs false
/-- a row of things of k cells, wherever it lies -/
def RowG {α : Type} (k : Nat) (enc : α → List Value) (w : World) (v : Value) (xs : List α) : Prop :=
 ∃ ao cap, v = .slice ao xs.length cap ∧ xs.length ≤ cap ∧ cap ≤ maxLen ∧ ∀ i (h : i < xs.length), ∃ b o, ao = some ⟨b, o, none⟩ ∧ b < w.heap.size ∧ ∀ j, j < k → w.cell? ⟨b, o + i * k + j, none⟩ = (enc xs[i])[j]?
theorem RowG.below {α : Type} {k : Nat} {enc : α → List Value} {w w' : World} {v : Value} {xs : List α} (h : RowG k enc w v xs) (hb : Below w.heap.size w w') : RowG k enc w' v xs := by
 obtain ⟨ao, cap, rfl, h1, h2, h3⟩ := h
 refine ⟨ao, cap, rfl, h1, h2, fun i hi => ?_⟩
 obtain ⟨b, o, rfl, hl, hc⟩ := h3 i hi
 exact ⟨b, o, rfl, Nat.lt_of_lt_of_le hl hb.size, fun j hj => (World.cell?_of_block (a := ⟨b, o + i * k + j, none⟩) (hb.block b hl)).trans (hc j hj)⟩
def rgE (r : Rg) : List Value := [.int .u64 (r.1 : Int), .int .u64 (r.2 : Int)]
def tnE (x : Tn) : List Value := [.int .i64 x.cpu, .int .i64 x.root, .bool x.st, .int .i64 x.rule, .int .i64 x.to, .int .i64 x.vec]
def poE (r : Int) : List Value := [.int .i64 r]
def gdE (g : Gd) : List Value := [.int .u64 (g.ad : Int), .int .u64 (g.sz : Int), .int .u8 (g.fill : Int), .string g.txt]
def lkE (c : Lk) : List Value := [.int .i64 c.fr, .int .i64 c.to, .int .i64 c.eff, .int .i64 c.vec, .bool c.msk]
def stE (x : Int × Int) : List Value := [.int .i64 x.1, .int .i64 x.2]
def rgOk (r : Rg) : Prop := r.1 ≤ 18446744073709551615 ∧ r.2 ≤ 18446744073709551615
theorem each_len {α : Type} {f : α → S → S} {c : Nat} (hf : ∀ x s, (f x s).1.length = s.1.length + c) : ∀ (xs : List α) (s : S), (eachS f xs s).1.length = s.1.length + c * xs.length
 | [], s => rfl
 | x :: xs, s => by
  rw [eachS, each_len hf xs, hf, List.length_cons]
  rw [Nat.mul_add]
  omega
def stOk (x : Int × Int) : Prop := I64R x.1 ∧ I64R x.2
def tnOk (x : Tn) : Prop := I64R x.cpu ∧ I64R x.root ∧ I64R x.rule ∧ I64R x.to ∧ I64R x.vec
def lkOk (x : Lk) : Prop := I64R x.fr ∧ I64R x.to ∧ I64R x.eff ∧ I64R x.vec
def gdOk (x : Gd) : Prop := x.ad ≤ 18446744073709551615 ∧ x.sz ≤ 18446744073709551615 ∧ x.fill ≤ 255 ∧ x.txt.size ≤ 4000000
end Go.Proofs.YtnifefmfhjfbnaaGreatDoor
/- Bundle: the reader, where it stands. Own work. -/
namespace Go.Proofs.YtnifefmfhjfbnaaGreatDoor
open Go.RowKit Bn Dc
set_option linter.unusedVariables false
set_option linter.unusedSimpArgs false
/-- what the reader may write: its own block and word's Reader, from B on -/
def FdS (B : Nat) (w : World) (k : Nat) : Prop := B ≤ k ∧ (Tagd w 66 k ∨ Tagd w 142 k)
def Fd (B : Nat) (w w' : World) : Prop := Keeps (FdS B w) w w'
theorem Fd.refl (B : Nat) (w : World) : Fd B w w := Keeps.refl _ _
theorem Fd.trans {B : Nat} {a b c : World} (h : Fd B a b) (k : Fd B b c) : Fd B a c := by
 refine ⟨k.os.trans h.os, k.tape.trans h.tape, k.output.trans h.output, Nat.le_trans h.size k.size, fun i hi hn => ?_⟩
 have e := h.block i hi hn
 refine (k.block i (Nat.lt_of_lt_of_le hi h.size) (fun hs => hn ?_)).trans e
 obtain ⟨h0, hs⟩ := hs
 have tg : ∀ t, Tagd b t i → Tagd a t i := fun t ⟨cur, hc⟩ => ⟨cur, e.symm.trans hc⟩
 exact ⟨h0, hs.imp (tg _) (tg _)⟩
theorem Fd.of_below {B : Nat} {w w' : World} (h : Below w.heap.size w w') : Fd B w w' := Keeps.of_below h
theorem Fd.below {B : Nat} {w w' : World} (h : Fd B w w') (hB : B ≤ w.heap.size) : Below B w w' := Keeps.below h hB (fun k hk e => e.1)
theorem Fd.block' {B : Nat} {w w' : World} (h : Fd B w w') {t : TypeId} {g : Nat} (hg : Tagd w t g) (h1 : t ≠ 66) (h2 : t ≠ 142) : w'.heap[g]? = w.heap[g]? := Keeps.block h g (by obtain ⟨c, hc⟩ := hg; exact (Array.getElem?_eq_some_iff.1 hc).1) (by
 rintro ⟨_, e | e⟩
 ·exact h1 (tag_same hg e)
 ·exact h2 (tag_same hg e))
/-- the reader's cells -/
def rdC (raw : Value) (im en : List Value) (pt : Nat) (p : Nat) (sec ad why : Int) : List Value := raw :: (im ++ (en ++ [.int .i64 (pt : Int), .pointer (some ⟨p, 0, none⟩), .int .i64 sec, .int .i64 ad, .int .i64 why]))
section
variable {raw : Value} {im en : List Value} {pt p : Nat} {sec ad why : Int}
theorem rdC_raw : (rdC raw im en pt p sec ad why)[0]? = some raw := rfl
theorem rdC_im {i : Nat} (h : im.length = 12) (hi : i < 12) : (rdC raw im en pt p sec ad why)[1 + i]? = im[i]? := by
 unfold rdC
 rw [show 1 + i = i + 1 by omega, List.getElem?_cons_succ, List.getElem?_append_left (by omega)]
theorem rdC_en {i : Nat} (h : im.length = 12) (he : en.length = 45) (hi : i < 45) : (rdC raw im en pt p sec ad why)[13 + i]? = en[i]? := by
 unfold rdC
 rw [show 13 + i = (12 + i) + 1 by omega, List.getElem?_cons_succ, List.getElem?_append_right (by omega), h, show 12 + i - 12 = i by omega, List.getElem?_append_left (by omega)]
theorem rdC_end {i : Nat} (h : im.length = 12) (he : en.length = 45) : (rdC raw im en pt p sec ad why)[58 + i]? = [Value.int .i64 (pt : Int), .pointer (some ⟨p, 0, none⟩), .int .i64 sec, .int .i64 ad, .int .i64 why][i]? := by
 unfold rdC
 rw [show 58 + i = (57 + i) + 1 by omega, List.getElem?_cons_succ, List.getElem?_append_right (by omega), h, List.getElem?_append_right (by omega), he, show 57 + i - 12 - 45 = i by omega]
theorem rdC_setIm {i : Nat} (h : im.length = 12) (hi : i < 12) (u : Value) : (rdC raw im en pt p sec ad why).set (1 + i) u = rdC raw (im.set i u) en pt p sec ad why := by
 unfold rdC
 rw [show 1 + i = i + 1 by omega, List.set_cons_succ, List.set_append_left _ _ (by omega)]
theorem rdC_setEn {i : Nat} (h : im.length = 12) (he : en.length = 45) (hi : i < 45) (u : Value) : (rdC raw im en pt p sec ad why).set (13 + i) u = rdC raw im (en.set i u) pt p sec ad why := by
 unfold rdC
 rw [show 13 + i = (12 + i) + 1 by omega, List.set_cons_succ, List.set_append_right _ _ (by omega), h, show 12 + i - 12 = i by omega, List.set_append_left _ _ (by omega)]
theorem rdC_setEnd {i : Nat} (h : im.length = 12) (he : en.length = 45) (u : Value) : (rdC raw im en pt p sec ad why).set (58 + i) u = raw :: (im ++ (en ++ [Value.int .i64 (pt : Int), .pointer (some ⟨p, 0, none⟩), .int .i64 sec, .int .i64 ad, .int .i64 why].set i u)) := by
 unfold rdC
 rw [show 58 + i = (57 + i) + 1 by omega, List.set_cons_succ, List.set_append_right _ _ (by omega), h, List.set_append_right _ _ (by omega), he, show 57 + i - 12 - 45 = i by omega]
end
/-- where the reader stands within a part -/
structure Dt (B kb : Nat) (raw : Value) (im en : List Value) (q : Pt) (p g : Nat) (w0 : World) (s : D) (w : World) : Prop where
 blk : w.heap[kb]? = some (.cells (rdC raw im en q.pt p s.sec s.ad s.why).toArray 66 (0, 0))
 him : im.length = 12
 hen : en.length = 45
 hpt : q.pt < 9
 hfi : en[5 * q.pt + 2]? = some (.int .i64 (q.fi : Int))
 hlen : q.fi + q.Z.length ≤ 1099511627776
 rd : Rd w p g q.Z s.pos s.rw
 hB : B ≤ kb ∧ B ≤ p ∧ B ≤ g
 fr : Fd B w0 w
section
variable {B kb : Nat} {raw : Value} {im en : List Value} {q : Pt} {p g : Nat} {w0 : World} {s : D} {w w' : World}
theorem Dt.lt (h : Dt B kb raw im en q p g w0 s w) : kb < w.heap.size := (Array.getElem?_eq_some_iff.1 h.blk).1
theorem Dt.le (h : Dt B kb raw im en q p g w0 s w) : B ≤ w.heap.size := by have := h.lt; have := h.hB.1; omega
theorem Dt.ne (h : Dt B kb raw im en q p g w0 s w) : p ≠ kb := by
 intro e
 have h1 := h.rd.1
 rw [e, h.blk] at h1
 simp at h1
theorem Dt.ne' (h : Dt B kb raw im en q p g w0 s w) : g ≠ kb := by
 intro e
 obtain ⟨c, hc⟩ : ∃ c, w.heap[g]? = some (.cells c 5 (0, 0)) := ⟨_, h.rd.2.1⟩
 rw [e, h.blk] at hc
 simp at hc
theorem Dt.cell (h : Dt B kb raw im en q p g w0 s w) (i : Nat) : w.cell? ⟨kb, i, none⟩ = (rdC raw im en q.pt p s.sec s.ad s.why)[i]? := by
 rw [cell_of_row _ _ i _ _ _ h.blk, List.getElem?_toArray]
theorem Dt.c58 (h : Dt B kb raw im en q p g w0 s w) : w.cell? ⟨kb, 58, none⟩ = some (.int .i64 (q.pt : Int)) := (h.cell 58).trans (rdC_end (i := 0) h.him h.hen)
theorem Dt.c59 (h : Dt B kb raw im en q p g w0 s w) : w.cell? ⟨kb, 59, none⟩ = some (.pointer (some ⟨p, 0, none⟩)) := (h.cell 59).trans (rdC_end (i := 1) h.him h.hen)
theorem Dt.c60 (h : Dt B kb raw im en q p g w0 s w) : w.cell? ⟨kb, 60, none⟩ = some (.int .i64 s.sec) := (h.cell 60).trans (rdC_end (i := 2) h.him h.hen)
theorem Dt.c61 (h : Dt B kb raw im en q p g w0 s w) : w.cell? ⟨kb, 61, none⟩ = some (.int .i64 s.ad) := (h.cell 61).trans (rdC_end (i := 3) h.him h.hen)
theorem Dt.c62 (h : Dt B kb raw im en q p g w0 s w) : w.cell? ⟨kb, 62, none⟩ = some (.int .i64 s.why) := (h.cell 62).trans (rdC_end (i := 4) h.him h.hen)
theorem Dt.cfi (h : Dt B kb raw im en q p g w0 s w) : w.cell? ⟨kb, 13 + q.pt * 5 + 2, none⟩ = some (.int .i64 (q.fi : Int)) := by
 rw [show 13 + q.pt * 5 + 2 = 13 + (5 * q.pt + 2) by omega]
 exact (h.cell _).trans ((rdC_en h.him h.hen (by have := h.hpt; omega)).trans h.hfi)
theorem Dt.free (h : Dt B kb raw im en q p g w0 s w) (i : Nat) : w.frozen? ⟨kb, i, none⟩ = false := by simp [World.frozen?, h.blk]
theorem Dt.small (h : Dt B kb raw im en q p g w0 s w) : ∀ z ∈ q.Z, z < 256 := h.rd.2.2.2.2.1
theorem Dt.below (h : Dt B kb raw im en q p g w0 s w) (hb : Below w.heap.size w w') : Dt B kb raw im en q p g w0 s w' :=
 ⟨(hb.block kb h.lt).trans h.blk, h.him, h.hen, h.hpt, h.hfi, h.hlen, h.rd.keeps (Keeps.of_below (S := fun _ => False) hb) (fun h => h) (fun h => h), h.hB, h.fr.trans (Fd.of_below hb)⟩
/-- word's Reader went on -/
theorem Dt.took (h : Dt B kb raw im en q p g w0 s w) {n : Nat} {y : Int} (hr : Rd w' p g q.Z n y) (hk : Keeps (fun k => k = p) w w') : Dt B kb raw im en q p g w0 ⟨n, y, s.why, s.sec, s.ad⟩ w' :=
 ⟨(hk.block kb h.lt (fun e => h.ne e.symm)).trans h.blk, h.him, h.hen, h.hpt, h.hfi, h.hlen, hr, h.hB, h.fr.trans (Keeps.mono hk (fun k _ e => by subst e; exact ⟨h.hB.2.1, .inr ⟨_, h.rd.1⟩⟩))⟩
/-- a cell of the reader is written -/
theorem Dt.set (h : Dt B kb raw im en q p g w0 s w) {i : Nat} {u : Value} {im' : List Value} {s' : D} (he : (rdC raw im en q.pt p s.sec s.ad s.why).set i u = rdC raw im' en q.pt p s'.sec s'.ad s'.why) (hl : im'.length = 12) (h1 : s'.pos = s.pos) (h2 : s'.rw = s.rw) : Dt B kb raw im' en q p g w0 s' (w.setCell ⟨kb, i, none⟩ u) := by
 refine ⟨?_, hl, h.hen, h.hpt, h.hfi, h.hlen, ?_, h.hB, h.fr.trans (Keeps.mono (Keeps.setCell w kb i u) (fun k _ e => by subst e; exact ⟨h.hB.1, .inl ⟨_, h.blk⟩⟩))⟩
 ·rw [← he]
  simp [World.setCell, Array.getElem?_modify, h.blk]
 ·rw [h1, h2]
  exact h.rd.keeps (Keeps.setCell w kb i u) h.ne h.ne'
theorem Dt.setWhy (h : Dt B kb raw im en q p g w0 s w) (y : Int) : Dt B kb raw im en q p g w0 ⟨s.pos, s.rw, y, s.sec, s.ad⟩ (w.setCell ⟨kb, 62, none⟩ (.int .i64 y)) := h.set (rdC_setEnd (i := 4) h.him h.hen _) h.him rfl rfl
theorem Dt.setSec (h : Dt B kb raw im en q p g w0 s w) (y : Int) : Dt B kb raw im en q p g w0 ⟨s.pos, s.rw, s.why, y, s.ad⟩ (w.setCell ⟨kb, 60, none⟩ (.int .i64 y)) := h.set (rdC_setEnd (i := 2) h.him h.hen _) h.him rfl rfl
theorem Dt.setAd (h : Dt B kb raw im en q p g w0 s w) (y : Int) : Dt B kb raw im en q p g w0 ⟨s.pos, s.rw, s.why, s.sec, y⟩ (w.setCell ⟨kb, 61, none⟩ (.int .i64 y)) := h.set (rdC_setEnd (i := 3) h.him h.hen _) h.him rfl rfl
theorem Dt.setIm (h : Dt B kb raw im en q p g w0 s w) {i : Nat} (hi : i < 12) (u : Value) : Dt B kb raw (im.set i u) en q p g w0 s (w.setCell ⟨kb, 1 + i, none⟩ u) := h.set (rdC_setIm h.him hi u) (by rw [List.length_set]; exact h.him) rfl rfl
theorem Dt.drew (h : Dt B kb raw im en q p g w0 s w) : Dt B kb raw im en q p g w0 s w.drew := h.below ⟨rfl, rfl, rfl, Nat.le_refl _, fun _ _ => rfl⟩
/-- the same, from another world on -/
theorem Dt.here (h : Dt B kb raw im en q p g w0 s w) : Dt B kb raw im en q p g w s w := ⟨h.blk, h.him, h.hen, h.hpt, h.hfi, h.hlen, h.rd, h.hB, Fd.refl _ _⟩
theorem Dt.since {w1 : World} (h : Dt B kb raw im en q p g w1 s w) (k : Fd B w0 w1) : Dt B kb raw im en q p g w0 s w := ⟨h.blk, h.him, h.hen, h.hpt, h.hfi, h.hlen, h.rd, h.hB, k.trans h.fr⟩
end
end Go.Proofs.YtnifefmfhjfbnaaGreatDoor
