import Derived.Test.YtmfkggngjeolcaaGreatDoorPk05
import Derived.Test.YtmfkggngjeolcaaGreatDoorPk13
import Derived.Test.YtmfkggngjeolcaaGreatDoorPk06
/- Bundle: what the reader takes. Plain. Own work. -/
namespace Go.Proofs.YtmfkggngjeolcaaGreatDoor
set_option linter.unusedVariables false
open Bn
namespace Dc
/-- where a part's reading stands: the place, the Reader's refusal, the refusal and its place -/
structure D where
  pos : Nat
  rw : Int
  why : Int
  sec : Int
  ad : Int
/-- a part: its number, its first byte, its bytes -/
structure Pt where
  pt : Nat
  fi : Nat
  Z : List Nat
def takeD (q : Pt) (k : Nat) (s : D) : Nat × D :=
  if s.rw = 0 then if s.pos + k ≤ q.Z.length then (Pl.num k (q.Z.drop s.pos), ⟨s.pos + k, s.rw, s.why, s.sec, s.ad⟩) else (0, ⟨s.pos, 10, s.why, s.sec, s.ad⟩) else (0, s)
def askD (well : Bool) (no sec ad : Int) (s : D) : D := if well = false ∧ s.why = 0 then ⟨s.pos, s.rw, no, sec, ad⟩ else s
def formD (q : Pt) (well : Bool) (a : Nat) (s : D) : D := askD well 5 (q.pt : Int) ((q.fi + a : Nat) : Int) s
def goD (s : D) : Bool := decide (s.why = 0) && decide (s.rw = 0)
def noneV (n : Nat) : Int := if n = 65535 then -1 else (n : Int)
def noneD (q : Pt) (s : D) : Int × D := (noneV (takeD q 2 s).1, (takeD q 2 s).2)
def flagD (q : Pt) (s : D) : Bool × D := (decide ((takeD q 1 s).1 = 1), formD q (decide ((takeD q 1 s).1 ≤ 1)) s.pos (takeD q 1 s).2)
def bytesD (q : Pt) (n : Nat) (s : D) : List Nat × D :=
  if s.rw = 0 then if s.pos + n ≤ q.Z.length then ((q.Z.drop s.pos).take n, ⟨s.pos + n, s.rw, s.why, s.sec, s.ad⟩) else ([], ⟨s.pos, 10, s.why, s.sec, s.ad⟩) else ([], s)
def allZ (l : List Nat) : Bool := decide (∀ z ∈ l, z = 0)
def zerosD (q : Pt) (n : Nat) (s : D) : D := formD q (allZ (bytesD q n s).1) s.pos (bytesD q n s).2
def manyD (q : Pt) (s : D) : Nat × D := ((takeD q 2 s).1, zerosD q 6 (takeD q 2 s).2)
def padD (q : Pt) (al : Nat) (s : D) : D :=
  if s.rw = 0 then if s.pos + gapN s.pos al ≤ q.Z.length then if allZ ((q.Z.drop s.pos).take (gapN s.pos al)) = true then ⟨s.pos + gapN s.pos al, s.rw, s.why, s.sec, s.ad⟩ else ⟨s.pos, 5, s.why, s.sec, s.ad⟩ else ⟨s.pos, 10, s.why, s.sec, s.ad⟩ else s
def textD (q : Pt) (s : D) : ByteArray × D :=
  let a := takeD q 4 s
  let b := bytesD q a.1 (formD q (decide (a.1 ≤ 1048576) && decide (a.1 ≤ q.Z.length - a.2.pos)) s.pos a.2)
  (mkS b.1, padD q 8 b.2)
/-- one more, as long as all is well -/
def stepL {α : Type} (one : D → α × D) (t : List α × D) : List α × D := if goD t.2 = true then (t.1 ++ [(one t.2).1], (one t.2).2) else t
def listD {α : Type} (one : D → α × D) : Nat → D → List α × D
  | 0, s => ([], s)
  | k + 1, s => stepL one (listD one k s)
theorem listD_next {α : Type} (one : D → α × D) (k : Nat) (s : D) (h : goD (listD one k s).2 = true) : listD one (k + 1) s = ((listD one k s).1 ++ [(one (listD one k s).2).1], (one (listD one k s).2).2) := by
  rw [listD, stepL, if_pos h]
def spanD (q : Pt) (s : D) : Rg × D :=
  let a := takeD q 8 s
  let b := takeD q 8 a.2
  ((a.1, b.1), b.2)
def tenD (q : Pt) (s : D) : Tn × D :=
  let a := takeD q 1 s
  let b := flagD q a.2
  let c := takeD q 1 b.2
  let d := takeD q 1 c.2
  let e := noneD q d.2
  let f := noneD q e.2
  (⟨a.1, f.1, b.1, c.1, e.1, d.1⟩, f.2)
def portD (q : Pt) (s : D) : Int × D :=
  let a := noneD q s
  (a.1, zerosD q 6 a.2)
def gdD (q : Pt) (s : D) : Gd × D :=
  let a := takeD q 8 s
  let b := takeD q 8 a.2
  let c := takeD q 1 b.2
  let d := textD q (zerosD q 3 c.2)
  (⟨a.1, b.1, c.1, d.1⟩, d.2)
def chD (q : Pt) (s : D) : Lk × D :=
  let a := noneD q s
  let b := noneD q a.2
  let c := takeD q 1 b.2
  let d := takeD q 1 c.2
  (⟨a.1, b.1, c.1, d.1, false⟩, zerosD q 2 d.2)
def iqD (q : Pt) (s : D) : Lk × D :=
  let a := noneD q s
  let b := noneD q a.2
  let c := takeD q 1 b.2
  let d := flagD q c.2
  (⟨a.1, b.1, 1, c.1, d.1⟩, zerosD q 2 d.2)
def stD (q : Pt) (s : D) : (Int × Int) × D :=
  let a := noneD q s
  let b := takeD q 4 (zerosD q 2 a.2)
  ((a.1, b.1), b.2)
def laneD (q : Pt) (s : D) : List (Int × Int) × D := listD (stD q) (manyD q s).1 (manyD q s).2
def planD (q : Pt) (n : Nat) (s : D) : Sc × D :=
  let a := takeD q 4 s
  let b := listD (laneD q) n (zerosD q 4 a.2)
  (⟨a.1, b.1⟩, b.2)
end Dc
end Go.Proofs.YtmfkggngjeolcaaGreatDoor
/- Bundle: the reader, where it stands. Own work. -/
namespace Go.Proofs.YtmfkggngjeolcaaGreatDoor
open Go.RowKit Bn Dc
set_option linter.unusedVariables false
set_option linter.unusedSimpArgs false
/-- what the reader may write: its own block and word's Reader, from B on -/
def FdS (B : Nat) (w : World) (k : Nat) : Prop := B ≤ k ∧ (Tagd w 144 k ∨ Tagd w 191 k)
def Fd (B : Nat) (w w' : World) : Prop := Keeps (FdS B w) w w'
theorem Fd.refl (B : Nat) (w : World) : Fd B w w := Keeps.refl _ _
theorem Fd.trans {B : Nat} {a b c : World} (h : Fd B a b) (k : Fd B b c) : Fd B a c := by
  refine ⟨k.os.trans h.os, k.tape.trans h.tape, k.output.trans h.output, Nat.le_trans h.size k.size, fun i hi hn => ?_⟩
  have e := h.block i hi hn
  refine (k.block i (Nat.lt_of_lt_of_le hi h.size) (fun hs => hn ?_)).trans e
  obtain ⟨h0, hs⟩ := hs
  have tg : ∀ t, Tagd b t i → Tagd a t i := fun t ⟨cur, hc⟩ => ⟨cur, e.symm.trans hc⟩
  exact ⟨h0, hs.imp (tg _) (tg _)⟩
theorem Fd.of_below {B : Nat} {w w' : World} (h : Below w.heap.size w w') : Fd B w w' := Keeps.of_below h
theorem Fd.below {B : Nat} {w w' : World} (h : Fd B w w') (hB : B ≤ w.heap.size) : Below B w w' := Keeps.below h hB (fun k hk e => e.1)
theorem Fd.block' {B : Nat} {w w' : World} (h : Fd B w w') {t : TypeId} {g : Nat} (hg : Tagd w t g) (h1 : t ≠ 144) (h2 : t ≠ 191) : w'.heap[g]? = w.heap[g]? := Keeps.block h g (by obtain ⟨c, hc⟩ := hg; exact (Array.getElem?_eq_some_iff.1 hc).1) (by
  rintro ⟨_, e | e⟩
  · exact h1 (tag_same hg e)
  · exact h2 (tag_same hg e))
/-- the reader's cells -/
def rdC (raw : Value) (im en : List Value) (pt : Nat) (p : Nat) (sec ad why : Int) : List Value := raw :: (im ++ (en ++ [.int .i64 (pt : Int), .pointer (some ⟨p, 0, none⟩), .int .i64 sec, .int .i64 ad, .int .i64 why]))
section
variable {raw : Value} {im en : List Value} {pt p : Nat} {sec ad why : Int}
theorem rdC_end {i : Nat} (h : im.length = 12) (he : en.length = 45) : (rdC raw im en pt p sec ad why)[58 + i]? = [Value.int .i64 (pt : Int), .pointer (some ⟨p, 0, none⟩), .int .i64 sec, .int .i64 ad, .int .i64 why][i]? := by
  unfold rdC
  rw [show 58 + i = (57 + i) + 1 by omega, List.getElem?_cons_succ, List.getElem?_append_right (by omega), h, List.getElem?_append_right (by omega), he, show 57 + i - 12 - 45 = i by omega]
theorem rdC_setEnd {i : Nat} (h : im.length = 12) (he : en.length = 45) (u : Value) : (rdC raw im en pt p sec ad why).set (58 + i) u = raw :: (im ++ (en ++ [Value.int .i64 (pt : Int), .pointer (some ⟨p, 0, none⟩), .int .i64 sec, .int .i64 ad, .int .i64 why].set i u)) := by
  unfold rdC
  rw [show 58 + i = (57 + i) + 1 by omega, List.set_cons_succ, List.set_append_right _ _ (by omega), h, List.set_append_right _ _ (by omega), he, show 57 + i - 12 - 45 = i by omega]
end
/-- where the reader stands within a part -/
structure Dt (B kb : Nat) (raw : Value) (im en : List Value) (q : Pt) (p g : Nat) (w0 : World) (s : D) (w : World) : Prop where
  blk : w.heap[kb]? = some (.cells (rdC raw im en q.pt p s.sec s.ad s.why).toArray 144 (0, 0))
  him : im.length = 12
  hen : en.length = 45
  hpt : q.pt < 9
  hfi : en[5 * q.pt + 2]? = some (.int .i64 (q.fi : Int))
  hlen : q.fi + q.Z.length ≤ 1099511627776
  rd : Rd w p g q.Z s.pos s.rw
  hB : B ≤ kb ∧ B ≤ p ∧ B ≤ g
  fr : Fd B w0 w
section
variable {B kb : Nat} {raw : Value} {im en : List Value} {q : Pt} {p g : Nat} {w0 : World} {s : D} {w w' : World}
theorem Dt.lt (h : Dt B kb raw im en q p g w0 s w) : kb < w.heap.size := (Array.getElem?_eq_some_iff.1 h.blk).1
theorem Dt.le (h : Dt B kb raw im en q p g w0 s w) : B ≤ w.heap.size := by have := h.lt; have := h.hB.1; omega
theorem Dt.ne (h : Dt B kb raw im en q p g w0 s w) : p ≠ kb := by
  intro e
  have h1 := h.rd.1
  rw [e, h.blk] at h1
  simp at h1
theorem Dt.ne' (h : Dt B kb raw im en q p g w0 s w) : g ≠ kb := by
  intro e
  obtain ⟨c, hc⟩ : ∃ c, w.heap[g]? = some (.cells c 5 (0, 0)) := ⟨_, h.rd.2.1⟩
  rw [e, h.blk] at hc
  simp at hc
theorem Dt.cell (h : Dt B kb raw im en q p g w0 s w) (i : Nat) : w.cell? ⟨kb, i, none⟩ = (rdC raw im en q.pt p s.sec s.ad s.why)[i]? := by
  rw [cell_of_row _ _ i _ _ _ h.blk, List.getElem?_toArray]
theorem Dt.c59 (h : Dt B kb raw im en q p g w0 s w) : w.cell? ⟨kb, 59, none⟩ = some (.pointer (some ⟨p, 0, none⟩)) := (h.cell 59).trans (rdC_end (i := 1) h.him h.hen)
theorem Dt.free (h : Dt B kb raw im en q p g w0 s w) (i : Nat) : w.frozen? ⟨kb, i, none⟩ = false := by simp [World.frozen?, h.blk]
theorem Dt.small (h : Dt B kb raw im en q p g w0 s w) : ∀ z ∈ q.Z, z < 256 := h.rd.2.2.2.2.1
theorem Dt.below (h : Dt B kb raw im en q p g w0 s w) (hb : Below w.heap.size w w') : Dt B kb raw im en q p g w0 s w' :=
  ⟨(hb.block kb h.lt).trans h.blk, h.him, h.hen, h.hpt, h.hfi, h.hlen, h.rd.keeps (Keeps.of_below (S := fun _ => False) hb) (fun h => h) (fun h => h), h.hB, h.fr.trans (Fd.of_below hb)⟩
/-- word's Reader went on -/
theorem Dt.took (h : Dt B kb raw im en q p g w0 s w) {n : Nat} {y : Int} (hr : Rd w' p g q.Z n y) (hk : Keeps (fun k => k = p) w w') : Dt B kb raw im en q p g w0 ⟨n, y, s.why, s.sec, s.ad⟩ w' :=
  ⟨(hk.block kb h.lt (fun e => h.ne e.symm)).trans h.blk, h.him, h.hen, h.hpt, h.hfi, h.hlen, hr, h.hB, h.fr.trans (Keeps.mono hk (fun k _ e => by subst e; exact ⟨h.hB.2.1, .inr ⟨_, h.rd.1⟩⟩))⟩
/-- a cell of the reader is written -/
theorem Dt.set (h : Dt B kb raw im en q p g w0 s w) {i : Nat} {u : Value} {im' : List Value} {s' : D} (he : (rdC raw im en q.pt p s.sec s.ad s.why).set i u = rdC raw im' en q.pt p s'.sec s'.ad s'.why) (hl : im'.length = 12) (h1 : s'.pos = s.pos) (h2 : s'.rw = s.rw) : Dt B kb raw im' en q p g w0 s' (w.setCell ⟨kb, i, none⟩ u) := by
  refine ⟨?_, hl, h.hen, h.hpt, h.hfi, h.hlen, ?_, h.hB, h.fr.trans (Keeps.mono (Keeps.setCell w kb i u) (fun k _ e => by subst e; exact ⟨h.hB.1, .inl ⟨_, h.blk⟩⟩))⟩
  · rw [← he]
    simp [World.setCell, Array.getElem?_modify, h.blk]
  · rw [h1, h2]
    exact h.rd.keeps (Keeps.setCell w kb i u) h.ne h.ne'
theorem Dt.setWhy (h : Dt B kb raw im en q p g w0 s w) (y : Int) : Dt B kb raw im en q p g w0 ⟨s.pos, s.rw, y, s.sec, s.ad⟩ (w.setCell ⟨kb, 62, none⟩ (.int .i64 y)) := h.set (rdC_setEnd (i := 4) h.him h.hen _) h.him rfl rfl
theorem Dt.drew (h : Dt B kb raw im en q p g w0 s w) : Dt B kb raw im en q p g w0 s w.drew := h.below ⟨rfl, rfl, rfl, Nat.le_refl _, fun _ _ => rfl⟩
/-- the same, from another world on -/
theorem Dt.here (h : Dt B kb raw im en q p g w0 s w) : Dt B kb raw im en q p g w s w := ⟨h.blk, h.him, h.hen, h.hpt, h.hfi, h.hlen, h.rd, h.hB, Fd.refl _ _⟩
theorem Dt.since {w1 : World} (h : Dt B kb raw im en q p g w1 s w) (k : Fd B w0 w1) : Dt B kb raw im en q p g w0 s w := ⟨h.blk, h.him, h.hen, h.hpt, h.hfi, h.hlen, h.rd, h.hB, k.trans h.fr⟩
end
end Go.Proofs.YtmfkggngjeolcaaGreatDoor
/- string(b); Reader.Text; Reader.Bytes refused. -/
namespace Go.Proofs.YtmfkggngjeolcaaGreatDoor
open Go.RowKit
end Go.Proofs.YtmfkggngjeolcaaGreatDoor
