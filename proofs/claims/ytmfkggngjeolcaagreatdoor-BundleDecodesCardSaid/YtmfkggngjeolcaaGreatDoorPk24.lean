import Derived.Test.YtmfkggngjeolcaaGreatDoorPk07
import Derived.Test.YtmfkggngjeolcaaGreatDoorPk23
set_option linter.unusedSimpArgs false
set_option linter.unusedVariables false
namespace Go.Proofs.YtmfkggngjeolcaaGreatDoor
open Bn Dc
namespace Dd
structure R where
 ps : Nat
 bad : Int
structure Q where
 bs : List Nat
 en : Nat
def goR (r : R) : Bool := decide (r.bad < 0)
def refR (a : Nat) (r : R) : R := if r.bad < 0 then ⟨r.ps, (a : Int)⟩ else r
def numR (q : Q) (k : Nat) (r : R) : Nat × R := if r.bad < 0 then if r.ps + k ≤ q.en then (Pl.num k (q.bs.drop r.ps), ⟨r.ps + k, r.bad⟩) else (0, ⟨r.ps, (r.ps : Int)⟩) else (0, r)
def noneR (q : Q) (r : R) : Int × R := (noneV (numR q 2 r).1, (numR q 2 r).2)
def zerosR (q : Q) (n : Nat) (r : R) : R := if r.bad < 0 then if r.ps + n ≤ q.en then if allZ ((q.bs.drop r.ps).take n) = true then ⟨r.ps + n, r.bad⟩ else ⟨r.ps, (r.ps : Int)⟩ else ⟨r.ps, (r.ps : Int)⟩ else r
def flagR (q : Q) (r : R) : Bool × R := (decide ((numR q 1 r).1 = 1), if (numR q 1 r).1 ≤ 1 then (numR q 1 r).2 else refR r.ps (numR q 1 r).2)
def manyR (q : Q) (r : R) : Nat × R := ((numR q 2 r).1, zerosR q 6 (numR q 2 r).2)
def stepR {α : Type} (one : R → α × R) (t : List α × R) : List α × R := if goR t.2 = true then (t.1 ++ [(one t.2).1], (one t.2).2) else t
def listR {α : Type} (one : R → α × R) : Nat → R → List α × R
 | 0, s => ([], s)
 | k + 1, s => stepR one (listR one k s)
theorem listR_stop {α : Type} (one : R → α × R) (k : Nat) (s : R) (h : ¬ goR (listR one k s).2 = true) (m : Nat) (hm : k ≤ m) : listR one m s = listR one k s := by
 induction m with
 | zero => rw [show k = 0 by omega]
 | succ m ih =>
  by_cases hk : k = m + 1
  ·rw [hk]
  ·rw [listR, ih (by omega), stepR, if_neg h]
theorem listR_next {α : Type} (one : R → α × R) (k : Nat) (s : R) (h : goR (listR one k s).2 = true) : listR one (k + 1) s = ((listR one k s).1 ++ [(one (listR one k s).2).1], (one (listR one k s).2).2) := by
 rw [listR, stepR, if_pos h]
theorem listR_len {α : Type} (one : R → α × R) (k : Nat) (s : R) : (listR one k s).1.length ≤ k := by
 induction k with
 | zero => simp [listR]
 | succ k ih =>
  rw [listR, stepR]
  split
  ·simp; omega
  ·omega
def spanR (q : Q) (s : R) : Rg × R :=
 let a := numR q 8 s
 let b := numR q 8 a.2
 ((a.1, b.1), b.2)
def tenR (q : Q) (s : R) : Tn × R :=
 let a := numR q 1 s
 let b := flagR q a.2
 let c := numR q 1 b.2
 let d := numR q 1 c.2
 let e := noneR q d.2
 let f := noneR q e.2
 (⟨a.1, f.1, b.1, c.1, e.1, d.1⟩, f.2)
def portR (q : Q) (s : R) : Int × R :=
 let a := noneR q s
 (a.1, zerosR q 6 a.2)
def longR (q : Q) (a n : Nat) (r : R) : R := if r.bad < 0 ∧ (1048576 < n ∨ q.en < r.ps + n) then refR a r else r
def cutR (q : Q) (n : Nat) (r : R) : ByteArray × R := if r.bad < 0 then (mkS ((q.bs.drop r.ps).take n), ⟨r.ps + n, r.bad⟩) else (mkS [], r)
def textR (q : Q) (s : R) : ByteArray × R :=
 let a := numR q 4 s
 let b := cutR q a.1 (longR q s.ps a.1 a.2)
 (b.1, zerosR q ((8 - a.1 % 8) % 8) b.2)
def gdR (q : Q) (s : R) : Gd × R :=
 let a := numR q 8 s
 let b := numR q 8 a.2
 let c := numR q 1 b.2
 let d := textR q (zerosR q 3 c.2)
 (⟨a.1, b.1, c.1, d.1⟩, d.2)
def chR (q : Q) (s : R) : Lk × R :=
 let a := noneR q s
 let b := noneR q a.2
 let c := numR q 1 b.2
 let d := numR q 1 c.2
 (⟨a.1, b.1, c.1, d.1, false⟩, zerosR q 2 d.2)
def iqR (q : Q) (s : R) : Lk × R :=
 let a := noneR q s
 let b := noneR q a.2
 let c := numR q 1 b.2
 let d := flagR q c.2
 (⟨a.1, b.1, 1, c.1, d.1⟩, zerosR q 2 d.2)
def stR (q : Q) (s : R) : (Int × Int) × R :=
 let a := noneR q s
 let b := numR q 4 (zerosR q 2 a.2)
 ((a.1, (b.1 : Int)), b.2)
def laneR (q : Q) (s : R) : List (Int × Int) × R := listR (stR q) (manyR q s).1 (manyR q s).2
def planR (q : Q) (n : Nat) (s : R) : Sc × R :=
 let a := numR q 4 s
 let b := listR (laneR q) n (zerosR q 4 a.2)
 (⟨a.1, b.1⟩, b.2)
end Dd
end Go.Proofs.YtmfkggngjeolcaaGreatDoor
namespace Go.Proofs.YtmfkggngjeolcaaGreatDoor
open Bn Dc
namespace Dd
def busR (q : Q) (s : R) : BusR × R :=
 let a := numR q 2 s
 let b := numR q 2 a.2
 let c := listR (spanR q) a.1 (zerosR q 4 b.2)
 let d := listR (spanR q) b.1 c.2
 (⟨c.1, d.1⟩, d.2)
def portsR (q : Q) (m : Nat) (s : R) : List Int × R :=
 let a := numR q 2 s
 listR (portR q) a.1 (zerosR q 6 (if a.2.bad < 0 ∧ a.1 ≠ m then refR s.ps a.2 else a.2))
def plansR (q : Q) (s : R) : PlR × R :=
 let a := numR q 2 s
 let b := numR q 2 a.2
 let c := noneR q (if a.1 = 0 ∧ 0 < b.1 then refR a.2.ps b.2 else b.2)
 let d := numR q 2 c.2
 let e := listR (planR q b.1) a.1 d.2
 (⟨e.1, c.1, d.1⟩, e.2)
def tabR (q : Q) (s : R) : (Nat → Nat) × R := (numT ((q.bs.drop s.ps).take 4096), ⟨s.ps + 4096, s.bad⟩)
def tabsR (q : Q) (s : R) : List (Nat → Nat) × R := listR (tabR q) ((q.en - s.ps) / 4096) s
structure Fit (q : Pt) (p : Q) : Prop where
 z : q.Z = (p.bs.drop q.fi).take q.Z.length
 e : p.en = q.fi + q.Z.length
def Rel (q : Pt) (s : D) (r : R) : Prop := (s.why = 0 ∧ s.rw = 0 ∧ r.bad = -1 ∧ r.ps = q.fi + s.pos ∧ s.pos ≤ q.Z.length) ∨ (s.why = 0 ∧ s.rw ≠ 0 ∧ r.bad = ((q.fi + s.pos : Nat) : Int)) ∨ (s.why = 5 ∧ s.sec = (q.pt : Int) ∧ r.bad = s.ad ∧ 0 ≤ r.bad)
section
variable {q : Pt} {p : Q} {s : D} {r : R}
theorem Rel.go (h : Rel q s r) : goD s = goR r := by
 rcases h with ⟨h1, h2, h3, h4, h5⟩ | ⟨h1, h2, h3⟩ | ⟨h1, h2, h3, h4⟩
 ·simp [goD, goR, h1, h2, h3]
 ·have : ¬ r.bad < 0 := by omega
  simp [goD, goR, h2, this]
 ·have : ¬ r.bad < 0 := by omega
  simp [goD, goR, h1, this]
theorem Rel.ok (h : Rel q s r) (hg : goD s = true) : s.why = 0 ∧ s.rw = 0 ∧ r.bad = -1 ∧ r.ps = q.fi + s.pos ∧ s.pos ≤ q.Z.length := by
 rcases h with h | ⟨h1, h2, h3⟩ | ⟨h1, h2, h3, h4⟩
 ·exact h
 ·simp [goD, h2] at hg
 ·simp [goD, h1] at hg
theorem Rel.no (h : Rel q s r) (hg : ¬ goD s = true) : 0 ≤ r.bad := by
 rcases h with ⟨h1, h2, h3, h4, h5⟩ | ⟨h1, h2, h3⟩ | ⟨h1, h2, h3, h4⟩
 ·simp [goD, h1, h2] at hg
 ·omega
 ·exact h4
theorem acc_take0 (zs : List Nat) (n : Nat) : ∀ (m k : Nat), k + m ≤ n → Pl.acc (zs.take n) k m = Pl.acc zs k m
 | 0, k, _ => rfl
 | m + 1, k, h => by
  show (zs.take n).getD k 0 + 256 * Pl.acc (zs.take n) (k + 1) m = zs.getD k 0 + 256 * Pl.acc zs (k + 1) m
  rw [acc_take0 zs n m (k + 1) (by omega), List.getD_eq_getElem?_getD, List.getD_eq_getElem?_getD, List.getElem?_take, if_pos (by omega)]
theorem num_take0 (m : Nat) (zs : List Nat) : Pl.num m (zs.take m) = Pl.num m zs := acc_take0 zs m m 0 (by omega)
theorem num_cut (hf : Fit q p) {k a : Nat} (h : a + k ≤ q.Z.length) : Pl.num k (p.bs.drop (q.fi + a)) = Pl.num k (q.Z.drop a) := by
 rw [← num_take0 k (p.bs.drop (q.fi + a)), ← num_take0 k (q.Z.drop a)]
 congr 1
 conv => rhs; rw [hf.z]
 rw [List.drop_take, List.take_take, List.drop_drop, Nat.min_eq_left (by omega)]
theorem cut_same (hf : Fit q p) {k a : Nat} (h : a + k ≤ q.Z.length) : (p.bs.drop (q.fi + a)).take k = (q.Z.drop a).take k := by
 conv => rhs; rw [hf.z]
 rw [List.drop_take, List.take_take, List.drop_drop, Nat.min_eq_left (by omega)]
theorem num_rel (hf : Fit q p) (k : Nat) (h : Rel q s r) : Rel q (takeD q k s).2 (numR p k r).2 ∧ (goD (takeD q k s).2 = true → (takeD q k s).1 = (numR p k r).1) := by
 rcases h with ⟨h1, h2, h3, h4, h5⟩ | ⟨h1, h2, h3⟩ | ⟨h1, h2, h3, h4⟩
 ·have hb : r.bad < 0 := by omega
  unfold takeD numR;rw [if_pos h2, if_pos hb]
  by_cases hl : s.pos + k ≤ q.Z.length
  ·rw [if_pos hl, if_pos (by rw [hf.e]; omega)];exact ⟨.inl ⟨h1, h2, h3, show r.ps + k = q.fi + (s.pos + k) by omega, hl⟩, fun _ => by rw [h4]; exact (num_cut hf hl).symm⟩
  ·rw [if_neg hl, if_neg (by rw [hf.e]; omega)];exact ⟨.inr (.inl ⟨h1, by show (10 : Int) ≠ 0; decide, by show (r.ps : Int) = _; rw [h4]⟩), fun e => by simp [goD] at e⟩
 ·have hb : ¬ r.bad < 0 := by omega
  unfold takeD numR;rw [if_neg h2, if_neg hb];exact ⟨.inr (.inl ⟨h1, h2, h3⟩), fun _ => rfl⟩
 ·have hb : ¬ r.bad < 0 := by omega
  unfold numR;rw [if_neg hb];have hw : (takeD q k s).2.why = 5 ∧ (takeD q k s).2.sec = s.sec ∧ (takeD q k s).2.ad = s.ad := by
   unfold takeD
   split
   ·split <;> exact ⟨h1, rfl, rfl⟩
   ·exact ⟨h1, rfl, rfl⟩
  exact ⟨.inr (.inr ⟨hw.1, hw.2.1.trans h2, h3.trans hw.2.2.symm, h4⟩), fun e => by simp [goD, hw.1] at e⟩
theorem form_rel (hf : Fit q p) {b : Bool} {a c : Nat} (h : Rel q s r) (hc : goD s = true → c = q.fi + a) (hr : s.why = 0 → s.rw ≠ 0 → b = true) : Rel q (formD q b a s) (if b = true then r else refR c r) := by
 cases b with
 | true =>
  have : formD q true a s = s := by simp [formD, askD]
  rw [this, if_pos rfl];exact h
 | false =>
  rw [if_neg (by decide)];rcases h with ⟨h1, h2, h3, h4, h5⟩ | ⟨h1, h2, h3⟩ | ⟨h1, h2, h3, h4⟩
  ·have hb : r.bad < 0 := by omega
   rw [refR, if_pos hb, formD, askD, if_pos ⟨rfl, h1⟩, hc (by simp [goD, h1, h2])];exact .inr (.inr ⟨rfl, rfl, rfl, by show (0 : Int) ≤ ((q.fi + a : Nat) : Int); omega⟩)
  ·exact absurd (hr h1 h2) (by decide)
  ·have hb : ¬ r.bad < 0 := by omega
   rw [refR, if_neg hb, formD, askD, if_neg (by rintro ⟨_, e⟩; omega)];exact .inr (.inr ⟨h1, h2, h3, h4⟩)
theorem none_rel (hf : Fit q p) (h : Rel q s r) : Rel q (Dc.noneD q s).2 (noneR p r).2 ∧ (goD (Dc.noneD q s).2 = true → (Dc.noneD q s).1 = (noneR p r).1) := by
 obtain ⟨h1, h2⟩ := num_rel hf 2 h;exact ⟨h1, fun e => by show noneV _ = noneV _; rw [h2 e]⟩
theorem zeros_rel (hf : Fit q p) (n : Nat) (h : Rel q s r) : Rel q (zerosD q n s) (zerosR p n r) := by
 rcases h with ⟨h1, h2, h3, h4, h5⟩ | ⟨h1, h2, h3⟩ | ⟨h1, h2, h3, h4⟩
 ·have hb : r.bad < 0 := by omega
  unfold zerosD zerosR bytesD;rw [if_pos h2, if_pos hb]
  by_cases hl : s.pos + n ≤ q.Z.length
  ·rw [if_pos hl, if_pos (by rw [hf.e]; omega), h4, cut_same hf hl]
   by_cases hz : allZ ((q.Z.drop s.pos).take n) = true
   ·rw [if_pos hz];simp only [hz];rw [show ∀ t : D, formD q true s.pos t = t from fun t => by simp [formD, askD]];exact .inl ⟨h1, h2, h3, show q.fi + s.pos + n = q.fi + (s.pos + n) by omega, hl⟩
   ·rw [if_neg hz];have hz2 : allZ ((q.Z.drop s.pos).take n) = false := by simpa using hz
    simp only [hz2, formD, askD];rw [if_pos ⟨trivial, h1⟩];exact .inr (.inr ⟨rfl, rfl, rfl, by show (0 : Int) ≤ ((q.fi + s.pos : Nat) : Int); omega⟩)
  ·rw [if_neg hl, if_neg (by rw [hf.e]; omega)];rw [show allZ ([] : List Nat) = true from rfl, show ∀ t : D, formD q true s.pos t = t from fun t => by simp [formD, askD]];exact .inr (.inl ⟨h1, by show (10 : Int) ≠ 0; decide, by show (r.ps : Int) = _; rw [h4]⟩)
 ·have hb : ¬ r.bad < 0 := by omega
  unfold zerosD zerosR bytesD;rw [if_neg h2, if_neg hb, show allZ ([] : List Nat) = true from rfl, show ∀ t : D, formD q true s.pos t = t from fun t => by simp [formD, askD]];exact .inr (.inl ⟨h1, h2, h3⟩)
 ·have hb : ¬ r.bad < 0 := by omega
  unfold zerosR;rw [if_neg hb];have hw : (zerosD q n s).why = 5 ∧ (zerosD q n s).sec = s.sec ∧ (zerosD q n s).ad = s.ad := by
   have hw : (bytesD q n s).2.why = 5 ∧ (bytesD q n s).2.sec = s.sec ∧ (bytesD q n s).2.ad = s.ad := by
    unfold bytesD
    split
    ·split <;> exact ⟨h1, rfl, rfl⟩
    ·exact ⟨h1, rfl, rfl⟩
   unfold zerosD formD askD;rw [if_neg (by rintro ⟨_, e⟩; omega)];exact hw
  exact .inr (.inr ⟨hw.1, hw.2.1.trans h2, h3.trans hw.2.2.symm, h4⟩)
theorem num_mono {k : Nat} (h : goD (takeD q k s).2 = true) : goD s = true := by
 unfold takeD at h
 split at h
 ·rename_i h2
  split at h
  ·exact h
  ·simp [goD] at h
 ·exact h
theorem form_mono {b : Bool} {a : Nat} (h : goD (formD q b a s) = true) : goD s = true ∧ b = true := by
 unfold formD askD at h
 split at h
 ·simp [goD] at h
 ·rename_i hn
  refine ⟨h, ?_⟩
  cases b with
  | true => rfl
  | false =>
   have : s.why = 0 := by
    simp [goD] at h
    exact h.1
   exact absurd ⟨rfl, this⟩ hn
theorem bytes_mono {k : Nat} (h : goD (bytesD q k s).2 = true) : goD s = true := by
 unfold bytesD at h
 split at h
 ·rename_i h2
  split at h
  ·exact h
  ·simp [goD] at h
 ·exact h
theorem zeros_mono {k : Nat} (h : goD (zerosD q k s) = true) : goD s = true := bytes_mono (form_mono h).1
theorem flag_rel (hf : Fit q p) (h : Rel q s r) : Rel q (Dc.flagD q s).2 (flagR p r).2 ∧ (goD (Dc.flagD q s).2 = true → (Dc.flagD q s).1 = (flagR p r).1) := by
 obtain ⟨h1, h2⟩ := num_rel hf 1 h;refine ⟨?_, fun e => ?_⟩
 ·by_cases hg : goD (takeD q 1 s).2 = true
  ·have := form_rel hf (b := decide ((takeD q 1 s).1 ≤ 1)) (a := s.pos) (c := r.ps) h1 (fun _ => (h.ok (num_mono hg)).2.2.2.1) (fun e1 e2 => by
    simp [goD, e1, e2] at hg)
   unfold Dc.flagD flagR;rw [h2 hg] at this ⊢
   simpa using this
  ·have h0 := h1.no hg;have e0 : (numR p 1 r).1 = 0 := by
    unfold numR at h0 ⊢
    split
    ·rename_i hb
     rw [if_pos hb] at h0
     split
     ·rename_i hl
      rw [if_pos hl] at h0;simp only at h0;omega
     ·rfl
    ·rfl
   have hr : (flagR p r).2 = (numR p 1 r).2 := by
    unfold flagR;rw [e0]
    rfl
   rw [hr];rcases h1 with ⟨k1, k2, k3, k4, k5⟩ | ⟨k1, k2, k3⟩ | ⟨k1, k2, k3, k4⟩
   ·simp [goD, k1, k2] at hg
   ·have e1 : (takeD q 1 s).1 = 0 := by
     unfold takeD at k2 ⊢
     split
     ·rename_i hb
      rw [if_pos hb] at k2
      split
      ·rename_i hl
       rw [if_pos hl] at k2;exact absurd hb k2
      ·rfl
     ·rfl
    unfold Dc.flagD;rw [e1, show decide (0 ≤ 1) = true from rfl, show ∀ t : D, formD q true s.pos t = t from fun t => by simp [formD, askD]];exact .inr (.inl ⟨k1, k2, k3⟩)
   ·unfold Dc.flagD formD askD;rw [if_neg (by rintro ⟨_, e⟩; omega)];exact .inr (.inr ⟨k1, k2, k3, k4⟩)
 ·show decide _ = decide _
  rw [h2 (form_mono e).1]
theorem many_rel (hf : Fit q p) (h : Rel q s r) : Rel q (manyD q s).2 (manyR p r).2 ∧ (goD (manyD q s).2 = true → (manyD q s).1 = (manyR p r).1) := by
 obtain ⟨h1, h2⟩ := num_rel hf 2 h;exact ⟨zeros_rel hf 6 h1, fun e => h2 (zeros_mono e)⟩
end
end Dd
end Go.Proofs.YtmfkggngjeolcaaGreatDoor
namespace Go.Proofs.YtmfkggngjeolcaaGreatDoor
open Bn Dc
namespace Dd
section
variable {q : Pt} {p : Q} {s : D} {r : R}
theorem span_rel (hf : Fit q p) (h : Rel q s r) : Rel q (spanD q s).2 (spanR p r).2 ∧ (goD (spanD q s).2 = true → (spanD q s).1 = (spanR p r).1) := by
 obtain ⟨a1, a2⟩ := num_rel hf 8 h;obtain ⟨b1, b2⟩ := num_rel hf 8 a1;exact ⟨b1, fun e => Prod.ext (a2 (num_mono e)) (b2 e)⟩
theorem span_mono (h : goD (spanD q s).2 = true) : goD s = true := num_mono (num_mono h)
theorem flag_mono (h : goD (Dc.flagD q s).2 = true) : goD s = true := num_mono (form_mono h).1
theorem many_mono (h : goD (manyD q s).2 = true) : goD s = true := num_mono (zeros_mono h)
theorem ten_rel (hf : Fit q p) (h : Rel q s r) : Rel q (Dc.tenD q s).2 (tenR p r).2 ∧ (goD (Dc.tenD q s).2 = true → (Dc.tenD q s).1 = (tenR p r).1) := by
 obtain ⟨a1, a2⟩ := num_rel hf 1 h;obtain ⟨b1, b2⟩ := flag_rel hf a1;obtain ⟨c1, c2⟩ := num_rel hf 1 b1;obtain ⟨d1, d2⟩ := num_rel hf 1 c1;obtain ⟨e1, e2⟩ := none_rel hf d1;obtain ⟨f1, f2⟩ := none_rel hf e1;refine ⟨f1, fun g => ?_⟩;have g5 := num_mono g;have g4 := num_mono g5;have g3 := num_mono g4;have g2 := num_mono g3;have g1 := flag_mono g2
 show Tn.mk _ _ _ _ _ _ = Tn.mk _ _ _ _ _ _
 rw [f2 g, e2 g5, d2 g4, c2 g3, b2 g2, a2 g1]
theorem ten_mono (h : goD (Dc.tenD q s).2 = true) : goD s = true := num_mono (flag_mono (num_mono (num_mono (num_mono (num_mono h)))))
theorem port_rel (hf : Fit q p) (h : Rel q s r) : Rel q (Dc.portD q s).2 (portR p r).2 ∧ (goD (Dc.portD q s).2 = true → (Dc.portD q s).1 = (portR p r).1) := by
 obtain ⟨a1, a2⟩ := none_rel hf h;exact ⟨zeros_rel hf 6 a1, fun e => a2 (zeros_mono e)⟩
theorem port_mono (h : goD (Dc.portD q s).2 = true) : goD s = true := num_mono (zeros_mono h)
theorem ch_rel (hf : Fit q p) (h : Rel q s r) : Rel q (Dc.chD q s).2 (chR p r).2 ∧ (goD (Dc.chD q s).2 = true → (Dc.chD q s).1 = (chR p r).1) := by
 obtain ⟨a1, a2⟩ := none_rel hf h;obtain ⟨b1, b2⟩ := none_rel hf a1;obtain ⟨c1, c2⟩ := num_rel hf 1 b1;obtain ⟨d1, d2⟩ := num_rel hf 1 c1;refine ⟨zeros_rel hf 2 d1, fun g => ?_⟩;have g4 := zeros_mono g;have g3 := num_mono g4;have g2 := num_mono g3;have g1 := num_mono g2
 show Lk.mk _ _ _ _ _ = Lk.mk _ _ _ _ _
 rw [d2 g4, c2 g3, b2 g2, a2 g1]
theorem ch_mono (h : goD (Dc.chD q s).2 = true) : goD s = true := num_mono (num_mono (num_mono (num_mono (zeros_mono h))))
theorem iq_rel (hf : Fit q p) (h : Rel q s r) : Rel q (Dc.iqD q s).2 (iqR p r).2 ∧ (goD (Dc.iqD q s).2 = true → (Dc.iqD q s).1 = (iqR p r).1) := by
 obtain ⟨a1, a2⟩ := none_rel hf h;obtain ⟨b1, b2⟩ := none_rel hf a1;obtain ⟨c1, c2⟩ := num_rel hf 1 b1;obtain ⟨d1, d2⟩ := flag_rel hf c1;refine ⟨zeros_rel hf 2 d1, fun g => ?_⟩;have g4 := zeros_mono g;have g3 := flag_mono g4;have g2 := num_mono g3;have g1 := num_mono g2
 show Lk.mk _ _ _ _ _ = Lk.mk _ _ _ _ _
 rw [d2 g4, c2 g3, b2 g2, a2 g1]
theorem iq_mono (h : goD (Dc.iqD q s).2 = true) : goD s = true := num_mono (num_mono (num_mono (flag_mono (zeros_mono h))))
theorem st_rel (hf : Fit q p) (h : Rel q s r) : Rel q (Dc.stD q s).2 (stR p r).2 ∧ (goD (Dc.stD q s).2 = true → (Dc.stD q s).1 = (stR p r).1) := by
 obtain ⟨a1, a2⟩ := none_rel hf h;obtain ⟨b1, b2⟩ := num_rel hf 4 (zeros_rel hf 2 a1);exact ⟨b1, fun e => Prod.ext (a2 (zeros_mono (num_mono e))) (congrArg (fun n : Nat => (n : Int)) (b2 e))⟩
theorem st_mono (h : goD (Dc.stD q s).2 = true) : goD s = true := num_mono (zeros_mono (num_mono h))
theorem list_relI {α : Type} (I : D → Prop) {oD : D → α × D} {oR : R → α × R} (ho : ∀ s r, Rel q s r → (goD s = true → I s) → Rel q (oD s).2 (oR r).2 ∧ (goD (oD s).2 = true → (oD s).1 = (oR r).1 ∧ I (oD s).2)) (hm : ∀ s, goD (oD s).2 = true → goD s = true) (h : Rel q s r) (hI : goD s = true → I s) : ∀ n, Rel q (listD oD n s).2 (listR oR n r).2 ∧ (goD (listD oD n s).2 = true → (listD oD n s).1 = (listR oR n r).1 ∧ I (listD oD n s).2 ∧ goD s = true)
 | 0 => ⟨h, fun e => ⟨rfl, hI e, e⟩⟩
 | n + 1 => by
  obtain ⟨h1, h2⟩ := list_relI I ho hm h hI n
  by_cases hg : goD (listD oD n s).2 = true
  ·have hgr : goR (listR oR n r).2 = true := by rw [← h1.go]; exact hg
   obtain ⟨e1, e2, e3⟩ := h2 hg;obtain ⟨k1, k2⟩ := ho _ _ h1 (fun _ => e2);rw [listD_next oD n s hg, listR_next oR n r hgr];exact ⟨k1, fun e => ⟨by rw [e1, (k2 e).1], (k2 e).2, e3⟩⟩
  ·have hgr : ¬ goR (listR oR n r).2 = true := by rw [← h1.go]; exact hg
   rw [listD_stop oD n s hg (n + 1) (by omega), listR_stop oR n r hgr (n + 1) (by omega)];exact ⟨h1, h2⟩
theorem list_rel {α : Type} {oD : D → α × D} {oR : R → α × R} (ho : ∀ s r, Rel q s r → Rel q (oD s).2 (oR r).2 ∧ (goD (oD s).2 = true → (oD s).1 = (oR r).1)) (hm : ∀ s, goD (oD s).2 = true → goD s = true) (n : Nat) (h : Rel q s r) : Rel q (listD oD n s).2 (listR oR n r).2 ∧ (goD (listD oD n s).2 = true → (listD oD n s).1 = (listR oR n r).1 ∧ goD s = true) := by
 obtain ⟨h1, h2⟩ := list_relI (fun _ => True) (fun s r h _ => ⟨(ho s r h).1, fun e => ⟨(ho s r h).2 e, trivial⟩⟩) hm h (fun _ => trivial) n;exact ⟨h1, fun e => ⟨(h2 e).1, (h2 e).2.2⟩⟩
theorem list_relC {α : Type} {oD : D → α × D} {oR : R → α × R} (ho : ∀ s r, Rel q s r → Rel q (oD s).2 (oR r).2 ∧ (goD (oD s).2 = true → (oD s).1 = (oR r).1)) (hm : ∀ s, goD (oD s).2 = true → goD s = true) {n m : Nat} (hn : goD s = true → n = m) (h : Rel q s r) : Rel q (listD oD n s).2 (listR oR m r).2 ∧ (goD (listD oD n s).2 = true → (listD oD n s).1 = (listR oR m r).1 ∧ goD s = true) := by
 by_cases hg : goD s = true
 ·rw [hn hg];exact list_rel ho hm m h
 ·have hgr : ¬ goR r = true := by rw [← h.go]; exact hg
  rw [listD_stop oD 0 s hg n (by omega), listR_stop oR 0 r hgr m (by omega)];exact ⟨h, fun e => absurd e hg⟩
theorem lane_rel (hf : Fit q p) (h : Rel q s r) : Rel q (Dc.laneD q s).2 (laneR p r).2 ∧ (goD (Dc.laneD q s).2 = true → (Dc.laneD q s).1 = (laneR p r).1) := by
 obtain ⟨a1, a2⟩ := many_rel hf h;obtain ⟨b1, b2⟩ := list_relC (oD := Dc.stD q) (oR := stR p) (fun s r h => st_rel hf h) (fun s h => st_mono h) (fun g => a2 g) a1;exact ⟨b1, fun e => (b2 e).1⟩
theorem lane_mono (h : goD (Dc.laneD q s).2 = true) : goD s = true := by
 by_cases hg : goD (manyD q s).2 = true
 ·exact many_mono hg
 ·unfold Dc.laneD at h;rw [listD_stop (Dc.stD q) 0 (manyD q s).2 (show ¬ goD (listD (Dc.stD q) 0 (manyD q s).2).2 = true from hg) _ (Nat.zero_le _)] at h;exact absurd h hg
theorem plan_rel (hf : Fit q p) (n : Nat) (h : Rel q s r) : Rel q (Dc.planD q n s).2 (planR p n r).2 ∧ (goD (Dc.planD q n s).2 = true → (Dc.planD q n s).1 = (planR p n r).1) := by
 obtain ⟨a1, a2⟩ := num_rel hf 4 h;obtain ⟨b1, b2⟩ := list_rel (oD := Dc.laneD q) (oR := laneR p) (fun s r h => lane_rel hf h) (fun s h => lane_mono h) n (zeros_rel hf 4 a1);refine ⟨b1, fun e => ?_⟩
 show Sc.mk _ _ = Sc.mk _ _
 rw [(b2 e).1, a2 (zeros_mono (b2 e).2)]
theorem plan_mono {n : Nat} (h : goD (Dc.planD q n s).2 = true) : goD s = true := by
 by_cases hg : goD (zerosD q 4 (takeD q 4 s).2) = true
 ·exact num_mono (zeros_mono hg)
 ·unfold Dc.planD at h;simp only at h;rw [listD_stop (Dc.laneD q) 0 (zerosD q 4 (takeD q 4 s).2) (show ¬ goD (listD (Dc.laneD q) 0 (zerosD q 4 (takeD q 4 s).2)).2 = true from hg) n (Nat.zero_le _)] at h;exact absurd h hg
theorem take_none {k : Nat} (h : Rel q s r) (hn : ¬ goD (takeD q k s).2 = true) (hw : (takeD q k s).2.why = 0) : (takeD q k s).1 = 0 := by
 have h2 : (takeD q k s).2.rw ≠ 0 := fun e => hn (by simp [goD, e, hw]);unfold takeD at h2 ⊢
 split
 ·rename_i hb
  rw [if_pos hb] at h2
  split
  ·rename_i hl
   rw [if_pos hl] at h2;exact absurd hb h2
  ·rfl
 ·rfl
theorem bus_rel (hf : Fit q p) (h : Rel q s r) : Rel q (busD q s).2 (busR p r).2 ∧ (goD (busD q s).2 = true → (busD q s).1 = (busR p r).1) := by
 obtain ⟨a1, a2⟩ := num_rel hf 2 h;obtain ⟨b1, b2⟩ := num_rel hf 2 a1;obtain ⟨c1, c2⟩ := list_relC (oD := spanD q) (oR := spanR p) (n := (takeD q 2 s).1) (m := (numR p 2 r).1) (fun s r h => span_rel hf h) (fun s h => span_mono h) (fun g => a2 (num_mono (zeros_mono g))) (zeros_rel hf 4 b1);obtain ⟨d1, d2⟩ := list_relC (oD := spanD q) (oR := spanR p) (n := (takeD q 2 (takeD q 2 s).2).1) (m := (numR p 2 (numR p 2 r).2).1) (fun s r h => span_rel hf h) (fun s h => span_mono h) (fun g => b2 (zeros_mono (c2 g).2)) c1;refine ⟨d1, fun e => ?_⟩
 show BusR.mk _ _ = BusR.mk _ _
 rw [(d2 e).1, (c2 (d2 e).2).1]
theorem ports_rel (hf : Fit q p) {m : Nat} (h : Rel q s r) (hp : s.pos = 0) : Rel q (portsD q m s).2 (portsR p m r).2 ∧ (goD (portsD q m s).2 = true → (portsD q m s).1 = (portsR p m r).1) := by
 obtain ⟨a1, a2⟩ := num_rel hf 2 h;have hF : Rel q (formD q (decide ((takeD q 2 s).1 = m)) 0 (takeD q 2 s).2) (if (numR p 2 r).2.bad < 0 ∧ (numR p 2 r).1 ≠ m then refR r.ps (numR p 2 r).2 else (numR p 2 r).2) := by
  by_cases hg : goD (takeD q 2 s).2 = true
  ·have := form_rel hf (b := decide ((takeD q 2 s).1 = m)) (a := 0) (c := r.ps) a1 (fun _ => by rw [(h.ok (num_mono hg)).2.2.2.1, hp]) (fun e1 e2 => by
    simp [goD, e1, e2] at hg)
   have hb : (numR p 2 r).2.bad < 0 := by rw [(a1.ok hg).2.2.1]; decide
   rw [a2 hg] at this ⊢
   by_cases e : (numR p 2 r).1 = m
   ·rw [if_neg (fun k => k.2 e)];rw [if_pos (by simpa using e)] at this;exact this
   ·rw [if_pos ⟨hb, e⟩];rw [if_neg (by simpa using e)] at this;exact this
  ·have h0 := a1.no hg;rw [if_neg (by omega)];rcases a1 with ⟨k1, k2, k3, k4, k5⟩ | ⟨k1, k2, k3⟩ | ⟨k1, k2, k3, k4⟩
   ·simp [goD, k1, k2] at hg
   ·by_cases e : (takeD q 2 s).1 = m
    ·rw [show decide ((takeD q 2 s).1 = m) = true by simpa using e, show ∀ t : D, formD q true 0 t = t from fun t => by simp [formD, askD]];exact .inr (.inl ⟨k1, k2, k3⟩)
    ·have hp2 : (takeD q 2 s).2.pos = 0 := by
      unfold takeD at k2 ⊢
      split
      ·rename_i hb
       rw [if_pos hb] at k2
       split
       ·rename_i hl
        rw [if_pos hl] at k2;exact absurd hb k2
       ·exact hp
      ·exact hp
     rw [show decide ((takeD q 2 s).1 = m) = false by simpa using e, formD, askD, if_pos ⟨rfl, k1⟩];refine .inr (.inr ⟨rfl, rfl, ?_, h0⟩);rw [k3, hp2]
   ·unfold formD askD;rw [if_neg (by rintro ⟨_, e⟩; omega)];exact .inr (.inr ⟨k1, k2, k3, k4⟩)
 obtain ⟨b1, b2⟩ := list_relC (oD := Dc.portD q) (oR := portR p) (n := (takeD q 2 s).1) (m := (numR p 2 r).1) (fun s r h => port_rel hf h) (fun s h => port_mono h) (fun g => a2 (form_mono (zeros_mono g)).1) (zeros_rel hf 6 hF);exact ⟨b1, fun e => (b2 e).1⟩
theorem plans_rel (hf : Fit q p) (h : Rel q s r) : Rel q (plansD q s).2 (plansR p r).2 ∧ (goD (plansD q s).2 = true → (plansD q s).1 = (plansR p r).1) := by
 obtain ⟨a1, a2⟩ := num_rel hf 2 h;obtain ⟨b1, b2⟩ := num_rel hf 2 a1;have hF : Rel q (formD q (decide (0 < (takeD q 2 s).1) || decide ((takeD q 2 (takeD q 2 s).2).1 = 0)) (takeD q 2 s).2.pos (takeD q 2 (takeD q 2 s).2).2) (if (numR p 2 r).1 = 0 ∧ 0 < (numR p 2 (numR p 2 r).2).1 then refR (numR p 2 r).2.ps (numR p 2 (numR p 2 r).2).2 else (numR p 2 (numR p 2 r).2).2) := by
  by_cases hg : goD (takeD q 2 (takeD q 2 s).2).2 = true
  ·have := form_rel hf (b := decide (0 < (takeD q 2 s).1) || decide ((takeD q 2 (takeD q 2 s).2).1 = 0)) (a := (takeD q 2 s).2.pos) (c := (numR p 2 r).2.ps) b1 (fun _ => (a1.ok (num_mono hg)).2.2.2.1) (fun e1 e2 => by
    simp [goD, e1, e2] at hg)
   rw [a2 (num_mono hg), b2 hg] at this ⊢
   by_cases e : (numR p 2 r).1 = 0 ∧ 0 < (numR p 2 (numR p 2 r).2).1
   ·rw [if_pos e];rw [if_neg (by simp; omega)] at this;exact this
   ·rw [if_neg e];rw [if_pos (by simp; omega)] at this;exact this
  ·have h0 := b1.no hg;have hR : (if (numR p 2 r).1 = 0 ∧ 0 < (numR p 2 (numR p 2 r).2).1 then refR (numR p 2 r).2.ps (numR p 2 (numR p 2 r).2).2 else (numR p 2 (numR p 2 r).2).2) = (numR p 2 (numR p 2 r).2).2 := by
    split
    ·rw [refR, if_neg (by omega)]
    ·rfl
   rw [hR];rcases b1 with ⟨k1, k2, k3, k4, k5⟩ | ⟨k1, k2, k3⟩ | ⟨k1, k2, k3, k4⟩
   ·simp [goD, k1, k2] at hg
   ·have e1 := take_none a1 hg k1;rw [e1, show (decide ((0 : Nat) = 0)) = true from rfl, Bool.or_true, show ∀ t : D, formD q true (takeD q 2 s).2.pos t = t from fun t => by simp [formD, askD]];exact .inr (.inl ⟨k1, k2, k3⟩)
   ·unfold formD askD;rw [if_neg (by rintro ⟨_, e⟩; omega)];exact .inr (.inr ⟨k1, k2, k3, k4⟩)
 obtain ⟨c1, c2⟩ := none_rel hf hF;obtain ⟨d1, d2⟩ := num_rel hf 2 c1;have hN : goD (takeD q 2 (Dc.noneD q (formD q (decide (0 < (takeD q 2 s).1) || decide ((takeD q 2 (takeD q 2 s).2).1 = 0)) (takeD q 2 s).2.pos (takeD q 2 (takeD q 2 s).2).2)).2).2 = true → (takeD q 2 s).1 = (numR p 2 r).1 ∧ (takeD q 2 (takeD q 2 s).2).1 = (numR p 2 (numR p 2 r).2).1 := fun g => by
  have g2 := (form_mono (num_mono (num_mono g))).1;exact ⟨a2 (num_mono g2), b2 g2⟩
 by_cases hg : goD (takeD q 2 (Dc.noneD q (formD q (decide (0 < (takeD q 2 s).1) || decide ((takeD q 2 (takeD q 2 s).2).1 = 0)) (takeD q 2 s).2.pos (takeD q 2 (takeD q 2 s).2).2)).2).2 = true
 ·obtain ⟨n1, n2⟩ := hN hg;obtain ⟨e1, e2⟩ := list_rel (oD := Dc.planD q (numR p 2 (numR p 2 r).2).1) (oR := planR p (numR p 2 (numR p 2 r).2).1) (fun s r h => plan_rel hf _ h) (fun s h => plan_mono h) (numR p 2 r).1 d1;have hL : listD (Dc.planD q (takeD q 2 (takeD q 2 s).2).1) (takeD q 2 s).1 = listD (Dc.planD q (numR p 2 (numR p 2 r).2).1) (numR p 2 r).1 := by rw [n1, n2]
  unfold plansD plansR;simp only [hL];refine ⟨e1, fun e => ?_⟩;rw [(e2 e).1, c2 (num_mono hg), d2 hg]
 ·have hgr : ¬ goR (numR p 2 (noneR p (if (numR p 2 r).1 = 0 ∧ 0 < (numR p 2 (numR p 2 r).2).1 then refR (numR p 2 r).2.ps (numR p 2 (numR p 2 r).2).2 else (numR p 2 (numR p 2 r).2).2)).2).2 = true := by rw [← d1.go]; exact hg
  unfold plansD plansR;simp only;rw [listD_stop _ 0 _ hg _ (Nat.zero_le _), listR_stop _ 0 _ hgr _ (Nat.zero_le _)];exact ⟨d1, fun e => absurd e hg⟩
theorem long_rel (hf : Fit q p) {n m a c : Nat} (h : Rel q s r) (hc : goD s = true → c = q.fi + a ∧ n = m) (hn : s.why = 0 → s.rw ≠ 0 → n = 0) : Rel q (formD q (decide (n ≤ 1048576) && decide (n ≤ q.Z.length - s.pos)) a s) (longR p c m r) := by
 by_cases hg : goD s = true
 ·obtain ⟨rfl, rfl⟩ := hc hg;obtain ⟨k1, k2, k3, k4, k5⟩ := h.ok hg;have := form_rel hf (b := decide (n ≤ 1048576) && decide (n ≤ q.Z.length - s.pos)) (a := a) (c := q.fi + a) h (fun _ => rfl) (fun e1 e2 => absurd k2 e2);unfold longR
  by_cases e : 1048576 < n ∨ p.en < r.ps + n
  ·rw [if_pos ⟨by rw [k3]; decide, e⟩];rw [if_neg (by have := hf.e; simp; omega)] at this;exact this
  ·rw [if_neg (fun k => e k.2)];rw [if_pos (by have := hf.e; simp; omega)] at this;exact this
 ·have h0 := h.no hg;rw [longR, if_neg (by omega)];rcases h with ⟨k1, k2, k3, k4, k5⟩ | ⟨k1, k2, k3⟩ | ⟨k1, k2, k3, k4⟩
  ·simp [goD, k1, k2] at hg
  ·rw [hn k1 k2, show (decide (0 ≤ 1048576) && decide (0 ≤ q.Z.length - s.pos)) = true by simp, show ∀ t : D, formD q true a t = t from fun t => by simp [formD, askD]];exact .inr (.inl ⟨k1, k2, k3⟩)
  ·unfold formD askD;rw [if_neg (by rintro ⟨_, e⟩; omega)];exact .inr (.inr ⟨k1, k2, k3, k4⟩)
theorem cut_rel (hf : Fit q p) {n m : Nat} (h : Rel q s r) (hc : goD s = true → n = m ∧ s.pos + n ≤ q.Z.length) : Rel q (bytesD q n s).2 (cutR p m r).2 ∧ (goD (bytesD q n s).2 = true → mkS (bytesD q n s).1 = (cutR p m r).1 ∧ (bytesD q n s).2.pos = s.pos + n) := by
 by_cases hg : goD s = true
 ·obtain ⟨rfl, hl⟩ := hc hg;obtain ⟨k1, k2, k3, k4, k5⟩ := h.ok hg;unfold bytesD cutR;rw [if_pos k2, if_pos hl, if_pos (by omega)];exact ⟨.inl ⟨k1, k2, k3, show r.ps + n = q.fi + (s.pos + n) by omega, hl⟩, fun _ => ⟨by rw [k4, cut_same hf hl], rfl⟩⟩
 ·have h0 := h.no hg;rw [cutR, if_neg (by omega)];refine ⟨?_, fun e => absurd (bytes_mono e) hg⟩;rcases h with ⟨k1, k2, k3, k4, k5⟩ | ⟨k1, k2, k3⟩ | ⟨k1, k2, k3, k4⟩
  ·simp [goD, k1, k2] at hg
  ·unfold bytesD;rw [if_neg k2];exact .inr (.inl ⟨k1, k2, k3⟩)
  ·have hw : (bytesD q n s).2.why = 5 ∧ (bytesD q n s).2.sec = s.sec ∧ (bytesD q n s).2.ad = s.ad := by
    unfold bytesD
    split
    ·split <;> exact ⟨k1, rfl, rfl⟩
    ·exact ⟨k1, rfl, rfl⟩
   exact .inr (.inr ⟨hw.1, hw.2.1.trans k2, k3.trans hw.2.2.symm, k4⟩)
theorem pad_rel (hf : Fit q p) {m : Nat} (h : Rel q s r) (hm : goD s = true → gapN s.pos 8 = m) : Rel q (padD q 8 s) (zerosR p m r) := by
 by_cases hg : goD s = true
 ·obtain rfl := hm hg;obtain ⟨k1, k2, k3, k4, k5⟩ := h.ok hg;unfold padD zerosR;rw [if_pos k2, if_pos (show r.bad < 0 by omega)]
  by_cases hl : s.pos + gapN s.pos 8 ≤ q.Z.length
  ·rw [if_pos hl, if_pos (show r.ps + gapN s.pos 8 ≤ p.en by rw [hf.e]; omega), k4, cut_same hf hl]
   by_cases hz : allZ ((q.Z.drop s.pos).take (gapN s.pos 8)) = true
   ·rw [if_pos hz, if_pos hz];exact .inl ⟨k1, k2, k3, show q.fi + s.pos + _ = q.fi + (s.pos + _) by omega, hl⟩
   ·rw [if_neg hz, if_neg hz];exact .inr (.inl ⟨k1, by show (5 : Int) ≠ 0; decide, rfl⟩)
  ·rw [if_neg hl, if_neg (show ¬ r.ps + gapN s.pos 8 ≤ p.en by rw [hf.e]; omega)];exact .inr (.inl ⟨k1, by show (10 : Int) ≠ 0; decide, by show (r.ps : Int) = _; rw [k4]⟩)
 ·have h0 := h.no hg;rw [zerosR, if_neg (by omega)];rcases h with ⟨k1, k2, k3, k4, k5⟩ | ⟨k1, k2, k3⟩ | ⟨k1, k2, k3, k4⟩
  ·simp [goD, k1, k2] at hg
  ·unfold padD;rw [if_neg k2];exact .inr (.inl ⟨k1, k2, k3⟩)
  ·have hw : (padD q 8 s).why = 5 ∧ (padD q 8 s).sec = s.sec ∧ (padD q 8 s).ad = s.ad := by
    unfold padD
    split
    ·split
     ·split <;> exact ⟨k1, rfl, rfl⟩
     ·exact ⟨k1, rfl, rfl⟩
    ·exact ⟨k1, rfl, rfl⟩
   exact .inr (.inr ⟨hw.1, hw.2.1.trans k2, k3.trans hw.2.2.symm, k4⟩)
theorem pad_mono (h : goD (padD q 8 s) = true) : goD s = true ∧ (padD q 8 s).pos = s.pos + gapN s.pos 8 := by
 unfold padD at h ⊢
 split at h
 ·rename_i h2
  rw [if_pos h2]
  split at h
  ·rename_i h3
   rw [if_pos h3]
   split at h
   ·rename_i h4
    rw [if_pos h4];exact ⟨h, rfl⟩
   ·simp [goD] at h
  ·simp [goD] at h
 ·rename_i h2
  simp [goD, h2] at h
theorem take_pos {k : Nat} (h : goD (takeD q k s).2 = true) : (takeD q k s).2.pos = s.pos + k ∧ s.pos + k ≤ q.Z.length := by
 unfold takeD at h ⊢
 split at h
 ·rename_i h2
  rw [if_pos h2]
  split at h
  ·rename_i h3
   rw [if_pos h3];exact ⟨rfl, h3⟩
  ·simp [goD] at h
 ·rename_i h2
  simp [goD, h2] at h
theorem form_id {b : Bool} {a : Nat} (h : goD (formD q b a s) = true) : formD q b a s = s := by
 rw [(form_mono h).2];simp [formD, askD]
theorem zeros_pos {k : Nat} (h : goD (zerosD q k s) = true) : (zerosD q k s).pos = s.pos + k := by
 have h1 := form_id h;have h2 := (form_mono h).1;unfold zerosD;unfold zerosD at h1;rw [h1];unfold bytesD at h2 ⊢
 split at h2
 ·rename_i e
  rw [if_pos e]
  split at h2
  ·rename_i e3
   rw [if_pos e3]
  ·simp [goD] at h2
 ·rename_i e
  simp [goD, e] at h2
theorem text_rel (hf : Fit q p) (h : Rel q s r) (h4 : goD s = true → s.pos % 8 = 4) : Rel q (Dc.textD q s).2 (textR p r).2 ∧ (goD (Dc.textD q s).2 = true → (Dc.textD q s).1 = (textR p r).1 ∧ (Dc.textD q s).2.pos % 8 = 0) := by
 obtain ⟨a1, a2⟩ := num_rel hf 4 h;have b1 := long_rel hf (n := (takeD q 4 s).1) (m := (numR p 4 r).1) (a := s.pos) (c := r.ps) a1 (fun g => ⟨(h.ok (num_mono g)).2.2.2.1, a2 g⟩) (fun e1 e2 => take_none h (fun g => by simp [goD, e1, e2] at g) e1);obtain ⟨c1, c2⟩ := cut_rel hf (n := (takeD q 4 s).1) (m := (numR p 4 r).1) b1 (fun g => by
  obtain ⟨g1, g2⟩ := form_mono g;have g3 := (a1.ok g1).2.2.2.2;rw [Bool.and_eq_true, decide_eq_true_eq, decide_eq_true_eq] at g2;refine ⟨a2 g1, ?_⟩;rw [form_id g];omega)
 have hpos : goD (bytesD q (takeD q 4 s).1 (formD q (decide ((takeD q 4 s).1 ≤ 1048576) && decide ((takeD q 4 s).1 ≤ q.Z.length - (takeD q 4 s).2.pos)) s.pos (takeD q 4 s).2)).2 = true → gapN (bytesD q (takeD q 4 s).1 (formD q (decide ((takeD q 4 s).1 ≤ 1048576) && decide ((takeD q 4 s).1 ≤ q.Z.length - (takeD q 4 s).2.pos)) s.pos (takeD q 4 s).2)).2.pos 8 = (8 - (numR p 4 r).1 % 8) % 8 := fun g => by
  have g1 := bytes_mono g;have g2 := (form_mono g1).1;rw [(c2 g).2, form_id g1, (take_pos g2).1, ← a2 g2];have := h4 (num_mono g2);unfold gapN;omega
 have d1 := pad_rel hf c1 hpos;refine ⟨d1, fun e => ?_⟩;obtain ⟨g, e2⟩ := pad_mono e;refine ⟨(c2 g).1, ?_⟩
 show (padD q 8 _).pos % 8 = 0
 rw [e2];unfold gapN;omega
theorem text_mono (h : goD (Dc.textD q s).2 = true) : goD s = true := num_mono (form_mono (bytes_mono (pad_mono h).1)).1
theorem gd_rel (hf : Fit q p) (h : Rel q s r) (h8 : goD s = true → s.pos % 8 = 0) : Rel q (Dc.gdD q s).2 (gdR p r).2 ∧ (goD (Dc.gdD q s).2 = true → (Dc.gdD q s).1 = (gdR p r).1 ∧ (Dc.gdD q s).2.pos % 8 = 0) := by
 obtain ⟨a1, a2⟩ := num_rel hf 8 h;obtain ⟨b1, b2⟩ := num_rel hf 8 a1;obtain ⟨c1, c2⟩ := num_rel hf 1 b1;have d1 := zeros_rel hf 3 c1;obtain ⟨e1, e2⟩ := text_rel hf d1 (fun g => by
  have g3 := zeros_mono g;have g2 := num_mono g3;have g1 := num_mono g2;have := h8 (num_mono g1);rw [zeros_pos g, (take_pos g3).1, (take_pos g2).1, (take_pos g1).1];omega)
 refine ⟨e1, fun g => ?_⟩;have g4 := zeros_mono (text_mono g);have g3 := num_mono g4;refine ⟨?_, (e2 g).2⟩
 show Gd.mk _ _ _ _ = Gd.mk _ _ _ _
 rw [(e2 g).1, c2 g4, b2 g3, a2 (num_mono g3)]
theorem gd_mono (h : goD (Dc.gdD q s).2 = true) : goD s = true := num_mono (num_mono (num_mono (zeros_mono (text_mono h))))
theorem rows_rel {α : Type} {oD : D → α × D} {oR : R → α × R} (hf : Fit q p) (ho : ∀ s r, Rel q s r → Rel q (oD s).2 (oR r).2 ∧ (goD (oD s).2 = true → (oD s).1 = (oR r).1)) (hm : ∀ s, goD (oD s).2 = true → goD s = true) (h : Rel q s r) : Rel q (listD oD (manyD q s).1 (manyD q s).2).2 (listR oR (manyR p r).1 (manyR p r).2).2 ∧ (goD (listD oD (manyD q s).1 (manyD q s).2).2 = true → (listD oD (manyD q s).1 (manyD q s).2).1 = (listR oR (manyR p r).1 (manyR p r).2).1) := by
 obtain ⟨a1, a2⟩ := many_rel hf h;obtain ⟨b1, b2⟩ := list_relC ho hm (fun g => a2 g) a1;exact ⟨b1, fun e => (b2 e).1⟩
theorem gds_rel (hf : Fit q p) (h : Rel q s r) (hp : s.pos = 0) : Rel q (listD (Dc.gdD q) (manyD q s).1 (manyD q s).2).2 (listR (gdR p) (manyR p r).1 (manyR p r).2).2 ∧ (goD (listD (Dc.gdD q) (manyD q s).1 (manyD q s).2).2 = true → (listD (Dc.gdD q) (manyD q s).1 (manyD q s).2).1 = (listR (gdR p) (manyR p r).1 (manyR p r).2).1) := by
 obtain ⟨a1, a2⟩ := many_rel hf h
 by_cases hg : goD (manyD q s).2 = true
 ·rw [a2 hg];obtain ⟨b1, b2⟩ := list_relI (fun s => s.pos % 8 = 0) (oD := Dc.gdD q) (oR := gdR p) (fun s r h hI => gd_rel hf h hI) (fun s h => gd_mono h) a1 (fun g => by
   show (zerosD q 6 _).pos % 8 = 0
   rw [zeros_pos g, (take_pos (zeros_mono g)).1, hp]) (manyR p r).1
  exact ⟨b1, fun e => (b2 e).1⟩
 ·have hgr : ¬ goR (manyR p r).2 = true := by rw [← a1.go]; exact hg
  rw [listD_stop (Dc.gdD q) 0 (manyD q s).2 (show ¬ goD (listD (Dc.gdD q) 0 (manyD q s).2).2 = true from hg) _ (Nat.zero_le _), listR_stop (gdR p) 0 (manyR p r).2 (show ¬ goR (listR (gdR p) 0 (manyR p r).2).2 = true from hgr) _ (Nat.zero_le _)];exact ⟨a1, fun e => absurd e hg⟩
theorem tab_rel (hf : Fit q p) (h : Rel q s r) (hl : goD s = true → s.pos + 4096 ≤ q.Z.length) : (goD s = true → Rel q (tabD q s).2 (tabR p r).2 ∧ (tabD q s).1 = (tabR p r).1 ∧ (tabD q s).2.pos = s.pos + 4096 ∧ goD (tabD q s).2 = true) := fun g => by
 obtain ⟨k1, k2, k3, k4, k5⟩ := h.ok g;have hl := hl g;have hb : bytesD q 4096 s = ((q.Z.drop s.pos).take 4096, ⟨s.pos + 4096, s.rw, s.why, s.sec, s.ad⟩) := by
  unfold bytesD;rw [if_pos k2, if_pos hl]
 have hlen : ((q.Z.drop s.pos).take 4096).length = 4096 := by
  rw [List.length_take, List.length_drop];omega
 unfold tabD tabR;rw [hb];simp only [hlen, if_true];exact ⟨.inl ⟨k1, k2, k3, show r.ps + 4096 = q.fi + (s.pos + 4096) by omega, hl⟩, by rw [k4, cut_same hf hl], by first | rfl | trivial, by simp [goD, k1, k2]⟩
theorem tabs_rel (hf : Fit q p) (h : Rel q s r) (hg : goD s = true) : Rel q (tabsD q s).2 (tabsR p r).2 ∧ (goD (tabsD q s).2 = true → (tabsD q s).1 = (tabsR p r).1) := by
 obtain ⟨k1, k2, k3, k4, k5⟩ := h.ok hg;have hn : (p.en - r.ps) / 4096 = (q.Z.length - s.pos) / 4096 := by
  rw [hf.e, k4]
  congr 1
  omega
 unfold tabsD tabsR;rw [hn];have : ∀ n, n ≤ (q.Z.length - s.pos) / 4096 → Rel q (listD (tabD q) n s).2 (listR (tabR p) n r).2 ∧ (listD (tabD q) n s).1 = (listR (tabR p) n r).1 ∧ goD (listD (tabD q) n s).2 = true ∧ (listD (tabD q) n s).2.pos = s.pos + 4096 * n := by
  intro n
  induction n with
  | zero => exact fun _ => ⟨h, rfl, hg, rfl⟩
  | succ n ih =>
   intro hn;obtain ⟨e1, e2, e3, e4⟩ := ih (by omega);have hle : s.pos + 4096 * n + 4096 ≤ q.Z.length := by omega
   obtain ⟨f1, f2, f3, f4⟩ := tab_rel hf e1 (fun _ => by omega) e3;rw [listD_next (tabD q) n s e3, listR_next (tabR p) n r (by rw [← e1.go]; exact e3)];exact ⟨f1, by rw [e2, f2], f4, by rw [f3, e4]; omega⟩
 obtain ⟨e1, e2, e3, e4⟩ := this _ (Nat.le_refl _);exact ⟨e1, fun _ => e2⟩
end
end Dd
end Go.Proofs.YtmfkggngjeolcaaGreatDoor
