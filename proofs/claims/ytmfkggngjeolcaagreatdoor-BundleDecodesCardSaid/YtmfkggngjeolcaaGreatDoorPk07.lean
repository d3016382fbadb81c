import Derived.Test.YtmfkggngjeolcaaGreatDoorPk06
import Derived.Deep.AppendSrc
import Derived.Laws.IdiomStrings
import Derived.Laws.BytesArg
import Derived.Test.YtmfkggngjeolcaaGreatDoorPk05
import Derived.WalkKit
set_option linter.unusedVariables false
namespace Go.Proofs.YtmfkggngjeolcaaGreatDoor
open Go.RowKit
def mkS (zs : List Nat) : ByteArray := ⟨(zs.map UInt8.ofNat).toArray⟩
theorem mkS_size (zs : List Nat) : (mkS zs).size = zs.length := by
 show (zs.map UInt8.ofNat).toArray.size = _
 simp
end Go.Proofs.YtmfkggngjeolcaaGreatDoor
namespace Go.Proofs.YtmfkggngjeolcaaGreatDoor
open Bn
namespace Dc
structure D where
 pos : Nat
 rw : Int
 why : Int
 sec : Int
 ad : Int
structure Pt where
 pt : Nat
 fi : Nat
 Z : List Nat
def takeD (q : Pt) (k : Nat) (s : D) : Nat × D :=
 if s.rw = 0 then if s.pos + k ≤ q.Z.length then (Pl.num k (q.Z.drop s.pos), ⟨s.pos + k, s.rw, s.why, s.sec, s.ad⟩) else (0, ⟨s.pos, 10, s.why, s.sec, s.ad⟩) else (0, s)
def askD (well : Bool) (no sec ad : Int) (s : D) : D := if well = false ∧ s.why = 0 then ⟨s.pos, s.rw, no, sec, ad⟩ else s
def formD (q : Pt) (well : Bool) (a : Nat) (s : D) : D := askD well 5 (q.pt : Int) ((q.fi + a : Nat) : Int) s
def goD (s : D) : Bool := decide (s.why = 0) && decide (s.rw = 0)
def noneV (n : Nat) : Int := if n = 65535 then -1 else (n : Int)
def noneD (q : Pt) (s : D) : Int × D := (noneV (takeD q 2 s).1, (takeD q 2 s).2)
def flagD (q : Pt) (s : D) : Bool × D := (decide ((takeD q 1 s).1 = 1), formD q (decide ((takeD q 1 s).1 ≤ 1)) s.pos (takeD q 1 s).2)
def bytesD (q : Pt) (n : Nat) (s : D) : List Nat × D :=
 if s.rw = 0 then if s.pos + n ≤ q.Z.length then ((q.Z.drop s.pos).take n, ⟨s.pos + n, s.rw, s.why, s.sec, s.ad⟩) else ([], ⟨s.pos, 10, s.why, s.sec, s.ad⟩) else ([], s)
def allZ (l : List Nat) : Bool := decide (∀ z ∈ l, z = 0)
def zerosD (q : Pt) (n : Nat) (s : D) : D := formD q (allZ (bytesD q n s).1) s.pos (bytesD q n s).2
def manyD (q : Pt) (s : D) : Nat × D := ((takeD q 2 s).1, zerosD q 6 (takeD q 2 s).2)
def padD (q : Pt) (al : Nat) (s : D) : D :=
 if s.rw = 0 then if s.pos + gapN s.pos al ≤ q.Z.length then if allZ ((q.Z.drop s.pos).take (gapN s.pos al)) = true then ⟨s.pos + gapN s.pos al, s.rw, s.why, s.sec, s.ad⟩ else ⟨s.pos, 5, s.why, s.sec, s.ad⟩ else ⟨s.pos, 10, s.why, s.sec, s.ad⟩ else s
def textD (q : Pt) (s : D) : ByteArray × D :=
 let a := takeD q 4 s
 let b := bytesD q a.1 (formD q (decide (a.1 ≤ 1048576) && decide (a.1 ≤ q.Z.length - a.2.pos)) s.pos a.2)
 (mkS b.1, padD q 8 b.2)
def stepL {α : Type} (one : D → α × D) (t : List α × D) : List α × D := if goD t.2 = true then (t.1 ++ [(one t.2).1], (one t.2).2) else t
def listD {α : Type} (one : D → α × D) : Nat → D → List α × D
 | 0, s => ([], s)
 | k + 1, s => stepL one (listD one k s)
theorem listD_stop {α : Type} (one : D → α × D) (k : Nat) (s : D) (h : ¬ goD (listD one k s).2 = true) (m : Nat) (hm : k ≤ m) : listD one m s = listD one k s := by
 induction m with
 | zero => rw [show k = 0 by omega]
 | succ m ih =>
  by_cases hk : k = m + 1
  ·rw [hk]
  ·rw [listD, ih (by omega), stepL, if_neg h]
theorem listD_next {α : Type} (one : D → α × D) (k : Nat) (s : D) (h : goD (listD one k s).2 = true) : listD one (k + 1) s = ((listD one k s).1 ++ [(one (listD one k s).2).1], (one (listD one k s).2).2) := by
 rw [listD, stepL, if_pos h]
def spanD (q : Pt) (s : D) : Rg × D :=
 let a := takeD q 8 s
 let b := takeD q 8 a.2
 ((a.1, b.1), b.2)
def tenD (q : Pt) (s : D) : Tn × D :=
 let a := takeD q 1 s
 let b := flagD q a.2
 let c := takeD q 1 b.2
 let d := takeD q 1 c.2
 let e := noneD q d.2
 let f := noneD q e.2
 (⟨a.1, f.1, b.1, c.1, e.1, d.1⟩, f.2)
def portD (q : Pt) (s : D) : Int × D :=
 let a := noneD q s
 (a.1, zerosD q 6 a.2)
def gdD (q : Pt) (s : D) : Gd × D :=
 let a := takeD q 8 s
 let b := takeD q 8 a.2
 let c := takeD q 1 b.2
 let d := textD q (zerosD q 3 c.2)
 (⟨a.1, b.1, c.1, d.1⟩, d.2)
def chD (q : Pt) (s : D) : Lk × D :=
 let a := noneD q s
 let b := noneD q a.2
 let c := takeD q 1 b.2
 let d := takeD q 1 c.2
 (⟨a.1, b.1, c.1, d.1, false⟩, zerosD q 2 d.2)
def iqD (q : Pt) (s : D) : Lk × D :=
 let a := noneD q s
 let b := noneD q a.2
 let c := takeD q 1 b.2
 let d := flagD q c.2
 (⟨a.1, b.1, 1, c.1, d.1⟩, zerosD q 2 d.2)
def stD (q : Pt) (s : D) : (Int × Int) × D :=
 let a := noneD q s
 let b := takeD q 4 (zerosD q 2 a.2)
 ((a.1, b.1), b.2)
def laneD (q : Pt) (s : D) : List (Int × Int) × D := listD (stD q) (manyD q s).1 (manyD q s).2
def planD (q : Pt) (n : Nat) (s : D) : Sc × D :=
 let a := takeD q 4 s
 let b := listD (laneD q) n (zerosD q 4 a.2)
 (⟨a.1, b.1⟩, b.2)
theorem take_lt {q : Pt} (h : ∀ z ∈ q.Z, z < 256) (k : Nat) (s : D) : (takeD q k s).1 < 256 ^ k := by
 unfold takeD
 split
 ·split
  ·exact Pl.acc_lt (fun z hz => h z (List.mem_of_mem_drop hz)) 0 k
  ·exact Nat.pow_pos (by decide)
 ·exact Nat.pow_pos (by decide)
end Dc
end Go.Proofs.YtmfkggngjeolcaaGreatDoor
/-! Sets of numbers as rows of spans: what the rows mean, when two are one, what is laid behind a row, what two rows make. Plain mathematics: no program. Own work. -/
namespace Go.Proofs.YtmfkggngjeolcaaGreatDoor.Sp

abbrev Sp := Int × Int

def In (p : Int) (xs : List Sp) : Prop := ∃ x ∈ xs, x.1 ≤ p ∧ p ≤ x.2

def Canon (m : Int) (xs : List Sp) : Prop := (∀ x ∈ xs, 0 ≤ x.1 ∧ x.1 ≤ x.2 ∧ x.2 ≤ m) ∧ xs.Pairwise (fun x y => x.2 + 1 < y.1)

theorem in_nil (p : Int) : ¬ In p [] := by rintro ⟨x, h, _⟩; cases h
theorem in_cons (p : Int) (x : Sp) (xs : List Sp) : In p (x :: xs) ↔ (x.1 ≤ p ∧ p ≤ x.2) ∨ In p xs := by
 simp [In]
theorem in_append (p : Int) (xs ys : List Sp) : In p (xs ++ ys) ↔ In p xs ∨ In p ys := by
 constructor
 ·rintro ⟨x, h, hp⟩;rcases List.mem_append.1 h with h | h
  ·exact .inl ⟨x, h, hp⟩
  ·exact .inr ⟨x, h, hp⟩
 ·rintro (⟨x, h, hp⟩ | ⟨x, h, hp⟩)
  ·exact ⟨x, List.mem_append.2 (.inl h), hp⟩
  ·exact ⟨x, List.mem_append.2 (.inr h), hp⟩
theorem in_one (p : Int) (x : Sp) : In p [x] ↔ (x.1 ≤ p ∧ p ≤ x.2) := by simp [In]

theorem canon_nil (m : Int) : Canon m [] := ⟨fun _ h => (by cases h), List.Pairwise.nil⟩
theorem canon_cons {m : Int} {x : Sp} {xs : List Sp} : Canon m (x :: xs) ↔ (0 ≤ x.1 ∧ x.1 ≤ x.2 ∧ x.2 ≤ m) ∧ (∀ y ∈ xs, x.2 + 1 < y.1) ∧ Canon m xs := by
 simp only [Canon, List.mem_cons, forall_eq_or_imp, List.pairwise_cons]
 constructor
 ·rintro ⟨⟨a, b⟩, c, d⟩; exact ⟨a, c, b, d⟩
 ·rintro ⟨a, c, b, d⟩; exact ⟨⟨a, b⟩, c, d⟩
theorem canon_append {m : Int} {xs ys : List Sp} : Canon m (xs ++ ys) ↔ Canon m xs ∧ Canon m ys ∧ ∀ x ∈ xs, ∀ y ∈ ys, x.2 + 1 < y.1 := by
 simp only [Canon, List.mem_append, List.pairwise_append]
 constructor
 ·rintro ⟨a, b, c, d⟩; exact ⟨⟨fun x h => a x (.inl h), b⟩, ⟨fun x h => a x (.inr h), c⟩, d⟩
 ·rintro ⟨⟨a, b⟩, ⟨c, d⟩, e⟩; exact ⟨fun x h => h.elim (a x) (c x), b, d, e⟩
theorem Canon.tail {m : Int} {x : Sp} {xs : List Sp} (h : Canon m (x :: xs)) : Canon m xs := (canon_cons.1 h).2.2
theorem Canon.bounds {m : Int} {xs : List Sp} (h : Canon m xs) {p : Int} (hp : In p xs) : 0 ≤ p ∧ p ≤ m := by
 obtain ⟨x, hx, h1, h2⟩ := hp;have := h.1 x hx;omega

theorem Canon.tail_above {m : Int} {x : Sp} {xs : List Sp} (h : Canon m (x :: xs)) {p : Int} (hp : In p xs) : x.2 + 1 < p := by
 obtain ⟨y, hy, h1, _⟩ := hp;have := (canon_cons.1 h).2.1 y hy;omega

def joined (acc : List Sp) (x : Sp) : List Sp :=
 match acc.getLast? with
 | none => [x]
 | some e => if e.2 + 1 < x.1 then acc ++ [x] else acc.dropLast ++ [(e.1, max e.2 x.2)]

theorem joined_nil (x : Sp) : joined [] x = [x] := rfl
theorem joined_far (a : List Sp) (e x : Sp) (h : e.2 + 1 < x.1) : joined (a ++ [e]) x = a ++ [e] ++ [x] := by
 simp [joined, h]
theorem joined_near (a : List Sp) (e x : Sp) (h : ¬ e.2 + 1 < x.1) : joined (a ++ [e]) x = a ++ [(e.1, max e.2 x.2)] := by
 simp [joined, h]

theorem joined_spec {m : Int} {acc : List Sp} {x : Sp} (h : Canon m acc) (hl : ∀ y ∈ acc, y.1 ≤ x.1) (hx : 0 ≤ x.1 ∧ x.1 ≤ x.2 ∧ x.2 ≤ m) :
  Canon m (joined acc x) ∧ (∀ p, In p (joined acc x) ↔ In p acc ∨ (x.1 ≤ p ∧ p ≤ x.2)) ∧ (∀ y ∈ joined acc x, y.1 ≤ x.1) := by
 rcases List.eq_nil_or_concat acc with rfl | ⟨a, e, rfl⟩
 ·rw [joined_nil];refine ⟨canon_cons.2 ⟨hx, fun _ h => (by cases h), canon_nil m⟩, fun p => ?_, fun y hy => ?_⟩
  ·rw [in_one]; simp [in_nil]
  ·obtain rfl : y = x := by simpa using hy
   exact Int.le_refl _
 ·simp only [List.concat_eq_append] at h hl ⊢;obtain ⟨ha, he, hae⟩ := canon_append.1 h;have be := (canon_cons.1 he).1;have hel := hl e (by simp)
  by_cases g : e.2 + 1 < x.1
  ·rw [joined_far a e x g];refine ⟨canon_append.2 ⟨h, canon_cons.2 ⟨hx, fun _ h => (by cases h), canon_nil m⟩, fun y hy z hz => ?_⟩, fun p => ?_, fun y hy => ?_⟩
   ·obtain rfl : z = x := by simpa using hz
    rcases List.mem_append.1 hy with hy | hy
    ·have := hae y hy e (by simp); omega
    ·obtain rfl : y = e := by simpa using hy
     exact g
   ·rw [in_append, in_one]
   ·rcases List.mem_append.1 hy with hy | hy
    ·exact hl y hy
    ·obtain rfl : y = x := by simpa using hy
     exact Int.le_refl _
  ·rw [joined_near a e x g];have hm : e.2 ≤ max e.2 x.2 ∧ x.2 ≤ max e.2 x.2 ∧ (max e.2 x.2 = e.2 ∨ max e.2 x.2 = x.2) := by omega
   refine ⟨canon_append.2 ⟨ha, canon_cons.2 ⟨?_, fun _ h => (by cases h), canon_nil m⟩, fun y hy z hz => ?_⟩, fun p => ?_, fun y hy => ?_⟩
   ·show 0 ≤ e.1 ∧ e.1 ≤ max e.2 x.2 ∧ max e.2 x.2 ≤ m
    omega
   ·obtain rfl : z = (e.1, max e.2 x.2) := by simpa using hz
    exact hae y hy e (by simp)
   ·rw [in_append, in_append, in_one, in_one]
    show _ ∨ (e.1 ≤ p ∧ p ≤ max e.2 x.2) ↔ _
    constructor
    ·rintro (q | q)
     ·exact .inl (.inl q)
     ·by_cases c : p ≤ e.2
      ·exact .inl (.inr ⟨q.1, c⟩)
      ·exact .inr (by omega)
    ·rintro ((q | q) | q)
     ·exact .inl q
     ·exact .inr (by omega)
     ·exact .inr (by omega)
   ·rcases List.mem_append.1 hy with hy | hy
    ·exact hl y (List.mem_append.2 (.inl hy))
    ·obtain rfl : y = (e.1, max e.2 x.2) := by simpa using hy
     exact hel

theorem joined_length (acc : List Sp) (x : Sp) : (joined acc x).length ≤ acc.length + 1 := by
 rcases List.eq_nil_or_concat acc with rfl | ⟨a, e, rfl⟩
 ·simp [joined_nil]
 ·simp only [List.concat_eq_append]
  by_cases g : e.2 + 1 < x.1
  ·rw [joined_far a e x g]; simp
  ·rw [joined_near a e x g]; simp
def stretched (m : Int) (row : List Sp) (first : Int) : Int × Bool :=
 match row with
 | [] => (m, false)
 | x :: _ => if first < x.1 then (x.1 - 1, false) else (x.2, true)
def behindOf (row : List Sp) (last : Int) : List Sp :=
 match row with
 | [] => []
 | x :: r => if x.2 = last then r else x :: r

def From (first : Int) (row : List Sp) : Prop := ∀ x ∈ row, first ≤ x.2

theorem stretched_spec {m first : Int} {row : List Sp} (h : Canon m row) (hf : From first row) (h0 : 0 ≤ first ∧ first ≤ m) :
  first ≤ (stretched m row first).1 ∧ (stretched m row first).1 ≤ m ∧ ∀ p, first ≤ p → p ≤ (stretched m row first).1 → (In p row ↔ (stretched m row first).2 = true) := by
 cases row with
 | nil => exact ⟨h0.2, Int.le_refl _, fun p _ _ => by simp [stretched, in_nil]⟩
 | cons x r =>
  have bx := (canon_cons.1 h).1;have hx := hf x (by simp)
  by_cases g : first < x.1
  ·simp only [stretched, if_pos g];refine ⟨by omega, by omega, fun p h1 h2 => ?_⟩;simp only [Bool.false_eq_true, iff_false];intro hp;rcases (in_cons _ _ _).1 hp with q | q
   ·omega
   ·have := h.tail_above q; omega
  ·simp only [stretched, if_neg g];refine ⟨by omega, by omega, fun p h1 h2 => ?_⟩;simp only [iff_true];exact (in_cons _ _ _).2 (.inl ⟨by omega, h2⟩)

theorem behind_spec {m first last : Int} {row : List Sp} (h : Canon m row) (hf : From first row) (h1 : last ≤ (stretched m row first).1) :
  Canon m (behindOf row last) ∧ From (last + 1) (behindOf row last) ∧ ∀ p, last < p → (In p (behindOf row last) ↔ In p row) := by
 cases row with
 | nil => exact ⟨h, fun _ h => (by cases h), fun _ _ => Iff.rfl⟩
 | cons x r =>
  have bx := (canon_cons.1 h).1;have hx := hf x (by simp);have hle : last ≤ x.2 := by
   by_cases g : first < x.1
   ·simp only [stretched, if_pos g] at h1; omega
   ·simp only [stretched, if_neg g] at h1; exact h1
  have hr : ∀ y ∈ r, last + 1 ≤ y.2 := fun y hy => by
   have := (canon_cons.1 h).2.1 y hy;have := (h.tail).1 y hy;omega
  by_cases g : x.2 = last
  ·simp only [behindOf, if_pos g];refine ⟨h.tail, hr, fun p hp => ?_⟩;rw [in_cons]
   constructor
   ·exact .inr
   ·rintro (q | q)
    ·omega
    ·exact q
  ·simp only [behindOf, if_neg g];refine ⟨h, fun y hy => ?_, fun _ _ => trivial⟩;rcases List.mem_cons.1 hy with rfl | hy
   ·omega
   ·exact hr y hy

def weight (row : List Sp) (first : Int) : Nat :=
 match row with
 | [] => 0
 | x :: r => (if first < x.1 then 2 else 1) + 2 * r.length
theorem weight_le (row : List Sp) (first : Int) : weight row first ≤ 2 * row.length := by
 cases row with
 | nil => exact Nat.le_refl _
 | cons x r => simp only [weight, List.length_cons]; split <;> omega
theorem weight_step {m first last : Int} {row : List Sp} (h : Canon m row) (hf : From first row) (h1 : last ≤ (stretched m row first).1) (h0 : first ≤ last) (hm : last ≠ m) :
  weight (behindOf row last) (last + 1) + (if last = (stretched m row first).1 then 1 else 0) ≤ weight row first := by
 cases row with
 | nil =>
  simp only [stretched] at h1 ⊢;simp [behindOf, weight, hm]
 | cons x r =>
  have bx := (canon_cons.1 h).1;have hx := hf x (by simp)
  by_cases g : first < x.1
  ·simp only [stretched, if_pos g] at h1 ⊢;have hne : x.2 ≠ last := by omega
   simp only [behindOf, if_neg hne, weight, if_pos g]
   split <;> split <;> omega
  ·simp only [stretched, if_neg g] at h1 ⊢
   by_cases e : x.2 = last
   ·simp only [behindOf, if_pos e, weight, if_neg g, if_pos e.symm];have : weight r (last + 1) ≤ 2 * r.length := weight_le _ _
    show weight r (last + 1) + 1 ≤ _
    omega
   ·simp only [behindOf, if_neg e, weight, if_neg g, if_neg (fun q => e (Eq.symm q) : ¬ last = x.2)]
    split <;> omega

structure Mid (m : Int) (keep : Bool → Bool → Bool) (s t : List Sp) (first : Int) (rs rt acc : List Sp) : Prop where
 hb : 0 ≤ first ∧ first ≤ m
 cs : Canon m rs
 ct : Canon m rt
 fs : From first rs
 ft : From first rt
 es : ∀ p, first ≤ p → (In p rs ↔ In p s)
 et : ∀ p, first ≤ p → (In p rt ↔ In p t)
 ca : Canon m acc
 la : ∀ y ∈ acc, y.1 ≤ first
 ea : ∀ p, In p acc ↔ p < first ∧ 0 ≤ p ∧ ∃ a b, (a = true ↔ In p s) ∧ (b = true ↔ In p t) ∧ keep a b = true
 wt : acc.length + weight rs first + weight rt first ≤ 2 * s.length + 2 * t.length

theorem Mid.laid {m : Int} {keep : Bool → Bool → Bool} {s t : List Sp} {first : Int} {rs rt acc : List Sp} (h : Mid m keep s t first rs rt acc) {last : Int}
  (hl : last = min (stretched m rs first).1 (stretched m rt first).1) :
  let acc' := if keep (stretched m rs first).2 (stretched m rt first).2 then joined acc (first, last) else acc
  first ≤ last ∧ last ≤ m ∧ Canon m acc' ∧ (∀ y ∈ acc', y.1 ≤ first) ∧ (∀ p, In p acc' ↔ p ≤ last ∧ 0 ≤ p ∧ ∃ a b, (a = true ↔ In p s) ∧ (b = true ↔ In p t) ∧ keep a b = true) := by
 intro acc';obtain ⟨s1, s2, s3⟩ := stretched_spec h.cs h.fs h.hb;obtain ⟨t1, t2, t3⟩ := stretched_spec h.ct h.ft h.hb;have hf := h.hb;have h1 : first ≤ last := by omega
 have h2 : last ≤ m := by omega
 have hS : ∀ p, first ≤ p → p ≤ last → ((stretched m rs first).2 = true ↔ In p s) := fun p a b => (s3 p a (by omega)).symm.trans (h.es p a)
 have hT : ∀ p, first ≤ p → p ≤ last → ((stretched m rt first).2 = true ↔ In p t) := fun p a b => (t3 p a (by omega)).symm.trans (h.et p a)
 have uniq : ∀ {a b : Bool} {P : Prop}, (a = true ↔ P) → (b = true ↔ P) → a = b := fun {a b P} x y => by
  cases a <;> cases b <;> simp_all
 by_cases k : keep (stretched m rs first).2 (stretched m rt first).2 = true
 ·have e : acc' = joined acc (first, last) := by simp [acc', k]
  rw [e];obtain ⟨j1, j2, j3⟩ := joined_spec h.ca (x := (first, last)) h.la ⟨h.hb.1, h1, h2⟩;refine ⟨h1, h2, j1, j3, fun p => ?_⟩;rw [j2 p, h.ea p]
  show _ ∨ (first ≤ p ∧ p ≤ last) ↔ _
  constructor
  ·rintro (⟨a, b, c⟩ | ⟨a, b⟩)
   ·exact ⟨by omega, b, c⟩
   ·exact ⟨b, by omega, _, _, hS p a b, hT p a b, k⟩
  ·rintro ⟨a, b, c⟩
   by_cases g : p < first
   ·exact .inl ⟨g, b, c⟩
   ·exact .inr ⟨by omega, a⟩
 ·have e : acc' = acc := by simp [acc', k]
  rw [e];refine ⟨h1, h2, h.ca, h.la, fun p => ?_⟩;rw [h.ea p]
  constructor
  ·rintro ⟨a, b, c⟩;exact ⟨by omega, b, c⟩
  ·rintro ⟨a, b, x, y, c1, c2, c3⟩
   by_cases g : p < first
   ·exact ⟨g, b, x, y, c1, c2, c3⟩
   ·have ex := uniq c1 (hS p (by omega) a);have ey := uniq c2 (hT p (by omega) a);rw [ex, ey] at c3;exact absurd c3 k

theorem Mid.next {m : Int} {keep : Bool → Bool → Bool} {s t : List Sp} {first : Int} {rs rt acc : List Sp} (h : Mid m keep s t first rs rt acc) {last : Int}
  (hl : last = min (stretched m rs first).1 (stretched m rt first).1) (hlm : last ≠ m) :
  Mid m keep s t (last + 1) (behindOf rs last) (behindOf rt last) (if keep (stretched m rs first).2 (stretched m rt first).2 then joined acc (first, last) else acc) := by
 obtain ⟨h1, h2, h3, h4, h5⟩ := h.laid hl;obtain ⟨a1, a2, a3⟩ := behind_spec (last := last) h.cs h.fs (by omega);obtain ⟨b1, b2, b3⟩ := behind_spec (last := last) h.ct h.ft (by omega);have hf := h.hb;exact ⟨by omega, a1, b1, a2, b2, fun p hp => (a3 p (by omega)).trans (h.es p (by omega)), fun p hp => (b3 p (by omega)).trans (h.et p (by omega)), h3, fun y hy => by have := h4 y hy; omega, fun p => by
  rw [h5 p]
  constructor
  ·rintro ⟨a, b⟩; exact ⟨by omega, b⟩
  ·rintro ⟨a, b⟩; exact ⟨by omega, b⟩, by
  have w1 := weight_step (last := last) h.cs h.fs (by omega) h1 hlm;have w2 := weight_step (last := last) h.ct h.ft (by omega) h1 hlm;have w3 := h.wt;have w4 : (if keep (stretched m rs first).2 (stretched m rt first).2 then joined acc (first, last) else acc).length ≤ acc.length + 1 := by
   split
   ·exact joined_length _ _
   ·omega
  have w5 : last = (stretched m rs first).1 ∨ last = (stretched m rt first).1 := by omega
  rcases w5 with w5 | w5
  ·rw [if_pos w5] at w1
   split at w2 <;> omega
  ·rw [if_pos w5] at w2
   split at w1 <;> omega⟩

theorem Mid.start {m : Int} {keep : Bool → Bool → Bool} {s t : List Sp} (hm : 0 ≤ m) (hs : Canon m s) (ht : Canon m t) : Mid m keep s t 0 s t [] :=
 ⟨⟨Int.le_refl _, hm⟩, hs, ht, fun x hx => by have := hs.1 x hx; omega, fun x hx => by have := ht.1 x hx; omega, fun _ _ => Iff.rfl, fun _ _ => Iff.rfl, canon_nil m, fun _ h => (by cases h), fun p => by
  constructor
  ·exact fun h => absurd h (in_nil p)
  ·rintro ⟨a, b, _⟩; omega, by
  have := weight_le s 0;have := weight_le t 0;simp only [List.length_nil];omega⟩

def Made (m : Int) (keep : Bool → Bool → Bool) (s t rs : List Sp) : Prop :=
 Canon m rs ∧ (∀ p, In p rs ↔ p ≤ m ∧ 0 ≤ p ∧ ∃ a b, (a = true ↔ In p s) ∧ (b = true ↔ In p t) ∧ keep a b = true) ∧ rs.length ≤ 2 * s.length + 2 * t.length + 1
theorem Mid.done {m : Int} {keep : Bool → Bool → Bool} {s t : List Sp} {first : Int} {rs rt acc : List Sp} (h : Mid m keep s t first rs rt acc) {last : Int} (hl : last = min (stretched m rs first).1 (stretched m rt first).1) (hm : last = m) :
  Made m keep s t (if keep (stretched m rs first).2 (stretched m rt first).2 then joined acc (first, last) else acc) := by
 subst hm;obtain ⟨h1, h2, h3, h4, h5⟩ := h.laid hl;refine ⟨h3, h5, ?_⟩;have w3 := h.wt;have w4 : (if keep (stretched last rs first).2 (stretched last rt first).2 then joined acc (first, last) else acc).length ≤ acc.length + 1 := by
  split
  ·exact joined_length _ _
  ·omega
 omega
theorem Made.or {m : Int} {s t rs : List Sp} (h : Made m (fun a b => a || b) s t rs) (hs : Canon m s) (ht : Canon m t) (p : Int) : In p rs ↔ In p s ∨ In p t := by
 rw [h.2.1 p]
 constructor
 ·rintro ⟨_, _, a, b, ha, hb, hk⟩;simp only [Bool.or_eq_true] at hk;exact hk.imp ha.1 hb.1
 ·intro q;have hp : 0 ≤ p ∧ p ≤ m := q.elim (fun q => hs.bounds q) (fun q => ht.bounds q)
  by_cases a : In p s <;> by_cases b : In p t
  ·exact ⟨hp.2, hp.1, true, true, by simp [a], by simp [b], rfl⟩
  ·exact ⟨hp.2, hp.1, true, false, by simp [a], by simp [b], rfl⟩
  ·exact ⟨hp.2, hp.1, false, true, by simp [a], by simp [b], rfl⟩
  ·exact absurd q (by simp [a, b])
def ends (p : Int) (xs : List Sp) : Nat := xs.countP (fun x => decide (x.2 < p))
end Go.Proofs.YtmfkggngjeolcaaGreatDoor.Sp
