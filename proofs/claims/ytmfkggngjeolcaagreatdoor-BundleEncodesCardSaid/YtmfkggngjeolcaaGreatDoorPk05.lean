import Derived.Test.YtmfkggngjeolcaaGreatDoorPk04
import Derived.WalkKit
import Derived.Test.YtmfkggngjeolcaaGreatDoorProg
import Derived.WalkSpells
import Derived.WalkLawsBesides
import Derived.Shelf.Abstract
/- Bundle: what an image is, and the bytes that are laid down for it. Plain. Own work. -/
namespace Go.Proofs.YtmfkggngjeolcaaGreatDoor
set_option linter.unusedVariables false
namespace Bn
abbrev Rg := Nat × Nat
structure Tn where
  cpu : Int
  root : Int
  st : Bool
  rule : Int
  to : Int
  vec : Int
structure Gd where
  ad : Nat
  sz : Nat
  fill : Nat
  txt : ByteArray
structure Lk where
  fr : Int
  to : Int
  eff : Int
  vec : Int
  msk : Bool
structure Sc where
  maj : Int
  lanes : List (List (Int × Int))
structure Im where
  base : Nat
  rams : List Rg
  devs : List Rg
  subs : List Tn
  ports : List Int
  regs : List Gd
  chs : List Lk
  irqs : List Lk
  plans : List Sc
  master : Int
  start : Int
  tabs : List (Nat → Nat)
/-- bytes so far, and why not -/
abbrev S := List Nat × Int
def byteS (k : Int) (s : S) : S := (s.1 ++ Pl.le 1 (k % 256).toNat, fieldF s.2 (fitB 0 255 k))
def flagS (b : Bool) (s : S) : S := byteS (if b = true then 1 else 0) s
def halfS (k : Int) (s : S) : S := (s.1 ++ Pl.le 2 (k % 65536).toNat, fieldF s.2 (fitB 0 65535 k))
def noneS (k : Int) (s : S) : S := (s.1 ++ Pl.le 2 (k % 65536).toNat, fieldF s.2 (noneB k))
def wordS (k : Int) (s : S) : S := (s.1 ++ Pl.le 4 (k % 4294967296).toNat, fieldF s.2 (fitB 0 4294967295 k))
def longS (m : Nat) (s : S) : S := (s.1 ++ Pl.le 8 m, s.2)
def zerosS (c : Nat) (s : S) : S := (s.1 ++ List.replicate c 0, s.2)
def fieldS (b : Bool) (s : S) : S := (s.1, fieldF s.2 b)
def askS (b : Bool) (no : Int) (s : S) : S := (s.1, askF s.2 b no)
def bytesS (ys : List Nat) (s : S) : S := (s.1 ++ ys, s.2)
def manyS (n : Nat) (s : S) : S := zerosS 6 (halfS (n : Int) s)
/-- the next multiple -/
def upN (a al : Nat) : Nat := if a % al = 0 then a else a + (al - a % al)
def padS (al : Nat) (s : S) : S := zerosS (upN s.1.length al - s.1.length) s
def bts (t : ByteArray) : List Nat := t.data.toList.map UInt8.toNat
def textS (t : ByteArray) (s : S) : S := padS 8 (bytesS (bts t) (wordS (t.size : Int) (askS (decide (t.size ≤ 1048576)) 3 s)))
def rangeS (r : Rg) (s : S) : S := longS r.2 (longS r.1 s)
def tenS (x : Tn) (s : S) : S := noneS x.root (noneS x.to (byteS x.vec (byteS x.rule (flagS x.st (byteS x.cpu s)))))
def portS (r : Int) (s : S) : S := zerosS 6 (noneS r s)
def gdS (g : Gd) (s : S) : S := textS g.txt (zerosS 3 (byteS (g.fill : Int) (longS g.sz (longS g.ad s))))
def chS (c : Lk) (s : S) : S := zerosS 2 (byteS c.vec (byteS c.eff (noneS c.to (noneS c.fr (fieldS (!c.msk) s)))))
def iqS (c : Lk) (s : S) : S := zerosS 2 (flagS c.msk (byteS c.vec (noneS c.to (noneS c.fr (fieldS (decide (c.eff = 1)) s)))))
def stS (x : Int × Int) (s : S) : S := wordS x.2 (zerosS 2 (noneS x.1 s))
/-- one behind the other -/
def eachS {α : Type} (f : α → S → S) : List α → S → S
  | [], s => s
  | x :: xs, s => eachS f xs (f x s)
theorem eachS_take {α : Type} (f : α → S → S) : ∀ (xs : List α) (s : S) (i : Nat) (h : i < xs.length), eachS f (xs.take (i + 1)) s = f xs[i] (eachS f (xs.take i) s)
  | x :: xs, s, 0, h => by simp [eachS]
  | x :: xs, s, i + 1, h => by
    have := eachS_take f xs (f x s) i (by simpa using h)
    simpa [eachS] using this
def laneS (l : List (Int × Int)) (s : S) : S := eachS stS l (manyS l.length s)
def planS (n : Nat) (p : Sc) (s : S) : S := eachS laneS p.lanes (zerosS 4 (wordS p.maj (fieldS (decide (p.lanes.length = n)) s)))
def tb (f : Nat → Nat) : Nat → List Nat
  | 0 => []
  | k + 1 => tb f k ++ Pl.le 8 (f k)
def tabS (f : Nat → Nat) (s : S) : S := bytesS (tb f 512) s
def roomS (I : Im) (s : S) : S := zerosS 160 (fieldS (decide (I.base % 4096 = 0)) s)
def busS (I : Im) (s : S) : S := eachS rangeS I.devs (eachS rangeS I.rams (zerosS 4 (halfS (I.devs.length : Int) (halfS (I.rams.length : Int) s))))
def subsS (I : Im) (s : S) : S := eachS tenS I.subs (manyS I.subs.length s)
def portsS (I : Im) (s : S) : S := eachS portS I.ports (manyS I.ports.length (fieldS (decide (I.ports.length = I.devs.length)) s))
def regsS (I : Im) (s : S) : S := eachS gdS I.regs (manyS I.regs.length s)
def chsS (I : Im) (s : S) : S := eachS chS I.chs (manyS I.chs.length s)
def irqsS (I : Im) (s : S) : S := eachS iqS I.irqs (manyS I.irqs.length s)
def lanesN (I : Im) : Nat := match I.plans with
  | [] => 0
  | p :: _ => p.lanes.length
def plansS (I : Im) (s : S) : S := eachS (planS (lanesN I)) I.plans (halfS I.start (noneS I.master (halfS (lanesN I : Int) (halfS (I.plans.length : Int) s))))
def tabsS (I : Im) (s : S) : S := eachS tabS I.tabs s
end Bn
end Go.Proofs.YtmfkggngjeolcaaGreatDoor
/-! Sets of numbers as rows of spans: what the rows mean, when two are one, what is laid behind a row, what two rows make. Plain mathematics: no program. Own work. -/
namespace Go.Proofs.YtmfkggngjeolcaaGreatDoor.Sp

abbrev Sp := Int × Int

/-- A point is in a row. -/
def In (p : Int) (xs : List Sp) : Prop := ∃ x ∈ xs, x.1 ≤ p ∧ p ≤ x.2

/-- The fewest spans, from the lowest up, within 0 and m. -/
def Canon (m : Int) (xs : List Sp) : Prop := (∀ x ∈ xs, 0 ≤ x.1 ∧ x.1 ≤ x.2 ∧ x.2 ≤ m) ∧ xs.Pairwise (fun x y => x.2 + 1 < y.1)

theorem in_nil (p : Int) : ¬ In p [] := by rintro ⟨x, h, _⟩; cases h
theorem in_cons (p : Int) (x : Sp) (xs : List Sp) : In p (x :: xs) ↔ (x.1 ≤ p ∧ p ≤ x.2) ∨ In p xs := by
  simp [In]
theorem in_append (p : Int) (xs ys : List Sp) : In p (xs ++ ys) ↔ In p xs ∨ In p ys := by
  constructor
  · rintro ⟨x, h, hp⟩
    rcases List.mem_append.1 h with h | h
    · exact .inl ⟨x, h, hp⟩
    · exact .inr ⟨x, h, hp⟩
  · rintro (⟨x, h, hp⟩ | ⟨x, h, hp⟩)
    · exact ⟨x, List.mem_append.2 (.inl h), hp⟩
    · exact ⟨x, List.mem_append.2 (.inr h), hp⟩
theorem in_one (p : Int) (x : Sp) : In p [x] ↔ (x.1 ≤ p ∧ p ≤ x.2) := by simp [In]

theorem canon_nil (m : Int) : Canon m [] := ⟨fun _ h => (by cases h), List.Pairwise.nil⟩
theorem canon_cons {m : Int} {x : Sp} {xs : List Sp} : Canon m (x :: xs) ↔ (0 ≤ x.1 ∧ x.1 ≤ x.2 ∧ x.2 ≤ m) ∧ (∀ y ∈ xs, x.2 + 1 < y.1) ∧ Canon m xs := by
  simp only [Canon, List.mem_cons, forall_eq_or_imp, List.pairwise_cons]
  constructor
  · rintro ⟨⟨a, b⟩, c, d⟩; exact ⟨a, c, b, d⟩
  · rintro ⟨a, c, b, d⟩; exact ⟨⟨a, b⟩, c, d⟩
theorem canon_append {m : Int} {xs ys : List Sp} : Canon m (xs ++ ys) ↔ Canon m xs ∧ Canon m ys ∧ ∀ x ∈ xs, ∀ y ∈ ys, x.2 + 1 < y.1 := by
  simp only [Canon, List.mem_append, List.pairwise_append]
  constructor
  · rintro ⟨a, b, c, d⟩; exact ⟨⟨fun x h => a x (.inl h), b⟩, ⟨fun x h => a x (.inr h), c⟩, d⟩
  · rintro ⟨⟨a, b⟩, ⟨c, d⟩, e⟩; exact ⟨fun x h => h.elim (a x) (c x), b, d, e⟩
theorem Canon.tail {m : Int} {x : Sp} {xs : List Sp} (h : Canon m (x :: xs)) : Canon m xs := (canon_cons.1 h).2.2
theorem Canon.bounds {m : Int} {xs : List Sp} (h : Canon m xs) {p : Int} (hp : In p xs) : 0 ≤ p ∧ p ≤ m := by
  obtain ⟨x, hx, h1, h2⟩ := hp
  have := h.1 x hx
  omega

/-- Behind the first span no point lies but beyond it. -/
theorem Canon.tail_above {m : Int} {x : Sp} {xs : List Sp} (h : Canon m (x :: xs)) {p : Int} (hp : In p xs) : x.2 + 1 < p := by
  obtain ⟨y, hy, h1, _⟩ := hp
  have := (canon_cons.1 h).2.1 y hy
  omega

/-- ONE SET, ONE ROW. -/
theorem canon_ext {m : Int} : ∀ {xs ys : List Sp}, Canon m xs → Canon m ys → (∀ p, In p xs ↔ In p ys) → xs = ys
  | [], [], _, _, _ => rfl
  | [], y :: ys, _, hy, h => by
    have hb := (canon_cons.1 hy).1
    exact absurd ((h y.1).2 ((in_cons _ _ _).2 (.inl ⟨by omega, by omega⟩))) (in_nil _)
  | x :: xs, [], hx, _, h => by
    have hb := (canon_cons.1 hx).1
    exact absurd ((h x.1).1 ((in_cons _ _ _).2 (.inl ⟨by omega, by omega⟩))) (in_nil _)
  | x :: xs, y :: ys, hx, hy, h => by
    have bx := (canon_cons.1 hx).1
    have byy := (canon_cons.1 hy).1
    have e1 : x.1 = y.1 := by
      have a := (h x.1).1 ((in_cons _ _ _).2 (.inl ⟨by omega, by omega⟩))
      have b := (h y.1).2 ((in_cons _ _ _).2 (.inl ⟨by omega, by omega⟩))
      have a' : y.1 ≤ x.1 := by
        rcases (in_cons _ _ _).1 a with a | a
        · omega
        · have := hy.tail_above a; omega
      have b' : x.1 ≤ y.1 := by
        rcases (in_cons _ _ _).1 b with b | b
        · omega
        · have := hx.tail_above b; omega
      omega
    have e2 : x.2 = y.2 := by
      rcases Int.lt_trichotomy x.2 y.2 with g | g | g
      · have a := (h (x.2 + 1)).2 ((in_cons _ _ _).2 (.inl ⟨by omega, by omega⟩))
        rcases (in_cons _ _ _).1 a with a | a
        · omega
        · have := hx.tail_above a; omega
      · exact g
      · have a := (h (y.2 + 1)).1 ((in_cons _ _ _).2 (.inl ⟨by omega, by omega⟩))
        rcases (in_cons _ _ _).1 a with a | a
        · omega
        · have := hy.tail_above a; omega
    have e : x = y := Prod.ext e1 e2
    subst e
    have ht := canon_ext hx.tail hy.tail fun p => by
      constructor
      · intro hp
        have := hx.tail_above hp
        rcases (in_cons _ _ _).1 ((h p).1 ((in_cons _ _ _).2 (.inr hp))) with a | a
        · omega
        · exact a
      · intro hp
        have := hy.tail_above hp
        rcases (in_cons _ _ _).1 ((h p).2 ((in_cons _ _ _).2 (.inr hp))) with a | a
        · omega
        · exact a
    rw [ht]

/-- A span laid behind a row. -/
def joined (acc : List Sp) (x : Sp) : List Sp :=
  match acc.getLast? with
  | none => [x]
  | some e => if e.2 + 1 < x.1 then acc ++ [x] else acc.dropLast ++ [(e.1, max e.2 x.2)]

theorem joined_nil (x : Sp) : joined [] x = [x] := rfl
theorem joined_far (a : List Sp) (e x : Sp) (h : e.2 + 1 < x.1) : joined (a ++ [e]) x = a ++ [e] ++ [x] := by
  simp [joined, h]
theorem joined_near (a : List Sp) (e x : Sp) (h : ¬ e.2 + 1 < x.1) : joined (a ++ [e]) x = a ++ [(e.1, max e.2 x.2)] := by
  simp [joined, h]

theorem joined_spec {m : Int} {acc : List Sp} {x : Sp} (h : Canon m acc) (hl : ∀ y ∈ acc, y.1 ≤ x.1) (hx : 0 ≤ x.1 ∧ x.1 ≤ x.2 ∧ x.2 ≤ m) :
    Canon m (joined acc x) ∧ (∀ p, In p (joined acc x) ↔ In p acc ∨ (x.1 ≤ p ∧ p ≤ x.2)) ∧ (∀ y ∈ joined acc x, y.1 ≤ x.1) := by
  rcases List.eq_nil_or_concat acc with rfl | ⟨a, e, rfl⟩
  · rw [joined_nil]
    refine ⟨canon_cons.2 ⟨hx, fun _ h => (by cases h), canon_nil m⟩, fun p => ?_, fun y hy => ?_⟩
    · rw [in_one]; simp [in_nil]
    · obtain rfl : y = x := by simpa using hy
      exact Int.le_refl _
  · simp only [List.concat_eq_append] at h hl ⊢
    obtain ⟨ha, he, hae⟩ := canon_append.1 h
    have be := (canon_cons.1 he).1
    have hel := hl e (by simp)
    by_cases g : e.2 + 1 < x.1
    · rw [joined_far a e x g]
      refine ⟨canon_append.2 ⟨h, canon_cons.2 ⟨hx, fun _ h => (by cases h), canon_nil m⟩, fun y hy z hz => ?_⟩, fun p => ?_, fun y hy => ?_⟩
      · obtain rfl : z = x := by simpa using hz
        rcases List.mem_append.1 hy with hy | hy
        · have := hae y hy e (by simp); omega
        · obtain rfl : y = e := by simpa using hy
          exact g
      · rw [in_append, in_one]
      · rcases List.mem_append.1 hy with hy | hy
        · exact hl y hy
        · obtain rfl : y = x := by simpa using hy
          exact Int.le_refl _
    · rw [joined_near a e x g]
      have hm : e.2 ≤ max e.2 x.2 ∧ x.2 ≤ max e.2 x.2 ∧ (max e.2 x.2 = e.2 ∨ max e.2 x.2 = x.2) := by omega
      refine ⟨canon_append.2 ⟨ha, canon_cons.2 ⟨?_, fun _ h => (by cases h), canon_nil m⟩, fun y hy z hz => ?_⟩, fun p => ?_, fun y hy => ?_⟩
      · show 0 ≤ e.1 ∧ e.1 ≤ max e.2 x.2 ∧ max e.2 x.2 ≤ m
        omega
      · obtain rfl : z = (e.1, max e.2 x.2) := by simpa using hz
        exact hae y hy e (by simp)
      · rw [in_append, in_append, in_one, in_one]
        show _ ∨ (e.1 ≤ p ∧ p ≤ max e.2 x.2) ↔ _
        constructor
        · rintro (q | q)
          · exact .inl (.inl q)
          · by_cases c : p ≤ e.2
            · exact .inl (.inr ⟨q.1, c⟩)
            · exact .inr (by omega)
        · rintro ((q | q) | q)
          · exact .inl q
          · exact .inr (by omega)
          · exact .inr (by omega)
      · rcases List.mem_append.1 hy with hy | hy
        · exact hl y (List.mem_append.2 (.inl hy))
        · obtain rfl : y = (e.1, max e.2 x.2) := by simpa using hy
          exact hel

theorem joined_length (acc : List Sp) (x : Sp) : (joined acc x).length ≤ acc.length + 1 := by
  rcases List.eq_nil_or_concat acc with rfl | ⟨a, e, rfl⟩
  · simp [joined_nil]
  · simp only [List.concat_eq_append]
    by_cases g : e.2 + 1 < x.1
    · rw [joined_far a e x g]; simp
    · rw [joined_near a e x g]; simp
/-- What Of makes of spans in the order in which they come. -/
def ofRow : List Sp → List Sp → List Sp
  | acc, [] => acc
  | acc, x :: xs => ofRow (if x.2 < x.1 then acc else joined acc x) xs

theorem ofRow_spec {m : Int} : ∀ (xs acc : List Sp), Canon m acc → (∀ x ∈ xs, 0 ≤ x.1 ∧ x.1 ≤ m ∧ 0 ≤ x.2 ∧ x.2 ≤ m) → xs.Pairwise (fun x y => x.1 ≤ y.1) → (∀ y ∈ acc, ∀ x ∈ xs, y.1 ≤ x.1) →
    Canon m (ofRow acc xs) ∧ ∀ p, In p (ofRow acc xs) ↔ In p acc ∨ In p xs
  | [], acc, hc, _, _, _ => ⟨hc, fun p => by simp [ofRow, in_nil]⟩
  | x :: xs, acc, hc, hb, hs, hl => by
    have hs' := List.pairwise_cons.1 hs
    have bx := hb x (by simp)
    by_cases g : x.2 < x.1
    · have ih := ofRow_spec xs acc hc (fun y hy => hb y (by simp [hy])) hs'.2 (fun y hy z hz => hl y hy z (by simp [hz]))
      simp only [ofRow, if_pos g]
      refine ⟨ih.1, fun p => ?_⟩
      rw [ih.2 p, in_cons]
      constructor
      · rintro (q | q)
        · exact .inl q
        · exact .inr (.inr q)
      · rintro (q | q | q)
        · exact .inl q
        · omega
        · exact .inr q
    · obtain ⟨j1, j2, j3⟩ := joined_spec hc (fun y hy => hl y hy x (by simp)) (x := x) (by omega)
      have ih := ofRow_spec xs (joined acc x) j1 (fun y hy => hb y (by simp [hy])) hs'.2 (fun y hy z hz => by
        have a := j3 y hy
        have b := hs'.1 z hz
        omega)
      simp only [ofRow, if_neg g]
      refine ⟨ih.1, fun p => ?_⟩
      rw [ih.2 p, j2 p, in_cons]
      constructor
      · rintro ((q | q) | q)
        · exact .inl q
        · exact .inr (.inl q)
        · exact .inr (.inr q)
      · rintro (q | q | q)
        · exact .inl (.inl q)
        · exact .inl (.inr q)
        · exact .inr q

def ofStep (acc : List Sp) (x : Sp) : List Sp := if x.2 < x.1 then acc else joined acc x
/-- Spans of numbers of the type. -/
def Fits (m : Int) (xs : List Sp) : Prop := ∀ x ∈ xs, 0 ≤ x.1 ∧ x.1 ≤ m ∧ 0 ≤ x.2 ∧ x.2 ≤ m
/-- What Of makes of spans. -/
def OfR (m : Int) (xs rs : List Sp) : Prop := Canon m rs ∧ (∀ p, In p rs ↔ In p xs) ∧ rs.length ≤ xs.length

/-- How far all is in a row, or all is out of it. -/
def stretched (m : Int) (row : List Sp) (first : Int) : Int × Bool :=
  match row with
  | [] => (m, false)
  | x :: _ => if first < x.1 then (x.1 - 1, false) else (x.2, true)
/-- What is left behind a point. -/
def behindOf (row : List Sp) (last : Int) : List Sp :=
  match row with
  | [] => []
  | x :: r => if x.2 = last then r else x :: r

/-- No span of it ends below first. -/
def From (first : Int) (row : List Sp) : Prop := ∀ x ∈ row, first ≤ x.2

theorem stretched_spec {m first : Int} {row : List Sp} (h : Canon m row) (hf : From first row) (h0 : 0 ≤ first ∧ first ≤ m) :
    first ≤ (stretched m row first).1 ∧ (stretched m row first).1 ≤ m ∧ ∀ p, first ≤ p → p ≤ (stretched m row first).1 → (In p row ↔ (stretched m row first).2 = true) := by
  cases row with
  | nil => exact ⟨h0.2, Int.le_refl _, fun p _ _ => by simp [stretched, in_nil]⟩
  | cons x r =>
    have bx := (canon_cons.1 h).1
    have hx := hf x (by simp)
    by_cases g : first < x.1
    · simp only [stretched, if_pos g]
      refine ⟨by omega, by omega, fun p h1 h2 => ?_⟩
      simp only [Bool.false_eq_true, iff_false]
      intro hp
      rcases (in_cons _ _ _).1 hp with q | q
      · omega
      · have := h.tail_above q; omega
    · simp only [stretched, if_neg g]
      refine ⟨by omega, by omega, fun p h1 h2 => ?_⟩
      simp only [iff_true]
      exact (in_cons _ _ _).2 (.inl ⟨by omega, h2⟩)

theorem behind_spec {m first last : Int} {row : List Sp} (h : Canon m row) (hf : From first row) (h1 : last ≤ (stretched m row first).1) :
    Canon m (behindOf row last) ∧ From (last + 1) (behindOf row last) ∧ ∀ p, last < p → (In p (behindOf row last) ↔ In p row) := by
  cases row with
  | nil => exact ⟨h, fun _ h => (by cases h), fun _ _ => Iff.rfl⟩
  | cons x r =>
    have bx := (canon_cons.1 h).1
    have hx := hf x (by simp)
    have hle : last ≤ x.2 := by
      by_cases g : first < x.1
      · simp only [stretched, if_pos g] at h1; omega
      · simp only [stretched, if_neg g] at h1; exact h1
    have hr : ∀ y ∈ r, last + 1 ≤ y.2 := fun y hy => by
      have := (canon_cons.1 h).2.1 y hy
      have := (h.tail).1 y hy
      omega
    by_cases g : x.2 = last
    · simp only [behindOf, if_pos g]
      refine ⟨h.tail, hr, fun p hp => ?_⟩
      rw [in_cons]
      constructor
      · exact .inr
      · rintro (q | q)
        · omega
        · exact q
    · simp only [behindOf, if_neg g]
      refine ⟨h, fun y hy => ?_, fun _ _ => trivial⟩
      rcases List.mem_cons.1 hy with rfl | hy
      · omega
      · exact hr y hy

/-- How many ends of spans are still ahead. -/
def weight (row : List Sp) (first : Int) : Nat :=
  match row with
  | [] => 0
  | x :: r => (if first < x.1 then 2 else 1) + 2 * r.length
theorem weight_le (row : List Sp) (first : Int) : weight row first ≤ 2 * row.length := by
  cases row with
  | nil => exact Nat.le_refl _
  | cons x r => simp only [weight, List.length_cons]; split <;> omega
theorem weight_step {m first last : Int} {row : List Sp} (h : Canon m row) (hf : From first row) (h1 : last ≤ (stretched m row first).1) (h0 : first ≤ last) (hm : last ≠ m) :
    weight (behindOf row last) (last + 1) + (if last = (stretched m row first).1 then 1 else 0) ≤ weight row first := by
  cases row with
  | nil =>
    simp only [stretched] at h1 ⊢
    simp [behindOf, weight, hm]
  | cons x r =>
    have bx := (canon_cons.1 h).1
    have hx := hf x (by simp)
    by_cases g : first < x.1
    · simp only [stretched, if_pos g] at h1 ⊢
      have hne : x.2 ≠ last := by omega
      simp only [behindOf, if_neg hne, weight, if_pos g]
      split <;> split <;> omega
    · simp only [stretched, if_neg g] at h1 ⊢
      by_cases e : x.2 = last
      · simp only [behindOf, if_pos e, weight, if_neg g, if_pos e.symm]
        have : weight r (last + 1) ≤ 2 * r.length := weight_le _ _
        show weight r (last + 1) + 1 ≤ _
        omega
      · simp only [behindOf, if_neg e, weight, if_neg g, if_neg (fun q => e (Eq.symm q) : ¬ last = x.2)]
        split <;> omega

/-- What the walk over two rows has laid by the time that it stands at first. -/
structure Mid (m : Int) (keep : Bool → Bool → Bool) (s t : List Sp) (first : Int) (rs rt acc : List Sp) : Prop where
  hb : 0 ≤ first ∧ first ≤ m
  cs : Canon m rs
  ct : Canon m rt
  fs : From first rs
  ft : From first rt
  es : ∀ p, first ≤ p → (In p rs ↔ In p s)
  et : ∀ p, first ≤ p → (In p rt ↔ In p t)
  ca : Canon m acc
  la : ∀ y ∈ acc, y.1 ≤ first
  ea : ∀ p, In p acc ↔ p < first ∧ 0 ≤ p ∧ ∃ a b, (a = true ↔ In p s) ∧ (b = true ↔ In p t) ∧ keep a b = true
  wt : acc.length + weight rs first + weight rt first ≤ 2 * s.length + 2 * t.length

/-- Behind one stretch. -/
theorem Mid.laid {m : Int} {keep : Bool → Bool → Bool} {s t : List Sp} {first : Int} {rs rt acc : List Sp} (h : Mid m keep s t first rs rt acc) {last : Int}
    (hl : last = min (stretched m rs first).1 (stretched m rt first).1) :
    let acc' := if keep (stretched m rs first).2 (stretched m rt first).2 then joined acc (first, last) else acc
    first ≤ last ∧ last ≤ m ∧ Canon m acc' ∧ (∀ y ∈ acc', y.1 ≤ first) ∧ (∀ p, In p acc' ↔ p ≤ last ∧ 0 ≤ p ∧ ∃ a b, (a = true ↔ In p s) ∧ (b = true ↔ In p t) ∧ keep a b = true) := by
  intro acc'
  obtain ⟨s1, s2, s3⟩ := stretched_spec h.cs h.fs h.hb
  obtain ⟨t1, t2, t3⟩ := stretched_spec h.ct h.ft h.hb
  have hf := h.hb
  have h1 : first ≤ last := by omega
  have h2 : last ≤ m := by omega
  have hS : ∀ p, first ≤ p → p ≤ last → ((stretched m rs first).2 = true ↔ In p s) := fun p a b => (s3 p a (by omega)).symm.trans (h.es p a)
  have hT : ∀ p, first ≤ p → p ≤ last → ((stretched m rt first).2 = true ↔ In p t) := fun p a b => (t3 p a (by omega)).symm.trans (h.et p a)
  have uniq : ∀ {a b : Bool} {P : Prop}, (a = true ↔ P) → (b = true ↔ P) → a = b := fun {a b P} x y => by
    cases a <;> cases b <;> simp_all
  by_cases k : keep (stretched m rs first).2 (stretched m rt first).2 = true
  · have e : acc' = joined acc (first, last) := by simp [acc', k]
    rw [e]
    obtain ⟨j1, j2, j3⟩ := joined_spec h.ca (x := (first, last)) h.la ⟨h.hb.1, h1, h2⟩
    refine ⟨h1, h2, j1, j3, fun p => ?_⟩
    rw [j2 p, h.ea p]
    show _ ∨ (first ≤ p ∧ p ≤ last) ↔ _
    constructor
    · rintro (⟨a, b, c⟩ | ⟨a, b⟩)
      · exact ⟨by omega, b, c⟩
      · exact ⟨b, by omega, _, _, hS p a b, hT p a b, k⟩
    · rintro ⟨a, b, c⟩
      by_cases g : p < first
      · exact .inl ⟨g, b, c⟩
      · exact .inr ⟨by omega, a⟩
  · have e : acc' = acc := by simp [acc', k]
    rw [e]
    refine ⟨h1, h2, h.ca, h.la, fun p => ?_⟩
    rw [h.ea p]
    constructor
    · rintro ⟨a, b, c⟩
      exact ⟨by omega, b, c⟩
    · rintro ⟨a, b, x, y, c1, c2, c3⟩
      by_cases g : p < first
      · exact ⟨g, b, x, y, c1, c2, c3⟩
      · have ex := uniq c1 (hS p (by omega) a)
        have ey := uniq c2 (hT p (by omega) a)
        rw [ex, ey] at c3
        exact absurd c3 k

theorem Mid.next {m : Int} {keep : Bool → Bool → Bool} {s t : List Sp} {first : Int} {rs rt acc : List Sp} (h : Mid m keep s t first rs rt acc) {last : Int}
    (hl : last = min (stretched m rs first).1 (stretched m rt first).1) (hlm : last ≠ m) :
    Mid m keep s t (last + 1) (behindOf rs last) (behindOf rt last) (if keep (stretched m rs first).2 (stretched m rt first).2 then joined acc (first, last) else acc) := by
  obtain ⟨h1, h2, h3, h4, h5⟩ := h.laid hl
  obtain ⟨a1, a2, a3⟩ := behind_spec (last := last) h.cs h.fs (by omega)
  obtain ⟨b1, b2, b3⟩ := behind_spec (last := last) h.ct h.ft (by omega)
  have hf := h.hb
  exact ⟨by omega, a1, b1, a2, b2, fun p hp => (a3 p (by omega)).trans (h.es p (by omega)), fun p hp => (b3 p (by omega)).trans (h.et p (by omega)), h3, fun y hy => by have := h4 y hy; omega, fun p => by
    rw [h5 p]
    constructor
    · rintro ⟨a, b⟩; exact ⟨by omega, b⟩
    · rintro ⟨a, b⟩; exact ⟨by omega, b⟩, by
    have w1 := weight_step (last := last) h.cs h.fs (by omega) h1 hlm
    have w2 := weight_step (last := last) h.ct h.ft (by omega) h1 hlm
    have w3 := h.wt
    have w4 : (if keep (stretched m rs first).2 (stretched m rt first).2 then joined acc (first, last) else acc).length ≤ acc.length + 1 := by
      split
      · exact joined_length _ _
      · omega
    have w5 : last = (stretched m rs first).1 ∨ last = (stretched m rt first).1 := by omega
    rcases w5 with w5 | w5
    · rw [if_pos w5] at w1
      split at w2 <;> omega
    · rw [if_pos w5] at w2
      split at w1 <;> omega⟩

theorem Mid.start {m : Int} {keep : Bool → Bool → Bool} {s t : List Sp} (hm : 0 ≤ m) (hs : Canon m s) (ht : Canon m t) : Mid m keep s t 0 s t [] :=
  ⟨⟨Int.le_refl _, hm⟩, hs, ht, fun x hx => by have := hs.1 x hx; omega, fun x hx => by have := ht.1 x hx; omega, fun _ _ => Iff.rfl, fun _ _ => Iff.rfl, canon_nil m, fun _ h => (by cases h), fun p => by
    constructor
    · exact fun h => absurd h (in_nil p)
    · rintro ⟨a, b, _⟩; omega, by
    have := weight_le s 0
    have := weight_le t 0
    simp only [List.length_nil]
    omega⟩

/-- What two rows make. -/
def Made (m : Int) (keep : Bool → Bool → Bool) (s t rs : List Sp) : Prop :=
  Canon m rs ∧ (∀ p, In p rs ↔ p ≤ m ∧ 0 ≤ p ∧ ∃ a b, (a = true ↔ In p s) ∧ (b = true ↔ In p t) ∧ keep a b = true) ∧ rs.length ≤ 2 * s.length + 2 * t.length + 1
theorem Mid.done {m : Int} {keep : Bool → Bool → Bool} {s t : List Sp} {first : Int} {rs rt acc : List Sp} (h : Mid m keep s t first rs rt acc) {last : Int} (hl : last = min (stretched m rs first).1 (stretched m rt first).1) (hm : last = m) :
    Made m keep s t (if keep (stretched m rs first).2 (stretched m rt first).2 then joined acc (first, last) else acc) := by
  subst hm
  obtain ⟨h1, h2, h3, h4, h5⟩ := h.laid hl
  refine ⟨h3, h5, ?_⟩
  have w3 := h.wt
  have w4 : (if keep (stretched last rs first).2 (stretched last rt first).2 then joined acc (first, last) else acc).length ≤ acc.length + 1 := by
    split
    · exact joined_length _ _
    · omega
  omega
theorem Made.or {m : Int} {s t rs : List Sp} (h : Made m (fun a b => a || b) s t rs) (hs : Canon m s) (ht : Canon m t) (p : Int) : In p rs ↔ In p s ∨ In p t := by
  rw [h.2.1 p]
  constructor
  · rintro ⟨_, _, a, b, ha, hb, hk⟩
    simp only [Bool.or_eq_true] at hk
    exact hk.imp ha.1 hb.1
  · intro q
    have hp : 0 ≤ p ∧ p ≤ m := q.elim (fun q => hs.bounds q) (fun q => ht.bounds q)
    by_cases a : In p s <;> by_cases b : In p t
    · exact ⟨hp.2, hp.1, true, true, by simp [a], by simp [b], rfl⟩
    · exact ⟨hp.2, hp.1, true, false, by simp [a], by simp [b], rfl⟩
    · exact ⟨hp.2, hp.1, false, true, by simp [a], by simp [b], rfl⟩
    · exact absurd q (by simp [a, b])
/-- How many spans end below a point. -/
def ends (p : Int) (xs : List Sp) : Nat := xs.countP (fun x => decide (x.2 < p))
/-- Behind them come those that don't. -/
theorem ends_spec {m : Int} (p : Int) : ∀ {xs : List Sp}, Canon m xs → From p (xs.drop (ends p xs)) ∧ ∀ x ∈ xs.take (ends p xs), x.2 < p
  | [], _ => ⟨fun _ h => (by simp at h), fun _ h => (by simp at h)⟩
  | x :: r, h => by
    have ih := ends_spec p h.tail
    by_cases g : x.2 < p
    · have e : ends p (x :: r) = ends p r + 1 := by simp [ends, g]
      rw [e, List.drop_succ_cons, List.take_succ_cons]
      refine ⟨ih.1, fun y hy => ?_⟩
      rcases List.mem_cons.1 hy with rfl | hy
      · exact g
      · exact ih.2 y hy
    · have hr : ∀ y ∈ r, ¬ y.2 < p := fun y hy => by
        have := (canon_cons.1 h).2.1 y hy
        have := h.tail.1 y hy
        omega
      have e : ends p (x :: r) = 0 := by
        unfold ends
        rw [List.countP_eq_zero]
        intro y hy
        rcases List.mem_cons.1 hy with rfl | hy
        · simpa using g
        · simpa using hr y hy
      rw [e]
      refine ⟨fun y hy => ?_, fun y hy => (by simp at hy)⟩
      rcases List.mem_cons.1 (by simpa using hy) with rfl | hy
      · omega
      · have := hr y hy; omega
/-- The spans that don't end below a point. -/
def restAt (p : Int) (xs : List Sp) : List Sp := xs.drop (ends p xs)
def nextB (p : Int) (xs : List Sp) : Int × Bool :=
  match restAt p xs with
  | [] => (0, false)
  | y :: _ => (max p y.1, true)
def coversB (xs : List Sp) (x : Sp) : Bool :=
  if x.2 < x.1 then true else
  match restAt x.1 xs with
  | [] => false
  | y :: _ => decide (y.1 ≤ x.1) && decide (x.2 ≤ y.2)
end Go.Proofs.YtmfkggngjeolcaaGreatDoor.Sp
/- Sums of numbers of one type: greatest, Add, Up. Own work. -/
namespace Go.Proofs.YtmfkggngjeolcaaGreatDoor.U64
open Go.RowKit Go.Shelf Go.Proofs.YtmfkggngjeolcaaGreatDoor.Sp

theorem greatest_any (w : World) : Calls Tryz.prog 182 #[] w fun e w' => e = .returned (.int .u64 18446744073709551615) ∧ w' = w := by
  go_enter Tryz.func182, Tryz.ntmps182
  go_wp2
  go_ret
  exact ⟨by kernel_rfl, rfl⟩
def addB (a b : Int) : Int × Bool := if a + b ≤ 18446744073709551615 then (a + b, true) else (0, false)
set_option maxHeartbeats 1000000 in
theorem add_any {a b : Int} (ha : 0 ≤ a ∧ a ≤ 18446744073709551615) (hb : 0 ≤ b ∧ b ≤ 18446744073709551615) (w : World) : Calls Tryz.prog 165 #[.int .u64 a, .int .u64 b] w fun e w' => e = .returned (.tuple #[.int .u64 (addB a b).1, .bool (addB a b).2]) ∧ w' = w := by
  by_cases h : a + b ≤ 18446744073709551615
  · have e : addB a b = (a + b, true) := by simp [addB, h]
    rw [e]
    have hd : decide (18446744073709551615 - a < b) = false := decide_eq_false (by omega)
    clear e
    go_enter Tryz.func165, Tryz.ntmps165
    go_wp2_with (go_at_call 182; refine (greatest_any _).mono ?_; rintro e w' ⟨rfl, rfl⟩)
    go_ret2
    exact ⟨rfl, rfl⟩
  · have e : addB a b = (0, false) := by simp [addB, h]
    rw [e]
    have hd : decide (18446744073709551615 - a < b) = true := decide_eq_true (by omega)
    clear e
    go_enter Tryz.func165, Tryz.ntmps165
    go_wp2_with (go_at_call 182; refine (greatest_any _).mono ?_; rintro e w' ⟨rfl, rfl⟩)
    go_ret2
    exact ⟨rfl, rfl⟩
/-- The least multiple of al that is not below a. -/
def upB (a al : Int) : Int × Bool := if al = 0 then (0, false) else if a % al = 0 then (a, true) else addB a (al - a % al)
set_option maxHeartbeats 1000000 in
theorem up_any {a al : Int} (ha : 0 ≤ a ∧ a ≤ 18446744073709551615) (hb : 0 ≤ al ∧ al ≤ 18446744073709551615) (w : World) : Calls Tryz.prog 129 #[.int .u64 a, .int .u64 al] w fun e w' => e = .returned (.tuple #[.int .u64 (upB a al).1, .bool (upB a al).2]) ∧ w' = w := by
  by_cases h : al = 0
  · have e : upB a al = (0, false) := by simp [upB, h]
    rw [e]
    subst h
    clear e
    go_enter Tryz.func129, Tryz.ntmps129
    go_wp2
    go_ret2
    exact ⟨rfl, rfl⟩
  · have hr0 := Int.emod_nonneg a h
    have hr1 := Int.emod_lt_of_pos a (show 0 < al by omega)
    have hq : (al == 0) = false := by simpa using h
    have hrem : Int.tmod a al = a % al := Int.tmod_eq_emod_of_nonneg ha.1
    by_cases g : a % al = 0
    · have e : upB a al = (a, true) := by simp [upB, h, g]
      rw [e]
      clear e
      go_enter Tryz.func129, Tryz.ntmps129
      go_wp2
      go_ret2
      exact ⟨rfl, rfl⟩
    · have e : upB a al = addB a (al - a % al) := by simp [upB, h, g]
      rw [e]
      have HA : Hid (∀ W, Calls Tryz.prog 165 #[.int .u64 a, .int .u64 (al - a % al)] W fun e w' => e = .returned (.tuple #[.int .u64 (addB a (al - a % al)).1, .bool (addB a (al - a % al)).2]) ∧ w' = W) := fun W => add_any ha (by omega) W
      obtain ⟨n, b, hnb⟩ : ∃ n b, addB a (al - a % al) = (n, b) := ⟨_, _, rfl⟩
      rw [hnb] at HA ⊢
      clear e hnb
      go_enter Tryz.func129, Tryz.ntmps129
      go_wp2_with fail
      refine (HA.out _).mono ?_
      rintro e w' ⟨rfl, rfl⟩
      clear HA
      go_wp2_with fail
      go_ret2
      exact ⟨rfl, rfl⟩
end Go.Proofs.YtmfkggngjeolcaaGreatDoor.U64
