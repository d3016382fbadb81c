/- Bundle: what an image is, and the bytes that are laid down for it. Plain. Own work. -/
import Derived.Test.YtinjhgimhboigaaDoorBnPut
namespace Go.Proofs.YtinjhgimhboigaaDoor
set_option linter.unusedVariables false
namespace Bn
abbrev Rg := Nat × Nat
structure Tn where
  cpu : Int
  root : Int
  st : Bool
  rule : Int
  to : Int
  vec : Int
structure Gd where
  ad : Nat
  sz : Nat
  fill : Nat
  txt : ByteArray
structure Lk where
  fr : Int
  to : Int
  eff : Int
  vec : Int
  msk : Bool
structure Sc where
  maj : Int
  lanes : List (List (Int × Int))
structure Im where
  base : Nat
  rams : List Rg
  devs : List Rg
  subs : List Tn
  ports : List Int
  regs : List Gd
  chs : List Lk
  irqs : List Lk
  plans : List Sc
  master : Int
  start : Int
  tabs : List (Nat → Nat)
/-- bytes so far, and why not -/
abbrev S := List Nat × Int
def byteS (k : Int) (s : S) : S := (s.1 ++ Pl.le 1 (k % 256).toNat, fieldF s.2 (fitB 0 255 k))
def flagS (b : Bool) (s : S) : S := byteS (if b = true then 1 else 0) s
def halfS (k : Int) (s : S) : S := (s.1 ++ Pl.le 2 (k % 65536).toNat, fieldF s.2 (fitB 0 65535 k))
def noneS (k : Int) (s : S) : S := (s.1 ++ Pl.le 2 (k % 65536).toNat, fieldF s.2 (noneB k))
def wordS (k : Int) (s : S) : S := (s.1 ++ Pl.le 4 (k % 4294967296).toNat, fieldF s.2 (fitB 0 4294967295 k))
def longS (m : Nat) (s : S) : S := (s.1 ++ Pl.le 8 m, s.2)
def zerosS (c : Nat) (s : S) : S := (s.1 ++ List.replicate c 0, s.2)
def fieldS (b : Bool) (s : S) : S := (s.1, fieldF s.2 b)
def askS (b : Bool) (no : Int) (s : S) : S := (s.1, askF s.2 b no)
def bytesS (ys : List Nat) (s : S) : S := (s.1 ++ ys, s.2)
def manyS (n : Nat) (s : S) : S := zerosS 6 (halfS (n : Int) s)
/-- the next multiple -/
def upN (a al : Nat) : Nat := if a % al = 0 then a else a + (al - a % al)
def padS (al : Nat) (s : S) : S := zerosS (upN s.1.length al - s.1.length) s
def bts (t : ByteArray) : List Nat := t.data.toList.map UInt8.toNat
def textS (t : ByteArray) (s : S) : S := padS 8 (bytesS (bts t) (wordS (t.size : Int) (askS (decide (t.size ≤ 1048576)) 3 s)))
def rangeS (r : Rg) (s : S) : S := longS r.2 (longS r.1 s)
def tenS (x : Tn) (s : S) : S := noneS x.root (noneS x.to (byteS x.vec (byteS x.rule (flagS x.st (byteS x.cpu s)))))
def portS (r : Int) (s : S) : S := zerosS 6 (noneS r s)
def gdS (g : Gd) (s : S) : S := textS g.txt (zerosS 3 (byteS (g.fill : Int) (longS g.sz (longS g.ad s))))
def chS (c : Lk) (s : S) : S := zerosS 2 (byteS c.vec (byteS c.eff (noneS c.to (noneS c.fr (fieldS (!c.msk) s)))))
def iqS (c : Lk) (s : S) : S := zerosS 2 (flagS c.msk (byteS c.vec (noneS c.to (noneS c.fr (fieldS (decide (c.eff = 1)) s)))))
def stS (x : Int × Int) (s : S) : S := wordS x.2 (zerosS 2 (noneS x.1 s))
/-- one behind the other -/
def eachS {α : Type} (f : α → S → S) : List α → S → S
  | [], s => s
  | x :: xs, s => eachS f xs (f x s)
theorem eachS_take {α : Type} (f : α → S → S) : ∀ (xs : List α) (s : S) (i : Nat) (h : i < xs.length), eachS f (xs.take (i + 1)) s = f xs[i] (eachS f (xs.take i) s)
  | x :: xs, s, 0, h => by simp [eachS]
  | x :: xs, s, i + 1, h => by
    have := eachS_take f xs (f x s) i (by simpa using h)
    simpa [eachS] using this
def laneS (l : List (Int × Int)) (s : S) : S := eachS stS l (manyS l.length s)
def planS (n : Nat) (p : Sc) (s : S) : S := eachS laneS p.lanes (zerosS 4 (wordS p.maj (fieldS (decide (p.lanes.length = n)) s)))
def tb (f : Nat → Nat) : Nat → List Nat
  | 0 => []
  | k + 1 => tb f k ++ Pl.le 8 (f k)
def tabS (f : Nat → Nat) (s : S) : S := bytesS (tb f 512) s
def roomS (I : Im) (s : S) : S := zerosS 160 (fieldS (decide (I.base % 4096 = 0)) s)
def busS (I : Im) (s : S) : S := eachS rangeS I.devs (eachS rangeS I.rams (zerosS 4 (halfS (I.devs.length : Int) (halfS (I.rams.length : Int) s))))
def subsS (I : Im) (s : S) : S := eachS tenS I.subs (manyS I.subs.length s)
def portsS (I : Im) (s : S) : S := eachS portS I.ports (manyS I.ports.length (fieldS (decide (I.ports.length = I.devs.length)) s))
def regsS (I : Im) (s : S) : S := eachS gdS I.regs (manyS I.regs.length s)
def chsS (I : Im) (s : S) : S := eachS chS I.chs (manyS I.chs.length s)
def irqsS (I : Im) (s : S) : S := eachS iqS I.irqs (manyS I.irqs.length s)
def lanesN (I : Im) : Nat := match I.plans with
  | [] => 0
  | p :: _ => p.lanes.length
def plansS (I : Im) (s : S) : S := eachS (planS (lanesN I)) I.plans (halfS I.start (noneS I.master (halfS (lanesN I : Int) (halfS (I.plans.length : Int) s))))
def tabsS (I : Im) (s : S) : S := eachS tabS I.tabs s
end Bn
end Go.Proofs.YtinjhgimhboigaaDoor
