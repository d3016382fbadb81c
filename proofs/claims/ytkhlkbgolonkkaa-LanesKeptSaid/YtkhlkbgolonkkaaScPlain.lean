/- Plain mathematics of lexemes: what a text is cut into. No program, no world. -/
import Derived.WalkKit
namespace Go.Proofs.Ytkhlkbgolonkkaa
namespace Sc

/-- the classes of the bytes below 128 -/
def classes : List Nat := [0, 0, 0, 0, 0, 0, 0, 0, 0, 1, 1, 0, 0, 1, 0, 0, 0, 0, 0, 0, 0, 0, 0, 0, 0, 0, 0, 0, 0, 0, 0, 0, 1, 4, 3, 2, 0, 4, 4, 0, 4, 4, 4, 4, 4, 4, 4, 4, 6, 6, 6, 6, 6, 6, 6, 6, 6, 6, 0, 4, 4, 4, 4, 0, 0, 5, 5, 5, 5, 5, 5, 5, 5, 5, 5, 5, 5, 5, 5, 5, 5, 5, 5, 5, 5, 5, 5, 5, 5, 5, 5, 4, 0, 4, 4, 5, 0, 5, 5, 5, 5, 5, 5, 5, 5, 5, 5, 5, 5, 5, 5, 5, 5, 5, 5, 5, 5, 5, 5, 5, 5, 5, 5, 4, 4, 4, 0, 0]
def cls (b : Nat) : Nat := if b < 128 then classes.getD b 0 else 0
def isW (b : Nat) : Bool := decide (5 ≤ cls b)
theorem cls_lt (b : Nat) : cls b < 7 := by
  unfold cls
  split
  · rename_i h
    have : ∀ t : Fin 128, classes.getD t.val 0 < 7 := by decide
    exact this ⟨b, h⟩
  · omega

/-- the reserved words, as bytes -/
def reserved : List (List Nat) := [[115, 121, 115, 116, 101, 109], [99, 111, 110, 115, 116], [101, 97, 99, 104], [105, 110], [105, 102], [101, 108, 115, 101], [97, 115, 115, 101, 114, 116], [103, 114, 111, 117, 112], [117, 115, 101], [114, 97, 109], [115, 105, 122, 101], [100, 101, 118, 105, 99, 101], [97, 116], [100, 109, 97], [114, 101, 103, 105, 111, 110], [98, 105, 103], [119, 120], [102, 105, 108, 108], [115, 117, 98, 106, 101, 99, 116], [99, 112, 117], [115, 116, 111, 112, 112, 101, 100], [109, 97, 112], [119, 114, 105, 116, 101], [101, 120, 101, 99], [102, 97, 117, 108, 116], [115, 116, 111, 112], [114, 101, 115, 101, 116], [116, 101, 108, 108], [118, 101, 99, 116, 111, 114], [99, 104, 97, 110, 110, 101, 108], [102, 114, 111, 109], [116, 111], [111, 118, 101, 114], [115, 116, 97, 114, 116], [105, 114, 113], [109, 97, 115, 107, 101, 100], [112, 108, 97, 110], [109, 97, 106, 111, 114], [114, 117, 110], [105, 100, 108, 101], [110, 101, 101, 100, 115], [110, 101, 101, 100], [101, 118, 101, 114, 121], [109, 97, 115, 116, 101, 114]]
/-- the signs, as bytes -/
def signs : List (List Nat) := [[123], [125], [91], [93], [40], [41], [59], [44], [46, 46], [61], [61, 61], [33, 61], [60], [60, 61], [62], [62, 61], [124], [94], [38], [60, 60], [62, 62], [43], [45], [42], [47], [37]]
/-- the kind of a reserved word, 0 of any other -/
def findFrom (w : List Nat) : List (List Nat) → Nat → Nat
  | [], _ => 0
  | r :: rs, i => if r = w then 30 + i else findFrom w rs (i + 1)
def reservedF (w : List Nat) : Nat := findFrom w reserved 0

def top : Nat := 18446744073709551615
/-- what a digit counts; 16: it is none -/
def value (b : Nat) : Nat := if 48 ≤ b ∧ b ≤ 57 then b - 48 else if 97 ≤ b ∧ b ≤ 102 then b - 87 else if 65 ≤ b ∧ b ≤ 70 then b - 55 else 16
def unit (b : Nat) : Nat := if b = 77 then 1048576 else if b = 75 then 1024 else 1
theorem value_le (b : Nat) : value b ≤ 16 := by unfold value; split <;> (try split) <;> (try split) <;> omega
theorem value_zero : value 0 = 16 := by decide
/-- what is n * t + d beyond the greatest number? -/
def over (n t d : Nat) : Bool := decide ((top - d) / t < n)

/-- what a reader answers: ok, or where the wrong byte stands -/
inductive Res (α : Type) where
  | ok (x : α) (len : Nat)
  | bad (off : Nat)
  deriving DecidableEq
namespace Res
variable {α β : Type}
def len : Res α → Nat | .ok _ k => k | .bad k => k
def isOk : Res α → Bool | .ok _ _ => true | .bad _ => false
def shift (k : Nat) : Res α → Res α | .ok x m => .ok x (k + m) | .bad m => .bad (k + m)
def map (f : α → β) : Res α → Res β | .ok x m => .ok (f x) m | .bad m => .bad m
end Res

/-- how many bytes of blanks and comments stand ahead; c: a comment is open -/
def skipN : Bool → List Nat → Nat
  | _, [] => 0
  | c, b :: l => if b = 10 then skipN false l + 1 else if c = true ∨ cls b = 1 then skipN c l + 1 else if cls b = 2 then skipN true l + 1 else 0
/-- how many word bytes stand ahead -/
def runN : List Nat → Nat
  | [] => 0
  | b :: l => if isW b then runN l + 1 else 0
/-- the digits of an integer: its number and how many they are; or the digit that is too much -/
def digitsF (base : Nat) : Nat → List Nat → Res Nat
  | n, [] => .ok n 0
  | n, b :: l => if base ≤ value b then .ok n 0 else if over n base (value b) then .bad 0 else (digitsF base (n * base + value b) l).shift 1
/-- what stands behind the digits: l begins with it, n is the number -/
def suffixF (n : Nat) (l : List Nat) : Res Nat :=
  if unit (l.headD 0) = 1 then (if isW (l.headD 0) then .bad 0 else .ok n 0)
  else if over n (unit (l.headD 0)) 0 then .bad 0
  else if isW ((l.drop 1).headD 0) then .bad 1 else .ok (n * unit (l.headD 0)) 1
def tailF (base : Nat) (l : List Nat) : Res Nat :=
  match digitsF base 0 l with
  | .bad k => .bad k
  | .ok n k => (suffixF n (l.drop k)).shift k
def isHex (l : List Nat) : Bool := decide (l.take 2 = [48, 120])
def integerF (l : List Nat) : Res Nat :=
  if isHex l then (if 16 ≤ value ((l.drop 2).headD 0) then .bad 2 else (tailF 16 (l.drop 2)).shift 2) else tailF 10 l
/-- a text, behind its first quote -/
def textF : List Nat → Res (List Nat)
  | [] => .bad 0
  | b :: l =>
    if b = 34 then .ok [] 1
    else if b = 92 then
      match l with
      | [] => .bad 1
      | e :: l2 =>
        if e = 120 then
          match l2 with
          | [] => .bad 2
          | h :: l3 =>
            if 15 < value h then .bad 2 else
            match l3 with
            | [] => .bad 3
            | g :: l4 => if 15 < value g then .bad 3 else ((textF l4).map ((16 * value h + value g) :: ·)).shift 4
        else if e = 110 then ((textF l2).map (10 :: ·)).shift 2
        else if e = 116 then ((textF l2).map (9 :: ·)).shift 2
        else if e = 92 ∨ e = 34 then ((textF l2).map (e :: ·)).shift 2
        else .bad 1
    else if b < 32 ∨ 126 < b then .bad 0
    else ((textF l).map (b :: ·)).shift 1
/-- the longest sign ahead: its kind and how many bytes it has -/
def signFrom (l : List Nat) : List (List Nat) → Nat → Nat × Nat → Nat × Nat
  | [], _, r => r
  | s :: ss, i, r => signFrom l ss (i + 1) (if r.2 < s.length ∧ l.take s.length = s then (4 + i, s.length) else r)
def signF (l : List Nat) : Res Nat := if (signFrom l signs 0 (0, 0)).2 = 0 then .bad 1 else .ok (signFrom l signs 0 (0, 0)).1 (signFrom l signs 0 (0, 0)).2

/-- a lexeme: kind, number, bytes, place, end -/
structure Tok where
  kind : Nat
  n : Nat
  s : List Nat
  at_ : Nat
  end_ : Nat
  deriving DecidableEq
/-- kind, number and bytes -/
def wordF (l : List Nat) : Res (Nat × List Nat) :=
  if 32 < runN l then .bad 32
  else .ok (if reservedF (l.take (runN l)) = 0 then (1, l.take (runN l)) else (reservedF (l.take (runN l)), [])) (runN l)
def lexF (l : List Nat) : Res (Nat × Nat × List Nat) :=
  if cls (l.headD 0) = 5 then (wordF l).map fun x => (x.1, 0, x.2)
  else if cls (l.headD 0) = 6 then (integerF l).map fun x => (2, x, [])
  else if cls (l.headD 0) = 3 then ((textF (l.drop 1)).shift 1).map fun x => (3, 0, x)
  else if cls (l.headD 0) = 4 then (signF l).map fun x => (x, 0, [])
  else .bad 0
/-- the lexemes of l, which stands at a place; the place of the wrong byte -/
def toksF : Nat → Nat → List Nat → Except Nat (List Tok)
  | 0, at_, _ => .error at_
  | f + 1, at_, l =>
    if (l.drop (skipN false l)).isEmpty then .ok []
    else match lexF (l.drop (skipN false l)) with
      | .bad k => .error (at_ + skipN false l + k)
      | .ok x k =>
        match toksF f (at_ + skipN false l + k) (l.drop (skipN false l + k)) with
        | .error p => .error p
        | .ok ts => .ok (⟨x.1, x.2.1, x.2.2, at_ + skipN false l, at_ + skipN false l + k⟩ :: ts)
/-- what Tokens answers: the lexemes, the place, the number -/
def tokens (l : List Nat) : List Tok × Nat × Nat :=
  if 1048576 < l.length then ([], 0, 3)
  else match toksF (l.length + 1) 0 l with
    | .ok ts => (ts, 0, 0)
    | .error p => ([], p, 60)
def legalF (w : List Nat) : Bool := !w.isEmpty && decide (w.length ≤ 32) && decide (cls (w.headD 0) = 5) && w.all isW && decide (reservedF w = 0)
end Sc
end Go.Proofs.Ytkhlkbgolonkkaa
