/- Bundle: rows that come in. Own work. -/
import Derived.Test.YtinjhgimhboigaaDoorBnZer
namespace Go.Proofs.YtinjhgimhboigaaDoor
open Go.RowKit Bn
set_option linter.unusedVariables false
set_option linter.unusedSimpArgs false
/-- a row of things of k cells, wherever it lies -/
def RowG {α : Type} (k : Nat) (enc : α → List Value) (w : World) (v : Value) (xs : List α) : Prop :=
  ∃ ao cap, v = .slice ao xs.length cap ∧ xs.length ≤ cap ∧ cap ≤ maxLen ∧ ∀ i (h : i < xs.length), ∃ b o, ao = some ⟨b, o, none⟩ ∧ b < w.heap.size ∧ ∀ j, j < k → w.cell? ⟨b, o + i * k + j, none⟩ = (enc xs[i])[j]?
theorem RowG.below {α : Type} {k : Nat} {enc : α → List Value} {w w' : World} {v : Value} {xs : List α} (h : RowG k enc w v xs) (hb : Below w.heap.size w w') : RowG k enc w' v xs := by
  obtain ⟨ao, cap, rfl, h1, h2, h3⟩ := h
  refine ⟨ao, cap, rfl, h1, h2, fun i hi => ?_⟩
  obtain ⟨b, o, rfl, hl, hc⟩ := h3 i hi
  exact ⟨b, o, rfl, Nat.lt_of_lt_of_le hl hb.size, fun j hj => (World.cell?_of_block (a := ⟨b, o + i * k + j, none⟩) (hb.block b hl)).trans (hc j hj)⟩
def rgE (r : Rg) : List Value := [.int .u64 (r.1 : Int), .int .u64 (r.2 : Int)]
def tnE (x : Tn) : List Value := [.int .i64 x.cpu, .int .i64 x.root, .bool x.st, .int .i64 x.rule, .int .i64 x.to, .int .i64 x.vec]
def poE (r : Int) : List Value := [.int .i64 r]
def gdE (g : Gd) : List Value := [.int .u64 (g.ad : Int), .int .u64 (g.sz : Int), .int .u8 (g.fill : Int), .string g.txt]
def lkE (c : Lk) : List Value := [.int .i64 c.fr, .int .i64 c.to, .int .i64 c.eff, .int .i64 c.vec, .bool c.msk]
def stE (x : Int × Int) : List Value := [.int .i64 x.1, .int .i64 x.2]
def rgOk (r : Rg) : Prop := r.1 ≤ 18446744073709551615 ∧ r.2 ≤ 18446744073709551615
theorem each_len {α : Type} {f : α → S → S} {c : Nat} (hf : ∀ x s, (f x s).1.length = s.1.length + c) : ∀ (xs : List α) (s : S), (eachS f xs s).1.length = s.1.length + c * xs.length
  | [], s => rfl
  | x :: xs, s => by
    rw [eachS, each_len hf xs, hf, List.length_cons]
    rw [Nat.mul_add]
    omega
def stOk (x : Int × Int) : Prop := I64R x.1 ∧ I64R x.2
def tnOk (x : Tn) : Prop := I64R x.cpu ∧ I64R x.root ∧ I64R x.rule ∧ I64R x.to ∧ I64R x.vec
def lkOk (x : Lk) : Prop := I64R x.fr ∧ I64R x.to ∧ I64R x.eff ∧ I64R x.vec
def gdOk (x : Gd) : Prop := x.ad ≤ 18446744073709551615 ∧ x.sz ≤ 18446744073709551615 ∧ x.fill ≤ 255 ∧ x.txt.size ≤ 4000000
end Go.Proofs.YtinjhgimhboigaaDoor
