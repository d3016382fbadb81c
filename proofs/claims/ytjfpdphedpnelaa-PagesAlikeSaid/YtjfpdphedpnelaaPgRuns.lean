/- Pages: Runs of any rows. Own work. -/
import Derived.Test.YtjfpdphedpnelaaPgGo
import Derived.Test.YtjfpdphedpnelaaPgOwn
namespace Go.Proofs.Ytjfpdphedpnelaa
open Go.RowKit Wk
set_option linter.unusedVariables false
/-- two rows as one -/
def joinL (y x : L6) : L6 := ⟨y.v, y.p, y.n + x.n, y.big, y.wr, y.ex⟩
def goesF (y x : L6) : Bool := decide (x.v = y.v + y.n.toNat * 4096 ∧ x.p = y.p + y.n.toNat * 4096 ∧ x.big = y.big ∧ x.wr = y.wr ∧ x.ex = y.ex)
/-- the rows joined, behind those that are joined already -/
def runsF : List L6 → List L6 → List L6
  | acc, [] => acc
  | acc, x :: xs =>
    match acc.getLast? with
    | none => runsF [x] xs
    | some y => if goesF y x = true then runsF (acc.dropLast ++ [joinL y x]) xs else runsF (acc ++ [x]) xs
theorem runsF_none (x : L6) (xs : List L6) : runsF [] (x :: xs) = runsF [x] xs := rfl
theorem runsF_some (bs : List L6) (y x : L6) (xs : List L6) : runsF (bs ++ [y]) (x :: xs) = if goesF y x = true then runsF (bs ++ [joinL y x]) xs else runsF (bs ++ [y] ++ [x]) xs := by
  rw [runsF]
  simp only [List.getLast?_append, List.getLast?_singleton, List.dropLast_concat, Option.some_or]
/-- a row that may be -/
def L6.fine (x : L6) : Prop := 1 ≤ x.n ∧ x.v + x.n.toNat * 4096 ≤ 549755813888 ∧ x.p + x.n.toNat * 4096 ≤ 4294967296
set_option maxRecDepth 100000 in
theorem L6.fine.join {y x : L6} (hy : y.fine) (hx : x.fine) (hg : goesF y x = true) : (joinL y x).fine := by
  obtain ⟨y1, y2, y3⟩ := hy
  obtain ⟨x1, x2, x3⟩ := hx
  obtain ⟨g1, g2, _⟩ := of_decide_eq_true hg
  refine ⟨?_, ?_, ?_⟩
  · show 1 ≤ y.n + x.n
    omega
  · show y.v + (y.n + x.n).toNat * 4096 ≤ 549755813888
    have e : (y.n + x.n).toNat = y.n.toNat + x.n.toNat := by omega
    rw [e]
    omega
  · show y.p + (y.n + x.n).toNat * 4096 ≤ 4294967296
    have e : (y.n + x.n).toNat = y.n.toNat + x.n.toNat := by omega
    rw [e]
    omega
theorem encLs_at (bs : List L6) (y : L6) (i : Nat) (hi : i < 6) : (encLs (bs ++ [y]))[bs.length * 6 + i]? = (encL y)[i]? := by
  rw [encLs_get (bs ++ [y]) bs.length i (by simp) hi]
  simp
theorem encLs_put (bs : List L6) (y : L6) (c : Int) : (encLs (bs ++ [y])).set (bs.length * 6 + 2) (.int .i64 c) = encLs (bs ++ [⟨y.v, y.p, c, y.big, y.wr, y.ex⟩]) := by
  rw [encLs_append, encLs_append, List.set_append_right _ _ (by rw [encLs_length]; omega), encLs_length, show bs.length * 6 + 2 - bs.length * 6 = 2 by omega]
  rfl
/-- a row that is owned and not empty -/
theorem OwnL.last {w : World} {base : Nat} {v : Value} {bs : List L6} {y : L6} (h : OwnL w base v (bs ++ [y])) : ∃ g cap, v = .slice (some ⟨g, 0, none⟩) (bs.length + 1) cap ∧ bs.length + 1 ≤ cap ∧ base ≤ g ∧ g < w.heap.size ∧ (∀ i, i < 6 → w.cell? ⟨g, bs.length * 6 + i, none⟩ = (encL y)[i]?) ∧ (∀ i, w.frozen? ⟨g, i, none⟩ = false) ∧ (∀ c : Int, OwnL (w.setCell ⟨g, bs.length * 6 + 2, none⟩ (.int .i64 c)) base v (bs ++ [⟨y.v, y.p, c, y.big, y.wr, y.ex⟩])) := by
  have h' := h
  have hl : (bs ++ [y]).length = bs.length + 1 := by simp
  rcases h.2 with ⟨rfl, h0⟩ | ⟨g, cap, cur, rfl, hb, hg, h1, h2, hs, ht⟩
  · simp at h0
  · refine ⟨g, cap, by rw [hl], by rw [hl] at h1; exact h1, hb, (Array.getElem?_eq_some_iff.1 hg).1, fun i hi => ?_, fun i => ?_, fun c => ?_⟩
    · rw [World.ownsRow.cellAt h' (bs.length * 6 + i) (by rw [hl]; omega)]
      exact encLs_at bs y i hi
    · simp [World.frozen?, hg]
    · have h3 := (World.ownsRow.stored h' (bs.length * 6 + 2) (.int .i64 c)).1
      rw [encLs_put] at h3
      have e3 : (bs ++ [(⟨y.v, y.p, c, y.big, y.wr, y.ex⟩ : L6)]).length = (bs ++ [y]).length := by simp
      unfold OwnL
      rw [e3]
      exact h3
theorem goes_any {y x : L6} (hy : y.fine) (w : World) : Calls Try.prog 34 #[V6 y, V6 x] w fun e w' => e = .returned (.bool (goesF y x)) ∧ Below w.heap.size w w' := by
  obtain ⟨v, p, n, b, wr, ex⟩ := y
  obtain ⟨y1, y2, y3⟩ := hy
  simp only at y1 y2 y3
  obtain ⟨m, rfl⟩ : ∃ m : Nat, n = (m : Int) := ⟨n.toNat, by omega⟩
  have y2 : v + m * 4096 ≤ 549755813888 := y2
  have y3 : p + m * 4096 ≤ 4294967296 := y3
  have y4 : v + m * 4096 ≤ 18446744073709551615 := Nat.le_trans y2 (by decide)
  have y5 : p + m * 4096 ≤ 18446744073709551615 := Nat.le_trans y3 (by decide)
  exact goesOn_any y4 y5 w
end Go.Proofs.Ytjfpdphedpnelaa
