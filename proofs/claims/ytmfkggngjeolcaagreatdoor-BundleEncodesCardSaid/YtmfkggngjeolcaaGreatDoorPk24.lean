import Derived.Test.YtmfkggngjeolcaaGreatDoorPk23
/- Bundle: the directory is looked at. Own work. -/
namespace Go.Proofs.YtmfkggngjeolcaaGreatDoor
open Go.RowKit Bn Dc
set_option linter.unusedVariables false
set_option linter.unusedSimpArgs false
theorem ask_zero' {b : Bool} {no sec ad : Int} {s : D} (hno : no ≠ 0) (h : (askD b no sec ad s).why = 0) : b = true ∧ s.why = 0 := by
  unfold askD at h
  split at h
  · exact absurd h hno
  · rename_i h9
    refine ⟨?_, h⟩
    cases b
    · exact absurd ⟨rfl, h⟩ h9
    · rfl
theorem dirS_ok {E : Nat → En} {N : Nat} {s : D} : ∀ k, (dirS E N k s).why = 0 → s.why = 0 ∧ ∀ j, 1 ≤ j → j ≤ k → okD E N j = true
  | 0, h => ⟨h, fun j h1 h2 => by omega⟩
  | k + 1, h => by
    rw [dirS] at h
    obtain ⟨h1, h2⟩ := ask_zero' (by decide) h
    obtain ⟨h3, h4⟩ := dirS_ok k h2
    refine ⟨h3, fun j hj hk => ?_⟩
    by_cases e : j = k + 1
    · rw [e]; exact h1
    · exact h4 j hj (by omega)
section
variable {B kb : Nat} {raw : Value} {im en : List Value} {q : Pt} {p g : Nat} {w0 : World} {s : D} {w w' : World}
end
end Go.Proofs.YtmfkggngjeolcaaGreatDoor
/- Bundle: zeros and sums of all sections. Own work. -/
namespace Go.Proofs.YtmfkggngjeolcaaGreatDoor
open Go.RowKit Bn Dc
set_option linter.unusedVariables false
set_option linter.unusedSimpArgs false
namespace Dc
/-- zeros ahead of a section, byte by byte -/
def zsS (bs : List Nat) (k e0 : Nat) : Nat → D → D
  | 0, s => s
  | j + 1, s => askD (decide (bs.getD (e0 + j) 0 = 0)) 5 (k : Int) ((e0 + j : Nat) : Int) (zsS bs k e0 j s)
def sealS (E : Nat → En) (bs : List Nat) : Nat → D → D
  | 0, s => s
  | k + 1, s => askD (decide (Pl.crc ((bs.drop (E (k + 1)).f).take (E (k + 1)).l) = (E (k + 1)).c)) 11 ((k + 1 : Nat) : Int) ((E (k + 1)).f : Int) (zsS bs (k + 1) (endN E bs.length k) ((E (k + 1)).f - endN E bs.length k) (sealS E bs k s))
theorem zsS_why {bs : List Nat} {k e0 : Nat} {s : D} (h : s.why ≠ 0) : ∀ j, zsS bs k e0 j s = s
  | 0 => rfl
  | j + 1 => by rw [zsS, zsS_why h j, ask_why h]
theorem zs_zero {bs : List Nat} {k e0 : Nat} {s : D} : ∀ j, (zsS bs k e0 j s).why = 0 → s.why = 0 ∧ ∀ i, i < j → bs.getD (e0 + i) 0 = 0
  | 0, h => ⟨h, fun i hi => by omega⟩
  | j + 1, h => by
    rw [zsS] at h
    obtain ⟨h1, h2⟩ := ask_zero' (by decide) h
    obtain ⟨h3, h4⟩ := zs_zero j h2
    refine ⟨h3, fun i hi => ?_⟩
    by_cases e : i = j
    · rw [e]; exact of_decide_eq_true h1
    · exact h4 i (by omega)
theorem seal_zero {E : Nat → En} {bs : List Nat} {s : D} : ∀ k, (sealS E bs k s).why = 0 → s.why = 0
  | 0, h => h
  | k + 1, h => by
    rw [sealS] at h
    exact seal_zero k (zs_zero _ (ask_zero' (by decide) h).2).1
end Dc
section
variable {B kb : Nat} {im en : List Value} {q : Pt} {p g : Nat} {w0 : World} {s : D} {w w' : World}
end
end Go.Proofs.YtmfkggngjeolcaaGreatDoor
/- Bundle: the header (written by parts/gen_dchdr.py). Own work. -/
namespace Go.Proofs.YtmfkggngjeolcaaGreatDoor
open Go.RowKit Bn Dc
set_option linter.unusedVariables false
set_option linter.unusedSimpArgs false
namespace Dc
structure Hd where
  T : List Nat
  n1 : Nat
  n2 : Nat
  cnt : Nat
  base : Nat
  sm : Nat
  zr : Nat
def mg : List Nat := [66, 85, 76, 75, 72, 69, 65, 68]
def asksD (bs : List Nat) (x : Hd) (s : D) : D :=
  askD (decide (x.base % 4096 = 0)) 132 0 16 (askD (decide (bs.length ≤ x.cnt * 4096)) 12 0 ((x.cnt * 4096 : Nat) : Int) (askD (decide (x.cnt * 4096 ≤ bs.length)) 10 0 (bs.length : Int) (askD (decide (x.cnt ≤ 1024)) 4 0 12 (askD (decide (x.zr = 0)) 5 0 156 (askD (decide (x.sm = Pl.crc (bs.take 152))) 11 0 152 (askD (decide (x.n2 = 8)) 5 0 10 (askD (decide (x.n1 = 1)) 131 0 8 (askD (decide (x.T = mg)) 130 0 0 s))))))))
def entS (q : Pt) (s : D) : Nat → D
  | 0 => s
  | k + 1 => (entD q (entS q s k)).2
def entE (q : Pt) (s : D) (k : Nat) : En := (entD q (entS q s (k - 1))).1
structure HdR where
  x : Hd
  E : Nat → En
  s : D
def hdD (q : Pt) (s : D) : HdR :=
  let a := bytesD q 8 s
  let b := takeD q 2 a.2
  let c := takeD q 2 b.2
  let d := takeD q 4 c.2
  let e := takeD q 8 d.2
  let f := takeD q 4 (entS q e.2 8)
  let g := takeD q 4 f.2
  ⟨⟨a.1, b.1, c.1, d.1, e.1, f.1, g.1⟩, entE q e.2, g.2⟩
end Dc
/-- the entries that were read so far -/
def EnP (en : List Value) (E : Nat → En) (m : Nat) : Prop := ∀ k, 1 ≤ k → k ≤ m → en[5 * k]? = some (.int .i64 ((E k).a : Int)) ∧ en[5 * k + 1]? = some (.int .i64 ((E k).b : Int)) ∧ en[5 * k + 2]? = some (.int .i64 ((E k).f : Int)) ∧ en[5 * k + 3]? = some (.int .i64 ((E k).l : Int)) ∧ en[5 * k + 4]? = some (.int .u32 ((E k).c : Int))
def en5 (en : List Value) (k : Nat) (x : En) : List Value := ((((en.set (5 * k) (.int .i64 (x.a : Int))).set (5 * k + 1) (.int .i64 (x.b : Int))).set (5 * k + 2) (.int .i64 (x.f : Int))).set (5 * k + 3) (.int .i64 (x.l : Int))).set (5 * k + 4) (.int .u32 (x.c : Int))
theorem EnP.next {en : List Value} {E : Nat → En} {k : Nat} (h : EnP en E (k - 1)) (hk : 1 ≤ k) (hk8 : k ≤ 8) (hl : en.length = 45) : EnP (en5 en k (E k)) E k := fun j h1 h2 => by
  unfold en5
  by_cases e : j = k
  · subst e
    refine ⟨?_, ?_, ?_, ?_, ?_⟩ <;> simp [List.getElem?_set, hl] <;> omega
  · obtain ⟨a, b, c, d, f⟩ := h j h1 (by omega)
    refine ⟨?_, ?_, ?_, ?_, ?_⟩
    · rw [List.getElem?_set_ne (by omega), List.getElem?_set_ne (by omega), List.getElem?_set_ne (by omega), List.getElem?_set_ne (by omega), List.getElem?_set_ne (by omega)]; exact a
    · rw [List.getElem?_set_ne (by omega), List.getElem?_set_ne (by omega), List.getElem?_set_ne (by omega), List.getElem?_set_ne (by omega), List.getElem?_set_ne (by omega)]; exact b
    · rw [List.getElem?_set_ne (by omega), List.getElem?_set_ne (by omega), List.getElem?_set_ne (by omega), List.getElem?_set_ne (by omega), List.getElem?_set_ne (by omega)]; exact c
    · rw [List.getElem?_set_ne (by omega), List.getElem?_set_ne (by omega), List.getElem?_set_ne (by omega), List.getElem?_set_ne (by omega), List.getElem?_set_ne (by omega)]; exact d
    · rw [List.getElem?_set_ne (by omega), List.getElem?_set_ne (by omega), List.getElem?_set_ne (by omega), List.getElem?_set_ne (by omega), List.getElem?_set_ne (by omega)]; exact f
section
variable {B kb : Nat} {raw : Value} {im en : List Value} {q : Pt} {p g : Nat} {w0 : World} {s : D} {w w' : World}
end
end Go.Proofs.YtmfkggngjeolcaaGreatDoor
