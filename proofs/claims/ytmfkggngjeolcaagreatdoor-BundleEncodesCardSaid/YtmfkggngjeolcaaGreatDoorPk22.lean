import Derived.Test.YtmfkggngjeolcaaGreatDoorPk21
/- Bundle: plans are taken. Own work. -/
namespace Go.Proofs.YtmfkggngjeolcaaGreatDoor
open Go.RowKit Bn Dc
set_option linter.unusedVariables false
set_option linter.unusedSimpArgs false
namespace Dc
structure PlR where
  plans : List Sc
  master : Int
  start : Nat
def plansD (q : Pt) (s : D) : PlR × D :=
  let a := takeD q 2 s
  let b := takeD q 2 a.2
  let c := noneD q (formD q (decide (0 < a.1) || decide (b.1 = 0)) a.2.pos b.2)
  let d := takeD q 2 c.2
  let e := listD (planD q b.1) a.1 d.2
  (⟨e.1, c.1, d.1⟩, e.2)
end Dc
/-- a row of plans that the reader made -/
def PlO (W : World) (v : Value) (ps : List Sc) : Prop := ∃ us : List (Int × SlV), OwnG 78 2 scE W 0 v us ∧ T2 (ScO W) us ps
section
variable {B kb : Nat} {raw : Value} {im en : List Value} {q : Pt} {p g : Nat} {w0 : World} {s : D} {w w' : World}
theorem PlO.fd {v : Value} {ps : List Sc} (h : PlO w v ps) (hf : Fd B w w') : PlO w' v ps := by
  obtain ⟨us, ho, ht⟩ := h
  exact ⟨us, ho.fd hf (by decide) (by decide), ht.imp (fun x y h => ⟨h.1, h.2.rz (hf.rz 78) (by decide) (by decide)⟩)⟩
end
end Go.Proofs.YtmfkggngjeolcaaGreatDoor
/- Bundle: a part is opened; an entry is taken (written by parts/gen_dcopn.py). Own work. -/
namespace Go.Proofs.YtmfkggngjeolcaaGreatDoor
open Go.RowKit Bn Dc
set_option linter.unusedVariables false
set_option linter.unusedSimpArgs false
/-- an entry's cells -/
def entV (a b f l : Nat) (c : Nat) : List Value := [.int .i64 (a : Int), .int .i64 (b : Int), .int .i64 (f : Int), .int .i64 (l : Int), .int .u32 (c : Int)]
namespace Dc
structure En where
  a : Nat
  b : Nat
  f : Nat
  l : Nat
  c : Nat
def entD (q : Pt) (s : D) : En × D :=
  let a := takeD q 2 s
  let b := takeD q 2 a.2
  let c := takeD q 4 b.2
  let d := takeD q 4 c.2
  let e := takeD q 4 d.2
  (⟨a.1, b.1, c.1, d.1, e.1⟩, e.2)
end Dc
def enE (x : En) : List Value := entV x.a x.b x.f x.l x.c
section
variable {B kb : Nat} {raw : Value} {im en : List Value} {q : Pt} {p g : Nat} {w0 : World} {s : D} {w w' : World}
end
end Go.Proofs.YtmfkggngjeolcaaGreatDoor
/- Bundle: a part's bytes, wherever they lie. Own work. -/
namespace Go.Proofs.YtmfkggngjeolcaaGreatDoor
open Go.RowKit Bn Dc
set_option linter.unusedVariables false
set_option linter.unusedSimpArgs false
end Go.Proofs.YtmfkggngjeolcaaGreatDoor
