/-
  DERIVED. GIVEN WITH THE SEED: THE CARDS: each row of YtceljnkbkpgdjaaDoorRows.lean that lists a variable, with what it lists TIED to the program's text (the seventh form; the later family's looks); each row that meets fmt, with fmt's text TOLD by the authors' own Lean function (tested against real Go, not proved from fmt's source: count such statements apart). THE CARD IS WHAT COUNTS. Prove the row's statement (the work); the ties are given (YtceljnkbkpgdjaaDoorTie.lean); close each card by the builder's one call (the guide's Derived/Test/ToyasCard.lean, 'card_holds'). Laid BY PROGRAM, IN A SANDBOX (cutbox-door.mjs). By AI agents, Wed Nov 11 2026. No macro, syntax, notation, axiom, sorry.
-/
import Derived.Test.YtceljnkbkpgdjaaDoorRows
import GoSem.ClaimSeven
namespace Go.Proofs.YtceljnkbkpgdjaaDoor
namespace Rows

/-- THE TIED CARD OF 'bulkheadlaw1.WordWrites'. -/
def wordWritesCard : Claim7 := { stood := { row := wordWritesRow, standIns := [], harness := (true, "d44fc7392218bcf3c9919622e6f8acca4cf7c09f7b64f23f8b4bde766f67ff39"), looks := false }, kinds := [], alts := [], laidByText := true, laidKinds := [.data], laidTests := true, laidLooks := .later }
def WordWritesCardSaid : Prop := Claim7.holds Tryd.pinned (.plain (OpenSpec.ofChange wordWritesSpec)) wordWritesCard

/-- THE TIED CARD OF 'bulkheadlaw1.WordReads'. -/
def wordReadsCard : Claim7 := { stood := { row := wordReadsRow, standIns := [], harness := (true, "d44fc7392218bcf3c9919622e6f8acca4cf7c09f7b64f23f8b4bde766f67ff39"), looks := false }, kinds := [], alts := [], laidByText := true, laidKinds := [.data], laidTests := true, laidLooks := .later }
def WordReadsCardSaid : Prop := Claim7.holds Tryd.pinned (.plain (OpenSpec.ofChange wordReadsSpec)) wordReadsCard

/-- THE SECOND FORM's CARD OF 'bulkheadlaw1.WordWrites'. -/
def wordWritesUptoCard : Claim7 := { stood := { row := wordWritesUptoRow, standIns := [], harness := (true, "d44fc7392218bcf3c9919622e6f8acca4cf7c09f7b64f23f8b4bde766f67ff39"), looks := false }, kinds := [], alts := [], laidByText := true, laidKinds := [.data], laidTests := true, laidLooks := .later }
def WordWritesUptoCardSaid : Prop := Claim7.holds Tryd.pinned (.plain (OpenSpec.upto wordWritesSpec)) wordWritesUptoCard

/-- THE SECOND FORM's CARD OF 'bulkheadlaw1.WordReads'. -/
def wordReadsUptoCard : Claim7 := { stood := { row := wordReadsUptoRow, standIns := [], harness := (true, "d44fc7392218bcf3c9919622e6f8acca4cf7c09f7b64f23f8b4bde766f67ff39"), looks := false }, kinds := [], alts := [], laidByText := true, laidKinds := [.data], laidTests := true, laidLooks := .later }
def WordReadsUptoCardSaid : Prop := Claim7.holds Tryd.pinned (.plain (OpenSpec.upto wordReadsSpec)) wordReadsUptoCard
end Rows
end Go.Proofs.YtceljnkbkpgdjaaDoor
