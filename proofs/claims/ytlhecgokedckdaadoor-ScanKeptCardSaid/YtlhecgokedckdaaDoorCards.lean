/-
  DERIVED. GIVEN WITH THE SEED: THE CARDS: each row of YtlhecgokedckdaaDoorRows.lean that lists a variable, with what it lists TIED to the program's text (the seventh form; the later family's looks); each row that meets fmt, with fmt's text TOLD by the authors' own Lean function (tested against real Go, not proved from fmt's source: count such statements apart). THE CARD IS WHAT COUNTS. Prove the row's statement (the work); the ties are given (YtlhecgokedckdaaDoorTie.lean); close each card by the builder's one call (the guide's Derived/Test/ToyasCard.lean, 'card_holds'). Laid BY PROGRAM, IN A SANDBOX (cutbox-door.mjs). By AI agents, Wed Nov 11 2026. No macro, syntax, notation, axiom, sorry.
-/
import Derived.Test.YtlhecgokedckdaaDoorRows
import GoSem.ClaimSeven
namespace Go.Proofs.YtlhecgokedckdaaDoor
namespace Rows

/-- THE TIED CARD OF 'bulkheadlaw5.ScanKept'. -/
def scanKeptCard : Claim7 := { stood := { row := scanKeptRow, standIns := [], harness := (true, "ae955e12a50887101effbb411c9c253f82fb2fd6f506037ed9804b13f1ac297e"), looks := false }, kinds := [], alts := [], laidByText := true, laidKinds := [.data, .data, .data, .data, .data, .data, .data, .data], laidTests := true, laidLooks := .later }
def ScanKeptCardSaid : Prop := Claim7.holds Tryd.pinned (.plain (OpenSpec.ofChange scanKeptSpec)) scanKeptCard

/-- THE SECOND FORM's CARD OF 'bulkheadlaw5.ScanKept'. -/
def scanKeptUptoCard : Claim7 := { stood := { row := scanKeptUptoRow, standIns := [], harness := (true, "ae955e12a50887101effbb411c9c253f82fb2fd6f506037ed9804b13f1ac297e"), looks := false }, kinds := [], alts := [], laidByText := true, laidKinds := [.data, .data, .data, .data, .data, .data, .data, .data], laidTests := true, laidLooks := .later }
def ScanKeptUptoCardSaid : Prop := Claim7.holds Tryd.pinned (.plain (OpenSpec.upto scanKeptSpec)) scanKeptUptoCard
end Rows
end Go.Proofs.YtlhecgokedckdaaDoor
