/-
  DERIVED. GIVEN WITH THE SEED: THE CARDS: each row of YtkddfhnfhncgpaaDoorRows.lean that lists a variable, with what it lists TIED to the program's text (the seventh form; the later family's looks); each row that meets fmt, with fmt's text TOLD by the authors' own Lean function (tested against real Go, not proved from fmt's source: count such statements apart). THE CARD IS WHAT COUNTS. Prove the row's statement (the work); the ties are given (YtkddfhnfhncgpaaDoorTie.lean); close each card by the builder's one call (the guide's Derived/Test/ToyasCard.lean, 'card_holds'). Laid BY PROGRAM, IN A SANDBOX (cutbox-door.mjs). By AI agents, Wed Nov 11 2026. No macro, syntax, notation, axiom, sorry.
-/
import Derived.Test.YtkddfhnfhncgpaaDoorRows
import GoSem.ClaimSeven
namespace Go.Proofs.YtkddfhnfhncgpaaDoor
namespace Rows

/-- THE TIED CARD OF 'bulkheadlaw5.ScanWords'. -/
def scanWordsCard : Claim7 := { stood := { row := scanWordsRow, standIns := [], harness := (true, "f2770c98793c462ae1ec07eb3ea8a8b9955c084d81eb9f0faac1e6546c24a447"), looks := false }, kinds := [], alts := [], laidByText := true, laidKinds := [.data, .data, .data, .data, .data, .data, .data], laidTests := true, laidLooks := .later }
def ScanWordsCardSaid : Prop := Claim7.holds Tryd.pinned (.plain (OpenSpec.ofChange scanWordsSpec)) scanWordsCard

/-- THE TIED CARD OF 'bulkheadlaw5.ScanApart'. -/
def scanApartCard : Claim7 := { stood := { row := scanApartRow, standIns := [], harness := (true, "f2770c98793c462ae1ec07eb3ea8a8b9955c084d81eb9f0faac1e6546c24a447"), looks := false }, kinds := [], alts := [], laidByText := true, laidKinds := [.data, .data, .data, .data, .data, .data], laidTests := true, laidLooks := .later }
def ScanApartCardSaid : Prop := Claim7.holds Tryd.pinned (.plain (OpenSpec.ofChange scanApartSpec)) scanApartCard

/-- THE SECOND FORM's CARD OF 'bulkheadlaw5.ScanWords'. -/
def scanWordsUptoCard : Claim7 := { stood := { row := scanWordsUptoRow, standIns := [], harness := (true, "f2770c98793c462ae1ec07eb3ea8a8b9955c084d81eb9f0faac1e6546c24a447"), looks := false }, kinds := [], alts := [], laidByText := true, laidKinds := [.data, .data, .data, .data, .data, .data, .data], laidTests := true, laidLooks := .later }
def ScanWordsUptoCardSaid : Prop := Claim7.holds Tryd.pinned (.plain (OpenSpec.upto scanWordsSpec)) scanWordsUptoCard

/-- THE SECOND FORM's CARD OF 'bulkheadlaw5.ScanApart'. -/
def scanApartUptoCard : Claim7 := { stood := { row := scanApartUptoRow, standIns := [], harness := (true, "f2770c98793c462ae1ec07eb3ea8a8b9955c084d81eb9f0faac1e6546c24a447"), looks := false }, kinds := [], alts := [], laidByText := true, laidKinds := [.data, .data, .data, .data, .data, .data], laidTests := true, laidLooks := .later }
def ScanApartUptoCardSaid : Prop := Claim7.holds Tryd.pinned (.plain (OpenSpec.upto scanApartSpec)) scanApartUptoCard
end Rows
end Go.Proofs.YtkddfhnfhncgpaaDoor
