/-
  DERIVED. GIVEN WITH THE SEED: THE CARDS: each row of YtphlfkkbkkocmabDoorRows.lean that lists a variable, with what it lists TIED to the program's text (the seventh form; the later family's looks); each row that meets fmt, with fmt's text TOLD by the authors' own Lean function (tested against real Go, not proved from fmt's source: count such statements apart). THE CARD IS WHAT COUNTS. Prove the row's statement (the work); the ties are given (YtphlfkkbkkocmabDoorTie.lean); close each card by the builder's one call (the guide's Derived/Test/ToyasCard.lean, 'card_holds'). Laid BY PROGRAM, IN A SANDBOX (cutbox-door.mjs). By AI agents, Wed Nov 11 2026. No macro, syntax, notation, axiom, sorry.
-/
import Derived.Test.YtphlfkkbkkocmabDoorRows
import GoSem.ClaimSeven
namespace Go.Proofs.YtphlfkkbkkocmabDoor
namespace Rows

/-- THE TIED CARD OF 'bulkheadlaw1.WordForth'. -/
def wordForthCard : Claim7 := { stood := { row := wordForthRow, standIns := [], harness := (true, "a515e5e79a59b840e1641f5532d1ca4480f5ff66b89c9d3db17926ecb94c9d41"), looks := false }, kinds := [], alts := [], laidByText := true, laidKinds := [.data], laidTests := true, laidLooks := .later }
def WordForthCardSaid : Prop := Claim7.holds Tryd.pinned (.plain (OpenSpec.ofChange wordForthSpec)) wordForthCard

/-- THE TIED CARD OF 'bulkheadlaw1.WordCuts'. -/
def wordCutsCard : Claim7 := { stood := { row := wordCutsRow, standIns := [], harness := (true, "a515e5e79a59b840e1641f5532d1ca4480f5ff66b89c9d3db17926ecb94c9d41"), looks := false }, kinds := [], alts := [], laidByText := true, laidKinds := [.data], laidTests := true, laidLooks := .later }
def WordCutsCardSaid : Prop := Claim7.holds Tryd.pinned (.plain (OpenSpec.ofChange wordCutsSpec)) wordCutsCard

/-- THE TIED CARD OF 'bulkheadlaw1.WordBursts'. -/
def wordBurstsCard : Claim7 := { stood := { row := wordBurstsRow, standIns := [], harness := (true, "a515e5e79a59b840e1641f5532d1ca4480f5ff66b89c9d3db17926ecb94c9d41"), looks := false }, kinds := [], alts := [], laidByText := true, laidKinds := [.data], laidTests := true, laidLooks := .later }
def WordBurstsCardSaid : Prop := Claim7.holds Tryd.pinned (.plain (OpenSpec.ofChange wordBurstsSpec)) wordBurstsCard

/-- THE SECOND FORM's CARD OF 'bulkheadlaw1.WordForth'. -/
def wordForthUptoCard : Claim7 := { stood := { row := wordForthUptoRow, standIns := [], harness := (true, "a515e5e79a59b840e1641f5532d1ca4480f5ff66b89c9d3db17926ecb94c9d41"), looks := false }, kinds := [], alts := [], laidByText := true, laidKinds := [.data], laidTests := true, laidLooks := .later }
def WordForthUptoCardSaid : Prop := Claim7.holds Tryd.pinned (.plain (OpenSpec.upto wordForthSpec)) wordForthUptoCard

/-- THE SECOND FORM's CARD OF 'bulkheadlaw1.WordCuts'. -/
def wordCutsUptoCard : Claim7 := { stood := { row := wordCutsUptoRow, standIns := [], harness := (true, "a515e5e79a59b840e1641f5532d1ca4480f5ff66b89c9d3db17926ecb94c9d41"), looks := false }, kinds := [], alts := [], laidByText := true, laidKinds := [.data], laidTests := true, laidLooks := .later }
def WordCutsUptoCardSaid : Prop := Claim7.holds Tryd.pinned (.plain (OpenSpec.upto wordCutsSpec)) wordCutsUptoCard

/-- THE SECOND FORM's CARD OF 'bulkheadlaw1.WordBursts'. -/
def wordBurstsUptoCard : Claim7 := { stood := { row := wordBurstsUptoRow, standIns := [], harness := (true, "a515e5e79a59b840e1641f5532d1ca4480f5ff66b89c9d3db17926ecb94c9d41"), looks := false }, kinds := [], alts := [], laidByText := true, laidKinds := [.data], laidTests := true, laidLooks := .later }
def WordBurstsUptoCardSaid : Prop := Claim7.holds Tryd.pinned (.plain (OpenSpec.upto wordBurstsSpec)) wordBurstsUptoCard
end Rows
end Go.Proofs.YtphlfkkbkkocmabDoor
