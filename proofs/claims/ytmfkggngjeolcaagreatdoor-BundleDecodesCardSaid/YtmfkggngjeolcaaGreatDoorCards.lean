/-
  DERIVED. GIVEN WITH THE SEED: THE CARDS: each row of YtmfkggngjeolcaaGreatDoorRows.lean that lists a variable, with what it lists TIED to the program's text (the seventh form; the later family's looks); each row that meets fmt, with fmt's text TOLD by the authors' own Lean function (tested against real Go, not proved from fmt's source: count such statements apart). THE CARD IS WHAT COUNTS. Prove the row's statement (the work); the ties are given (YtmfkggngjeolcaaGreatDoorTie.lean); close each card by the builder's one call (the guide's Derived/Test/ToyasCard.lean, 'card_holds'). Laid BY PROGRAM, IN A SANDBOX (cutbox-door.mjs). By AI agents, Wed Nov 11 2026. No macro, syntax, notation, axiom, sorry.
-/
import Derived.Test.YtmfkggngjeolcaaGreatDoorRows
import GoSem.ClaimSeven
namespace Go.Proofs.YtmfkggngjeolcaaGreatDoor
namespace Rows

/-- THE TIED CARD OF 'bulkheadlaw13.BundleEncodes'. -/
def bundleEncodesCard : Claim7 := { stood := { row := bundleEncodesRow, standIns := [], harness := (true, "8951d8862c67ef822b7e8ae4ddce6112e04846ff917043335ec5208400f609c6"), looks := false }, kinds := [], alts := [], laidByText := true, laidKinds := [.data], laidTests := true, laidLooks := .later }
def BundleEncodesCardSaid : Prop := Claim7.holds Tryz.pinned (.plain (OpenSpec.ofChange bundleEncodesSpec)) bundleEncodesCard

/-- THE TIED CARD OF 'bulkheadlaw13.BundleDecodes'. -/
def bundleDecodesCard : Claim7 := { stood := { row := bundleDecodesRow, standIns := [], harness := (true, "8951d8862c67ef822b7e8ae4ddce6112e04846ff917043335ec5208400f609c6"), looks := false }, kinds := [], alts := [], laidByText := true, laidKinds := [.data], laidTests := true, laidLooks := .later }
def BundleDecodesCardSaid : Prop := Claim7.holds Tryz.pinned (.plain (OpenSpec.ofChange bundleDecodesSpec)) bundleDecodesCard

/-- THE SECOND FORM's CARD OF 'bulkheadlaw13.BundleEncodes'. -/
def bundleEncodesUptoCard : Claim7 := { stood := { row := bundleEncodesUptoRow, standIns := [], harness := (true, "8951d8862c67ef822b7e8ae4ddce6112e04846ff917043335ec5208400f609c6"), looks := false }, kinds := [], alts := [], laidByText := true, laidKinds := [.data], laidTests := true, laidLooks := .later }
def BundleEncodesUptoCardSaid : Prop := Claim7.holds Tryz.pinned (.plain (OpenSpec.upto bundleEncodesSpec)) bundleEncodesUptoCard

/-- THE SECOND FORM's CARD OF 'bulkheadlaw13.BundleDecodes'. -/
def bundleDecodesUptoCard : Claim7 := { stood := { row := bundleDecodesUptoRow, standIns := [], harness := (true, "8951d8862c67ef822b7e8ae4ddce6112e04846ff917043335ec5208400f609c6"), looks := false }, kinds := [], alts := [], laidByText := true, laidKinds := [.data], laidTests := true, laidLooks := .later }
def BundleDecodesUptoCardSaid : Prop := Claim7.holds Tryz.pinned (.plain (OpenSpec.upto bundleDecodesSpec)) bundleDecodesUptoCard
end Rows
end Go.Proofs.YtmfkggngjeolcaaGreatDoor
