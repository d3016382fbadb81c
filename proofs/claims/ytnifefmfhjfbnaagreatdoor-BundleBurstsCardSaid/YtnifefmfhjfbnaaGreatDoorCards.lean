/-
  DERIVED. GIVEN WITH THE SEED: THE CARDS: each row of YtnifefmfhjfbnaaGreatDoorRows.lean that lists a variable, with what it lists TIED to the program's text (the seventh form; the later family's looks); each row that meets fmt, with fmt's text TOLD by the authors' own Lean function (tested against real Go, not proved from fmt's source: count such statements apart). THE CARD IS WHAT COUNTS. Prove the row's statement (the work); the ties are given (YtnifefmfhjfbnaaGreatDoorTie.lean); close each card by the builder's one call (the guide's Derived/Test/ToyasCard.lean, 'card_holds'). Laid BY PROGRAM, IN A SANDBOX (cutbox-door.mjs). By AI agents, Wed Nov 11 2026. No macro, syntax, notation, axiom, sorry.
-/
import Derived.Test.YtnifefmfhjfbnaaGreatDoorRows
import GoSem.ClaimSeven
namespace Go.Proofs.YtnifefmfhjfbnaaGreatDoor
namespace Rows

/-- THE TIED CARD OF 'bulkheadlaw13.BundleNames'. -/
def bundleNamesCard : Claim7 := { stood := { row := bundleNamesRow, standIns := [], harness := (true, "4d96d5d714f0fd267c1a1b04220a9a3ea6d05a6713598fe4049376e59adfb576"), looks := false }, kinds := [], alts := [], laidByText := true, laidKinds := [.data], laidTests := true, laidLooks := .later }
def BundleNamesCardSaid : Prop := Claim7.holds Tryz.pinned (.plain (OpenSpec.ofChange bundleNamesSpec)) bundleNamesCard

/-- THE TIED CARD OF 'bulkheadlaw13.BundleBack'. -/
def bundleBackCard : Claim7 := { stood := { row := bundleBackRow, standIns := [], harness := (true, "4d96d5d714f0fd267c1a1b04220a9a3ea6d05a6713598fe4049376e59adfb576"), looks := false }, kinds := [], alts := [], laidByText := true, laidKinds := [.data], laidTests := true, laidLooks := .later }
def BundleBackCardSaid : Prop := Claim7.holds Tryz.pinned (.plain (OpenSpec.ofChange bundleBackSpec)) bundleBackCard

/-- THE TIED CARD OF 'bulkheadlaw13.BundleForth'. -/
def bundleForthCard : Claim7 := { stood := { row := bundleForthRow, standIns := [], harness := (true, "4d96d5d714f0fd267c1a1b04220a9a3ea6d05a6713598fe4049376e59adfb576"), looks := false }, kinds := [], alts := [], laidByText := true, laidKinds := [.data], laidTests := true, laidLooks := .later }
def BundleForthCardSaid : Prop := Claim7.holds Tryz.pinned (.plain (OpenSpec.ofChange bundleForthSpec)) bundleForthCard

/-- THE TIED CARD OF 'bulkheadlaw13.BundleBursts'. -/
def bundleBurstsCard : Claim7 := { stood := { row := bundleBurstsRow, standIns := [], harness := (true, "4d96d5d714f0fd267c1a1b04220a9a3ea6d05a6713598fe4049376e59adfb576"), looks := false }, kinds := [], alts := [], laidByText := true, laidKinds := [.data], laidTests := true, laidLooks := .later }
def BundleBurstsCardSaid : Prop := Claim7.holds Tryz.pinned (.plain (OpenSpec.ofChange bundleBurstsSpec)) bundleBurstsCard

/-- THE SECOND FORM's CARD OF 'bulkheadlaw13.BundleNames'. -/
def bundleNamesUptoCard : Claim7 := { stood := { row := bundleNamesUptoRow, standIns := [], harness := (true, "4d96d5d714f0fd267c1a1b04220a9a3ea6d05a6713598fe4049376e59adfb576"), looks := false }, kinds := [], alts := [], laidByText := true, laidKinds := [.data], laidTests := true, laidLooks := .later }
def BundleNamesUptoCardSaid : Prop := Claim7.holds Tryz.pinned (.plain (OpenSpec.upto bundleNamesSpec)) bundleNamesUptoCard

/-- THE SECOND FORM's CARD OF 'bulkheadlaw13.BundleBack'. -/
def bundleBackUptoCard : Claim7 := { stood := { row := bundleBackUptoRow, standIns := [], harness := (true, "4d96d5d714f0fd267c1a1b04220a9a3ea6d05a6713598fe4049376e59adfb576"), looks := false }, kinds := [], alts := [], laidByText := true, laidKinds := [.data], laidTests := true, laidLooks := .later }
def BundleBackUptoCardSaid : Prop := Claim7.holds Tryz.pinned (.plain (OpenSpec.upto bundleBackSpec)) bundleBackUptoCard

/-- THE SECOND FORM's CARD OF 'bulkheadlaw13.BundleForth'. -/
def bundleForthUptoCard : Claim7 := { stood := { row := bundleForthUptoRow, standIns := [], harness := (true, "4d96d5d714f0fd267c1a1b04220a9a3ea6d05a6713598fe4049376e59adfb576"), looks := false }, kinds := [], alts := [], laidByText := true, laidKinds := [.data], laidTests := true, laidLooks := .later }
def BundleForthUptoCardSaid : Prop := Claim7.holds Tryz.pinned (.plain (OpenSpec.upto bundleForthSpec)) bundleForthUptoCard

/-- THE SECOND FORM's CARD OF 'bulkheadlaw13.BundleBursts'. -/
def bundleBurstsUptoCard : Claim7 := { stood := { row := bundleBurstsUptoRow, standIns := [], harness := (true, "4d96d5d714f0fd267c1a1b04220a9a3ea6d05a6713598fe4049376e59adfb576"), looks := false }, kinds := [], alts := [], laidByText := true, laidKinds := [.data], laidTests := true, laidLooks := .later }
def BundleBurstsUptoCardSaid : Prop := Claim7.holds Tryz.pinned (.plain (OpenSpec.upto bundleBurstsSpec)) bundleBurstsUptoCard
end Rows
end Go.Proofs.YtnifefmfhjfbnaaGreatDoor
