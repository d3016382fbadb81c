/-
  DERIVED. GIVEN WITH THE SEED: THE CARDS: each row of YtinjhgimhboigaaDoorRows.lean that lists a variable, with what it lists TIED to the program's text (the seventh form; the later family's looks); each row that meets fmt, with fmt's text TOLD by the authors' own Lean function (tested against real Go, not proved from fmt's source: count such statements apart). THE CARD IS WHAT COUNTS. Prove the row's statement (the work); the ties are given (YtinjhgimhboigaaDoorTie.lean); close each card by the builder's one call (the guide's Derived/Test/ToyasCard.lean, 'card_holds'). Laid BY PROGRAM, IN A SANDBOX (cutbox-door.mjs). By AI agents, Wed Nov 11 2026. No macro, syntax, notation, axiom, sorry.
-/
import Derived.Test.YtinjhgimhboigaaDoorRows
import GoSem.ClaimSeven
namespace Go.Proofs.YtinjhgimhboigaaDoor
namespace Rows

/-- THE TIED CARD OF 'bulkheadlaw13.BundleApart'. -/
def bundleApartCard : Claim7 := { stood := { row := bundleApartRow, standIns := [], harness := (true, "c6e1a6300519b853b817c37a96e23a40eaeb6b1bc9e26bbb4626657484622180"), looks := false }, kinds := [], alts := [], laidByText := true, laidKinds := [.data], laidTests := true, laidLooks := .later }
def BundleApartCardSaid : Prop := Claim7.holds Tryd.pinned (.plain (OpenSpec.ofChange bundleApartSpec)) bundleApartCard

/-- THE SECOND FORM's CARD OF 'bulkheadlaw13.BundleApart'. -/
def bundleApartUptoCard : Claim7 := { stood := { row := bundleApartUptoRow, standIns := [], harness := (true, "c6e1a6300519b853b817c37a96e23a40eaeb6b1bc9e26bbb4626657484622180"), looks := false }, kinds := [], alts := [], laidByText := true, laidKinds := [.data], laidTests := true, laidLooks := .later }
def BundleApartUptoCardSaid : Prop := Claim7.holds Tryd.pinned (.plain (OpenSpec.upto bundleApartSpec)) bundleApartUptoCard
end Rows
end Go.Proofs.YtinjhgimhboigaaDoor
