/-
  DERIVED. GIVEN WITH THE SEED: THE CARDS: each row of YtheffpmebojodaaDoorRows.lean that lists a variable, with what it lists TIED to the program's text (the seventh form; the later family's looks); each row that meets fmt, with fmt's text TOLD by the authors' own Lean function (tested against real Go, not proved from fmt's source: count such statements apart). THE CARD IS WHAT COUNTS. Prove the row's statement (the work); the ties are given (YtheffpmebojodaaDoorTie.lean); close each card by the builder's one call (the guide's Derived/Test/ToyasCard.lean, 'card_holds'). Laid BY PROGRAM, IN A SANDBOX (cutbox-door.mjs). By AI agents, Wed Nov 11 2026. No macro, syntax, notation, axiom, sorry.
-/
import Derived.Test.YtheffpmebojodaaDoorRows
import GoSem.ClaimSeven
namespace Go.Proofs.YtheffpmebojodaaDoor
namespace Rows

/-- THE TIED CARD OF 'bulkheadlaw1.WordBack'. -/
def wordBackCard : Claim7 := { stood := { row := wordBackRow, standIns := [], harness := (true, "acfa318adde57d09eab19f0c9a5a6ed4673edff1acd06ffebd8489d515b44d88"), looks := false }, kinds := [], alts := [], laidByText := true, laidKinds := [.data], laidTests := true, laidLooks := .later }
def WordBackCardSaid : Prop := Claim7.holds Tryd.pinned (.plain (OpenSpec.ofChange wordBackSpec)) wordBackCard

/-- THE TIED CARD OF 'bulkheadlaw1.WordCuts'. -/
def wordCutsCard : Claim7 := { stood := { row := wordCutsRow, standIns := [], harness := (true, "acfa318adde57d09eab19f0c9a5a6ed4673edff1acd06ffebd8489d515b44d88"), looks := false }, kinds := [], alts := [], laidByText := true, laidKinds := [.data], laidTests := true, laidLooks := .later }
def WordCutsCardSaid : Prop := Claim7.holds Tryd.pinned (.plain (OpenSpec.ofChange wordCutsSpec)) wordCutsCard

/-- THE TIED CARD OF 'bulkheadlaw1.WordWrites'. -/
def wordWritesCard : Claim7 := { stood := { row := wordWritesRow, standIns := [], harness := (true, "acfa318adde57d09eab19f0c9a5a6ed4673edff1acd06ffebd8489d515b44d88"), looks := false }, kinds := [], alts := [], laidByText := true, laidKinds := [.data], laidTests := true, laidLooks := .later }
def WordWritesCardSaid : Prop := Claim7.holds Tryd.pinned (.plain (OpenSpec.ofChange wordWritesSpec)) wordWritesCard

/-- THE TIED CARD OF 'bulkheadlaw1.WordReads'. -/
def wordReadsCard : Claim7 := { stood := { row := wordReadsRow, standIns := [], harness := (true, "acfa318adde57d09eab19f0c9a5a6ed4673edff1acd06ffebd8489d515b44d88"), looks := false }, kinds := [], alts := [], laidByText := true, laidKinds := [.data], laidTests := true, laidLooks := .later }
def WordReadsCardSaid : Prop := Claim7.holds Tryd.pinned (.plain (OpenSpec.ofChange wordReadsSpec)) wordReadsCard

/-- THE SECOND FORM's CARD OF 'bulkheadlaw1.WordBack'. -/
def wordBackUptoCard : Claim7 := { stood := { row := wordBackUptoRow, standIns := [], harness := (true, "acfa318adde57d09eab19f0c9a5a6ed4673edff1acd06ffebd8489d515b44d88"), looks := false }, kinds := [], alts := [], laidByText := true, laidKinds := [.data], laidTests := true, laidLooks := .later }
def WordBackUptoCardSaid : Prop := Claim7.holds Tryd.pinned (.plain (OpenSpec.upto wordBackSpec)) wordBackUptoCard

/-- THE SECOND FORM's CARD OF 'bulkheadlaw1.WordCuts'. -/
def wordCutsUptoCard : Claim7 := { stood := { row := wordCutsUptoRow, standIns := [], harness := (true, "acfa318adde57d09eab19f0c9a5a6ed4673edff1acd06ffebd8489d515b44d88"), looks := false }, kinds := [], alts := [], laidByText := true, laidKinds := [.data], laidTests := true, laidLooks := .later }
def WordCutsUptoCardSaid : Prop := Claim7.holds Tryd.pinned (.plain (OpenSpec.upto wordCutsSpec)) wordCutsUptoCard

/-- THE SECOND FORM's CARD OF 'bulkheadlaw1.WordWrites'. -/
def wordWritesUptoCard : Claim7 := { stood := { row := wordWritesUptoRow, standIns := [], harness := (true, "acfa318adde57d09eab19f0c9a5a6ed4673edff1acd06ffebd8489d515b44d88"), looks := false }, kinds := [], alts := [], laidByText := true, laidKinds := [.data], laidTests := true, laidLooks := .later }
def WordWritesUptoCardSaid : Prop := Claim7.holds Tryd.pinned (.plain (OpenSpec.upto wordWritesSpec)) wordWritesUptoCard

/-- THE SECOND FORM's CARD OF 'bulkheadlaw1.WordReads'. -/
def wordReadsUptoCard : Claim7 := { stood := { row := wordReadsUptoRow, standIns := [], harness := (true, "acfa318adde57d09eab19f0c9a5a6ed4673edff1acd06ffebd8489d515b44d88"), looks := false }, kinds := [], alts := [], laidByText := true, laidKinds := [.data], laidTests := true, laidLooks := .later }
def WordReadsUptoCardSaid : Prop := Claim7.holds Tryd.pinned (.plain (OpenSpec.upto wordReadsSpec)) wordReadsUptoCard
end Rows
end Go.Proofs.YtheffpmebojodaaDoor
