/- What the row's list gives; a world for the witness. (Laid without its slices.) -/
import Derived.Test.YtinjhgimhboigaaDoorCards
import Derived.Test.YtinjhgimhboigaaDoorTie
import Derived.Test.YtinjhgimhboigaaDoorCrc
import Derived.WalkKit
import Derived.ProofKit
import Derived.OpenShut
import Derived.ShutString
import Derived.ChangeOld
import Derived.Below
import Derived.Deep.DeepHandedRow
import Derived.Lib.LaidTab
namespace Go.Proofs.YtinjhgimhboigaaDoor
open Go.ChangeShapes Go.WideShapes Go.ChangeAt Go.RowKit
theorem ownKnobs : ownKnob Tryd.prog.godebug = none := by kernel_rfl
theorem laidOut : laidOutB Tryd.prog = true := by kernel_rfl
theorem gTab : Tryd.prog.globalNamed "bulkhead/word.fourBits" = some 0 := by kernel_rfl
theorem gTabType : (Tryd.prog.globals[0]?).map (·.type) = some 107 := by kernel_rfl
theorem cellsTab : Tryd.prog.cellsOf 107 = 16 := by kernel_rfl
theorem cellsWord : Tryd.prog.cellsOf 65 = 1 := by kernel_rfl
theorem tab_of {W : World} (h : laidMetH Tryd.prog [("bulkhead/word.fourBits", Rows.laid_bulkhead_word_fourBits)] W) : Tab W := by
  have t : Lib.TabIs Tryd.prog W "bulkhead/word.fourBits" .u32 (Pl.tab.map fun (n : Nat) => (n : Int)) :=
    Lib.tabIs_of_head (rest := []) gTab gTabType Tryd.underlying107 Tryd.underlying65 cellsWord cellsTab h
  intro i hi
  have e : (Pl.tab.map fun (n : Nat) => (n : Int)).getD i 0 = ((Pl.tab.getD i 0 : Nat) : Int) := by
    rw [List.getD_eq_getElem?_getD, List.getElem?_map, List.getD_eq_getElem?_getD, List.getElem?_eq_getElem (by simpa [Pl.tab] using hi)]
    rfl
  have c := t.cell gTab i (by simpa [Pl.tab] using hi)
  first
  | exact c.trans (by rw [← e]; rfl)
  | (rw [← e]; simpa using c)
/-- a world that holds the table as its initialiser lays it -/
noncomputable def laidWorld (os : Os) : World :=
  { World.holding Tryd.prog os ⟨#[], #[], []⟩ with heap := (World.holding Tryd.prog os ⟨#[], #[], []⟩).heap.modify 0 fun
      | .cells _ t frozen => .cells #[.int .u32 0, .int .u32 274646895, .int .u32 549293790, .int .u32 820201905, .int .u32 1098587580, .int .u32 1361435347, .int .u32 1640403810, .int .u32 1905808397, .int .u32 2197175160, .int .u32 2460548119, .int .u32 2722870694, .int .u32 2987750089, .int .u32 3280807620, .int .u32 3553878443, .int .u32 3811616794, .int .u32 4084100981] t frozen
      | o => o }
end Go.Proofs.YtinjhgimhboigaaDoor
