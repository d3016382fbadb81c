/-
  NARROWER THAN 'FOR EVERY INPUT', by the rows' own cells (each row's printed sentence says how): BundleNames: laid · BundleBack: laid · BundleForth: laid · BundleBursts: laid.
  DERIVED. THE GIVEN ROWS OF THIS SEAT. 4 by the template 'for every input the law returns true; each argument reads behind the call as it read before'; 0 by the template 'total and deterministic' (their statements: YtnifefmfhjfbnaaGreatDoorTotals.lean).
  GIVEN WITH THE SEED: the statements are not yours to turn. If you find one false, say at which input.
  Laid BY PROGRAM, IN A SANDBOX (cutbox-rows.mjs): the forced cells as the released guide's own fill.sh prints them over the translation bdccbc99b9d66443… (all of the seat's roots in one cut). By AI agents, Wed Nov 11 2026. No macro, syntax, notation, axiom, sorry.
-/
import Derived.Test.YtnifefmfhjfbnaaGreatDoorChecked
import GoSem.Claim
import GoSem.ClaimJoined
import GoSem.ClaimMapViews
import Derived.JoinedTies
import Derived.KernelRfl
namespace Go.Proofs.YtnifefmfhjfbnaaGreatDoor
/- THE CELL 'sum', in the pinned program and in every row, IS THE sha256 OF THE DUMP (.gsa) THAT YtnifefmfhjfbnaaGreatDoorProg.lean LOADS. Nothing in Lean hashes anything: it is a label: what it is worth is what the hold of that sum in a sandbox is worth. -/
noncomputable def Tryz.pinned : Pinned := { name := "ytnifefmfhjfbnaagreatdoor", sum := "bdccbc99b9d664433edfb026aa22e311595620df143dbf4152d1efa87437d37c", checked := Tryz.checked }
namespace Rows
def none {H : Type} : Left H := { results := [], args := [] }

/- WHAT THE LISTED PACKAGE-LEVEL VARIABLES READ AS WHEN THE CALL BEGINS. Each datum BY PROGRAM (the guide's laid-datum.mjs) off the statement by which the dump's own 'gosem.cut.vars' lays the variable. In a bare row this is a premise. The card (YtnifefmfhjfbnaaGreatDoorCards.lean) ties it to the program's text. -/
def laid_bulkhead_word_fourBits {H : Type} : DataW H := .agg [.lit (.int .u32 0), .lit (.int .u32 274646895), .lit (.int .u32 549293790), .lit (.int .u32 820201905), .lit (.int .u32 1098587580), .lit (.int .u32 1361435347), .lit (.int .u32 1640403810), .lit (.int .u32 1905808397), .lit (.int .u32 2197175160), .lit (.int .u32 2460548119), .lit (.int .u32 2722870694), .lit (.int .u32 2987750089), .lit (.int .u32 3280807620), .lit (.int .u32 3553878443), .lit (.int .u32 3811616794), .lit (.int .u32 4084100981)]

/-- 'bulkheadlaw13.BundleNames': WHATEVER THE INPUT: true; the input reads as it did. -/
def bundleNamesSpec : ChangeSpec := { name := "bundleNames", fn := fun _ => fun
  | [] => { results := [.lit (.bool true)], args := [] }
  | _ => none }
def bundleNamesRow : OpenClaim := { program := "ytnifefmfhjfbnaagreatdoor", sum := "bdccbc99b9d664433edfb026aa22e311595620df143dbf4152d1efa87437d37c", func := "bulkhead/bulkheadlaw13.BundleNames", spec := "bundleNames", unfollowed := true, recurses := true, named := ["bulkhead/word.fourBits"], apart := false, laid := [("bulkhead/word.fourBits", laid_bulkhead_word_fourBits)] }
def BundleNamesSaid : Prop := bundleNamesRow.holds Tryz.pinned (OpenSpec.ofChange bundleNamesSpec)

/-- ITS FALSE NEIGHBOUR: 'it returns false'. Refute it at one input. -/
def bundleNamesWrong : ChangeSpec := { name := "bundleNames", fn := fun _ => fun
  | [] => { results := [.lit (.bool false)], args := [] }
  | _ => none }
def BundleNamesWrongFalsely : Prop := bundleNamesRow.holds Tryz.pinned (OpenSpec.ofChange bundleNamesWrong)

/-- 'bulkheadlaw13.BundleBack': WHATEVER THE INPUT: true; the input reads as it did. -/
def bundleBackSpec : ChangeSpec := { name := "bundleBack", fn := fun _ => fun
  | [d] => { results := [.lit (.bool true)], args := [d] }
  | _ => none }
def bundleBackRow : OpenClaim := { program := "ytnifefmfhjfbnaagreatdoor", sum := "bdccbc99b9d664433edfb026aa22e311595620df143dbf4152d1efa87437d37c", func := "bulkhead/bulkheadlaw13.BundleBack", spec := "bundleBack", unfollowed := true, recurses := true, named := ["bulkhead/word.fourBits"], apart := false, laid := [("bulkhead/word.fourBits", laid_bulkhead_word_fourBits)] }
def BundleBackSaid : Prop := bundleBackRow.holds Tryz.pinned (OpenSpec.ofChange bundleBackSpec)

/-- ITS FALSE NEIGHBOUR: 'it returns false'. Refute it at one input. -/
def bundleBackWrong : ChangeSpec := { name := "bundleBack", fn := fun _ => fun
  | [d] => { results := [.lit (.bool false)], args := [d] }
  | _ => none }
def BundleBackWrongFalsely : Prop := bundleBackRow.holds Tryz.pinned (OpenSpec.ofChange bundleBackWrong)

/-- 'bulkheadlaw13.BundleForth': WHATEVER THE INPUT: true; the input reads as it did. -/
def bundleForthSpec : ChangeSpec := { name := "bundleForth", fn := fun _ => fun
  | [d] => { results := [.lit (.bool true)], args := [d] }
  | _ => none }
def bundleForthRow : OpenClaim := { program := "ytnifefmfhjfbnaagreatdoor", sum := "bdccbc99b9d664433edfb026aa22e311595620df143dbf4152d1efa87437d37c", func := "bulkhead/bulkheadlaw13.BundleForth", spec := "bundleForth", unfollowed := true, recurses := true, named := ["bulkhead/word.fourBits"], apart := false, laid := [("bulkhead/word.fourBits", laid_bulkhead_word_fourBits)] }
def BundleForthSaid : Prop := bundleForthRow.holds Tryz.pinned (OpenSpec.ofChange bundleForthSpec)

/-- ITS FALSE NEIGHBOUR: 'it returns false'. Refute it at one input. -/
def bundleForthWrong : ChangeSpec := { name := "bundleForth", fn := fun _ => fun
  | [d] => { results := [.lit (.bool false)], args := [d] }
  | _ => none }
def BundleForthWrongFalsely : Prop := bundleForthRow.holds Tryz.pinned (OpenSpec.ofChange bundleForthWrong)

/-- 'bulkheadlaw13.BundleBursts': WHATEVER THE INPUT: true; the input reads as it did. -/
def bundleBurstsSpec : ChangeSpec := { name := "bundleBursts", fn := fun _ => fun
  | [d1, d2, d3, d4] => { results := [.lit (.bool true)], args := [d1, d2, d3, d4] }
  | _ => none }
def bundleBurstsRow : OpenClaim := { program := "ytnifefmfhjfbnaagreatdoor", sum := "bdccbc99b9d664433edfb026aa22e311595620df143dbf4152d1efa87437d37c", func := "bulkhead/bulkheadlaw13.BundleBursts", spec := "bundleBursts", unfollowed := true, recurses := true, named := ["bulkhead/word.fourBits"], apart := false, laid := [("bulkhead/word.fourBits", laid_bulkhead_word_fourBits)] }
def BundleBurstsSaid : Prop := bundleBurstsRow.holds Tryz.pinned (OpenSpec.ofChange bundleBurstsSpec)

/-- ITS FALSE NEIGHBOUR: 'it returns false'. Refute it at one input. -/
def bundleBurstsWrong : ChangeSpec := { name := "bundleBursts", fn := fun _ => fun
  | [d1, d2, d3, d4] => { results := [.lit (.bool false)], args := [d1, d2, d3, d4] }
  | _ => none }
def BundleBurstsWrongFalsely : Prop := bundleBurstsRow.holds Tryz.pinned (OpenSpec.ofChange bundleBurstsWrong)

/- THE SECOND FORM. 'bulk': how many values and letters a reading holds, each counted each time it is reached (what is shared counts as often as it is met; a slice's spare places count too). A statement '..UptoSaid' is the law's where the arguments, and the package variables that the reading takes, are together of bulk at most 1048576: NARROWER than '..Said'. Prove '..Said' where nothing that the law and all that it calls make is longer than what came in: it says more and counts as full. Else prove '..UptoSaid'. A law counts once. -/
mutual
def uptoBulk {H : Type} : DataW H → Nat
  | .lit (.string bytes) => bytes.length + 1
  | .lit _ => 1
  | .nil => 1
  | .ptr d => uptoBulk d + 1
  | .slice elems spare => uptoBulkAll elems + uptoBulkAll spare + 1
  | .agg parts => uptoBulkAll parts + 1
  | .iface _ d => uptoBulk d + 1
  | .map entries => uptoBulkEntries entries + 1
  | .held _ => 1
def uptoBulkAll {H : Type} : List (DataW H) → Nat
  | [] => 0
  | d :: r => uptoBulk d + uptoBulkAll r
def uptoBulkEntries {H : Type} : List (Lit × DataW H) → Nat
  | [] => 0
  | x :: r => uptoBulkEntry x + uptoBulkEntries r
def uptoBulkEntry {H : Type} : Lit × DataW H → Nat
  | (.string bytes, d) => bytes.length + uptoBulk d + 1
  | (_, d) => uptoBulk d + 1
 end
def uptoSmall : (H : Type) → List (DataW H) → Bool := fun _ ds => decide (uptoBulkAll ds ≤ 1048576)
def OpenSpec.upto (s : _root_.Go.ChangeSpec) : _root_.Go.OpenSpec := { _root_.Go.OpenSpec.ofChange s with cond := some uptoSmall }

/-- 'bulkheadlaw13.BundleNames', WHERE WHAT IT READS IS OF BULK AT MOST 1048576: true; the input reads as it did. -/
def bundleNamesUptoRow : OpenClaim := { program := "ytnifefmfhjfbnaagreatdoor", sum := "bdccbc99b9d664433edfb026aa22e311595620df143dbf4152d1efa87437d37c", func := "bulkhead/bulkheadlaw13.BundleNames", spec := "bundleNames", unfollowed := true, recurses := true, named := ["bulkhead/word.fourBits"], apart := false, laid := [("bulkhead/word.fourBits", laid_bulkhead_word_fourBits)], narrowed := true }
def BundleNamesUptoSaid : Prop := bundleNamesUptoRow.holds Tryz.pinned (OpenSpec.upto bundleNamesSpec)

/-- 'bulkheadlaw13.BundleBack', WHERE WHAT IT READS IS OF BULK AT MOST 1048576: true; the input reads as it did. -/
def bundleBackUptoRow : OpenClaim := { program := "ytnifefmfhjfbnaagreatdoor", sum := "bdccbc99b9d664433edfb026aa22e311595620df143dbf4152d1efa87437d37c", func := "bulkhead/bulkheadlaw13.BundleBack", spec := "bundleBack", unfollowed := true, recurses := true, named := ["bulkhead/word.fourBits"], apart := false, laid := [("bulkhead/word.fourBits", laid_bulkhead_word_fourBits)], narrowed := true }
def BundleBackUptoSaid : Prop := bundleBackUptoRow.holds Tryz.pinned (OpenSpec.upto bundleBackSpec)

/-- 'bulkheadlaw13.BundleForth', WHERE WHAT IT READS IS OF BULK AT MOST 1048576: true; the input reads as it did. -/
def bundleForthUptoRow : OpenClaim := { program := "ytnifefmfhjfbnaagreatdoor", sum := "bdccbc99b9d664433edfb026aa22e311595620df143dbf4152d1efa87437d37c", func := "bulkhead/bulkheadlaw13.BundleForth", spec := "bundleForth", unfollowed := true, recurses := true, named := ["bulkhead/word.fourBits"], apart := false, laid := [("bulkhead/word.fourBits", laid_bulkhead_word_fourBits)], narrowed := true }
def BundleForthUptoSaid : Prop := bundleForthUptoRow.holds Tryz.pinned (OpenSpec.upto bundleForthSpec)

/-- 'bulkheadlaw13.BundleBursts', WHERE WHAT IT READS IS OF BULK AT MOST 1048576: true; the input reads as it did. -/
def bundleBurstsUptoRow : OpenClaim := { program := "ytnifefmfhjfbnaagreatdoor", sum := "bdccbc99b9d664433edfb026aa22e311595620df143dbf4152d1efa87437d37c", func := "bulkhead/bulkheadlaw13.BundleBursts", spec := "bundleBursts", unfollowed := true, recurses := true, named := ["bulkhead/word.fourBits"], apart := false, laid := [("bulkhead/word.fourBits", laid_bulkhead_word_fourBits)], narrowed := true }
def BundleBurstsUptoSaid : Prop := bundleBurstsUptoRow.holds Tryz.pinned (OpenSpec.upto bundleBurstsSpec)

end Rows
end Go.Proofs.YtnifefmfhjfbnaaGreatDoor
