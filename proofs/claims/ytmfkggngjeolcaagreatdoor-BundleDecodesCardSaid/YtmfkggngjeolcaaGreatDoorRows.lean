/-
  NARROWER THAN 'FOR EVERY INPUT', by the rows' own cells (each row's printed sentence says how): BundleEncodes: laid · BundleDecodes: laid.
  DERIVED. THE GIVEN ROWS OF THIS SEAT. 2 by the template 'for every input the law returns true; each argument reads behind the call as it read before'; 0 by the template 'total and deterministic' (their statements: YtmfkggngjeolcaaGreatDoorTotals.lean).
  GIVEN WITH THE SEED: the statements are not yours to turn. If you find one false, say at which input.
  Laid BY PROGRAM, IN A SANDBOX (cutbox-rows.mjs): the forced cells as the released guide's own fill.sh prints them over the translation 756897542c8c78f4… (all of the seat's roots in one cut). By AI agents, Wed Nov 11 2026. No macro, syntax, notation, axiom, sorry.
-/
import Derived.Test.YtmfkggngjeolcaaGreatDoorChecked
import GoSem.Claim
import GoSem.ClaimJoined
import GoSem.ClaimMapViews
import Derived.JoinedTies
import Derived.KernelRfl
namespace Go.Proofs.YtmfkggngjeolcaaGreatDoor
/- THE CELL 'sum', in the pinned program and in every row, IS THE sha256 OF THE DUMP (.gsa) THAT YtmfkggngjeolcaaGreatDoorProg.lean LOADS. Nothing in Lean hashes anything: it is a label: what it is worth is what the hold of that sum in a sandbox is worth. -/
noncomputable def Tryz.pinned : Pinned := { name := "ytmfkggngjeolcaagreatdoor", sum := "756897542c8c78f4d22a532765bdca0839afe8c0e3997a990faf1becb3a97740", checked := Tryz.checked }
namespace Rows
def none {H : Type} : Left H := { results := [], args := [] }

/- WHAT THE LISTED PACKAGE-LEVEL VARIABLES READ AS WHEN THE CALL BEGINS. Each datum BY PROGRAM (the guide's laid-datum.mjs) off the statement by which the dump's own 'gosem.cut.vars' lays the variable. In a bare row this is a premise. The card (YtmfkggngjeolcaaGreatDoorCards.lean) ties it to the program's text. -/
def laid_bulkhead_word_fourBits {H : Type} : DataW H := .agg [.lit (.int .u32 0), .lit (.int .u32 274646895), .lit (.int .u32 549293790), .lit (.int .u32 820201905), .lit (.int .u32 1098587580), .lit (.int .u32 1361435347), .lit (.int .u32 1640403810), .lit (.int .u32 1905808397), .lit (.int .u32 2197175160), .lit (.int .u32 2460548119), .lit (.int .u32 2722870694), .lit (.int .u32 2987750089), .lit (.int .u32 3280807620), .lit (.int .u32 3553878443), .lit (.int .u32 3811616794), .lit (.int .u32 4084100981)]

/-- 'bulkheadlaw13.BundleEncodes': WHATEVER THE INPUT: true; the input reads as it did. -/
def bundleEncodesSpec : ChangeSpec := { name := "bundleEncodes", fn := fun _ => fun
  | [d] => { results := [.lit (.bool true)], args := [d] }
  | _ => none }
def bundleEncodesRow : OpenClaim := { program := "ytmfkggngjeolcaagreatdoor", sum := "756897542c8c78f4d22a532765bdca0839afe8c0e3997a990faf1becb3a97740", func := "bulkhead/bulkheadlaw13.BundleEncodes", spec := "bundleEncodes", unfollowed := true, recurses := true, named := ["bulkhead/word.fourBits"], apart := false, laid := [("bulkhead/word.fourBits", laid_bulkhead_word_fourBits)] }
def BundleEncodesSaid : Prop := bundleEncodesRow.holds Tryz.pinned (OpenSpec.ofChange bundleEncodesSpec)

/-- ITS FALSE NEIGHBOUR: 'it returns false'. Refute it at one input. -/
def bundleEncodesWrong : ChangeSpec := { name := "bundleEncodes", fn := fun _ => fun
  | [d] => { results := [.lit (.bool false)], args := [d] }
  | _ => none }
def BundleEncodesWrongFalsely : Prop := bundleEncodesRow.holds Tryz.pinned (OpenSpec.ofChange bundleEncodesWrong)

/-- 'bulkheadlaw13.BundleDecodes': WHATEVER THE INPUT: true; the input reads as it did. -/
def bundleDecodesSpec : ChangeSpec := { name := "bundleDecodes", fn := fun _ => fun
  | [d1, d2, d3] => { results := [.lit (.bool true)], args := [d1, d2, d3] }
  | _ => none }
def bundleDecodesRow : OpenClaim := { program := "ytmfkggngjeolcaagreatdoor", sum := "756897542c8c78f4d22a532765bdca0839afe8c0e3997a990faf1becb3a97740", func := "bulkhead/bulkheadlaw13.BundleDecodes", spec := "bundleDecodes", unfollowed := true, recurses := true, named := ["bulkhead/word.fourBits"], apart := false, laid := [("bulkhead/word.fourBits", laid_bulkhead_word_fourBits)] }
def BundleDecodesSaid : Prop := bundleDecodesRow.holds Tryz.pinned (OpenSpec.ofChange bundleDecodesSpec)

/-- ITS FALSE NEIGHBOUR: 'it returns false'. Refute it at one input. -/
def bundleDecodesWrong : ChangeSpec := { name := "bundleDecodes", fn := fun _ => fun
  | [d1, d2, d3] => { results := [.lit (.bool false)], args := [d1, d2, d3] }
  | _ => none }
def BundleDecodesWrongFalsely : Prop := bundleDecodesRow.holds Tryz.pinned (OpenSpec.ofChange bundleDecodesWrong)

/- THE SECOND FORM. 'bulk': how many values and letters a reading holds, each counted each time it is reached (what is shared counts as often as it is met; a slice's spare places count too). A statement '..UptoSaid' is the law's where the arguments, and the package variables that the reading takes, are together of bulk at most 1048576: NARROWER than '..Said'. Prove '..Said' where nothing that the law and all that it calls make is longer than what came in: it says more and counts as full. Else prove '..UptoSaid'. A law counts once. -/
mutual
def uptoBulk {H : Type} : DataW H → Nat
  | .lit (.string bytes) => bytes.length + 1
  | .lit _ => 1
  | .nil => 1
  | .ptr d => uptoBulk d + 1
  | .slice elems spare => uptoBulkAll elems + uptoBulkAll spare + 1
  | .agg parts => uptoBulkAll parts + 1
  | .iface _ d => uptoBulk d + 1
  | .map entries => uptoBulkEntries entries + 1
  | .held _ => 1
def uptoBulkAll {H : Type} : List (DataW H) → Nat
  | [] => 0
  | d :: r => uptoBulk d + uptoBulkAll r
def uptoBulkEntries {H : Type} : List (Lit × DataW H) → Nat
  | [] => 0
  | x :: r => uptoBulkEntry x + uptoBulkEntries r
def uptoBulkEntry {H : Type} : Lit × DataW H → Nat
  | (.string bytes, d) => bytes.length + uptoBulk d + 1
  | (_, d) => uptoBulk d + 1
 end
def uptoSmall : (H : Type) → List (DataW H) → Bool := fun _ ds => decide (uptoBulkAll ds ≤ 1048576)
def OpenSpec.upto (s : _root_.Go.ChangeSpec) : _root_.Go.OpenSpec := { _root_.Go.OpenSpec.ofChange s with cond := some uptoSmall }

/-- 'bulkheadlaw13.BundleEncodes', WHERE WHAT IT READS IS OF BULK AT MOST 1048576: true; the input reads as it did. -/
def bundleEncodesUptoRow : OpenClaim := { program := "ytmfkggngjeolcaagreatdoor", sum := "756897542c8c78f4d22a532765bdca0839afe8c0e3997a990faf1becb3a97740", func := "bulkhead/bulkheadlaw13.BundleEncodes", spec := "bundleEncodes", unfollowed := true, recurses := true, named := ["bulkhead/word.fourBits"], apart := false, laid := [("bulkhead/word.fourBits", laid_bulkhead_word_fourBits)], narrowed := true }
def BundleEncodesUptoSaid : Prop := bundleEncodesUptoRow.holds Tryz.pinned (OpenSpec.upto bundleEncodesSpec)

/-- 'bulkheadlaw13.BundleDecodes', WHERE WHAT IT READS IS OF BULK AT MOST 1048576: true; the input reads as it did. -/
def bundleDecodesUptoRow : OpenClaim := { program := "ytmfkggngjeolcaagreatdoor", sum := "756897542c8c78f4d22a532765bdca0839afe8c0e3997a990faf1becb3a97740", func := "bulkhead/bulkheadlaw13.BundleDecodes", spec := "bundleDecodes", unfollowed := true, recurses := true, named := ["bulkhead/word.fourBits"], apart := false, laid := [("bulkhead/word.fourBits", laid_bulkhead_word_fourBits)], narrowed := true }
def BundleDecodesUptoSaid : Prop := bundleDecodesUptoRow.holds Tryz.pinned (OpenSpec.upto bundleDecodesSpec)

end Rows
end Go.Proofs.YtmfkggngjeolcaaGreatDoor
