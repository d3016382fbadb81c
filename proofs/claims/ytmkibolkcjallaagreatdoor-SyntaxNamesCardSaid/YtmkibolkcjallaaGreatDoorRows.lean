/-
  NARROWER THAN 'FOR EVERY INPUT', by the rows' own cells (each row's printed sentence says how): SyntaxNames: laid · SyntaxPlaces: laid.
  DERIVED. THE GIVEN ROWS OF THIS SEAT. 2 by the template 'for every input the law returns true; each argument reads behind the call as it read before'; 0 by the template 'total and deterministic' (their statements: YtmkibolkcjallaaGreatDoorTotals.lean).
  GIVEN WITH THE SEED: the statements are not yours to turn. If you find one false, say at which input.
  Laid BY PROGRAM, IN A SANDBOX (cutbox-rows.mjs): the forced cells as the released guide's own fill.sh prints them over the translation ca8bbdbf3252f2c0… (all of the seat's roots in one cut). By AI agents, Wed Nov 11 2026. No macro, syntax, notation, axiom, sorry.
-/
import Derived.Test.YtmkibolkcjallaaGreatDoorChecked
import GoSem.Claim
import GoSem.ClaimJoined
import GoSem.ClaimMapViews
import Derived.JoinedTies
import Derived.KernelRfl
namespace Go.Proofs.YtmkibolkcjallaaGreatDoor
/- THE CELL 'sum', in the pinned program and in every row, IS THE sha256 OF THE DUMP (.gsa) THAT YtmkibolkcjallaaGreatDoorProg.lean LOADS. Nothing in Lean hashes anything: it is a label: what it is worth is what the hold of that sum in a sandbox is worth. -/
noncomputable def Tryz.pinned : Pinned := { name := "ytmkibolkcjallaagreatdoor", sum := "ca8bbdbf3252f2c09ebcfac06862bda96443a94ed2e406f230bcadf8384a1209", checked := Tryz.checked }
namespace Rows
def none {H : Type} : Left H := { results := [], args := [] }

/- WHAT THE LISTED PACKAGE-LEVEL VARIABLES READ AS WHEN THE CALL BEGINS. Each datum BY PROGRAM (the guide's laid-datum.mjs) off the statement by which the dump's own 'gosem.cut.vars' lays the variable. In a bare row this is a premise. The card (YtmkibolkcjallaaGreatDoorCards.lean) ties it to the program's text. -/
def laid_bulkhead_scan_classes {H : Type} : DataW H := .agg [.lit (.int .u8 0), .lit (.int .u8 0), .lit (.int .u8 0), .lit (.int .u8 0), .lit (.int .u8 0), .lit (.int .u8 0), .lit (.int .u8 0), .lit (.int .u8 0), .lit (.int .u8 0), .lit (.int .u8 1), .lit (.int .u8 1), .lit (.int .u8 0), .lit (.int .u8 0), .lit (.int .u8 1), .lit (.int .u8 0), .lit (.int .u8 0), .lit (.int .u8 0), .lit (.int .u8 0), .lit (.int .u8 0), .lit (.int .u8 0), .lit (.int .u8 0), .lit (.int .u8 0), .lit (.int .u8 0), .lit (.int .u8 0), .lit (.int .u8 0), .lit (.int .u8 0), .lit (.int .u8 0), .lit (.int .u8 0), .lit (.int .u8 0), .lit (.int .u8 0), .lit (.int .u8 0), .lit (.int .u8 0), .lit (.int .u8 1), .lit (.int .u8 4), .lit (.int .u8 3), .lit (.int .u8 2), .lit (.int .u8 0), .lit (.int .u8 4), .lit (.int .u8 4), .lit (.int .u8 0), .lit (.int .u8 4), .lit (.int .u8 4), .lit (.int .u8 4), .lit (.int .u8 4), .lit (.int .u8 4), .lit (.int .u8 4), .lit (.int .u8 4), .lit (.int .u8 4), .lit (.int .u8 6), .lit (.int .u8 6), .lit (.int .u8 6), .lit (.int .u8 6), .lit (.int .u8 6), .lit (.int .u8 6), .lit (.int .u8 6), .lit (.int .u8 6), .lit (.int .u8 6), .lit (.int .u8 6), .lit (.int .u8 0), .lit (.int .u8 4), .lit (.int .u8 4), .lit (.int .u8 4), .lit (.int .u8 4), .lit (.int .u8 0), .lit (.int .u8 0), .lit (.int .u8 5), .lit (.int .u8 5), .lit (.int .u8 5), .lit (.int .u8 5), .lit (.int .u8 5), .lit (.int .u8 5), .lit (.int .u8 5), .lit (.int .u8 5), .lit (.int .u8 5), .lit (.int .u8 5), .lit (.int .u8 5), .lit (.int .u8 5), .lit (.int .u8 5), .lit (.int .u8 5), .lit (.int .u8 5), .lit (.int .u8 5), .lit (.int .u8 5), .lit (.int .u8 5), .lit (.int .u8 5), .lit (.int .u8 5), .lit (.int .u8 5), .lit (.int .u8 5), .lit (.int .u8 5), .lit (.int .u8 5), .lit (.int .u8 5), .lit (.int .u8 5), .lit (.int .u8 4), .lit (.int .u8 0), .lit (.int .u8 4), .lit (.int .u8 4), .lit (.int .u8 5), .lit (.int .u8 0), .lit (.int .u8 5), .lit (.int .u8 5), .lit (.int .u8 5), .lit (.int .u8 5), .lit (.int .u8 5), .lit (.int .u8 5), .lit (.int .u8 5), .lit (.int .u8 5), .lit (.int .u8 5), .lit (.int .u8 5), .lit (.int .u8 5), .lit (.int .u8 5), .lit (.int .u8 5), .lit (.int .u8 5), .lit (.int .u8 5), .lit (.int .u8 5), .lit (.int .u8 5), .lit (.int .u8 5), .lit (.int .u8 5), .lit (.int .u8 5), .lit (.int .u8 5), .lit (.int .u8 5), .lit (.int .u8 5), .lit (.int .u8 5), .lit (.int .u8 5), .lit (.int .u8 5), .lit (.int .u8 4), .lit (.int .u8 4), .lit (.int .u8 4), .lit (.int .u8 0), .lit (.int .u8 0)]
def laid_bulkhead_scan_signs {H : Type} : DataW H := .agg [.lit (.string [123]), .lit (.string [125]), .lit (.string [91]), .lit (.string [93]), .lit (.string [40]), .lit (.string [41]), .lit (.string [59]), .lit (.string [44]), .lit (.string [46, 46]), .lit (.string [61]), .lit (.string [61, 61]), .lit (.string [33, 61]), .lit (.string [60]), .lit (.string [60, 61]), .lit (.string [62]), .lit (.string [62, 61]), .lit (.string [124]), .lit (.string [94]), .lit (.string [38]), .lit (.string [60, 60]), .lit (.string [62, 62]), .lit (.string [43]), .lit (.string [45]), .lit (.string [42]), .lit (.string [47]), .lit (.string [37])]
def laid_bulkhead_scan_reserved {H : Type} : DataW H := .agg [.lit (.string [115, 121, 115, 116, 101, 109]), .lit (.string [99, 111, 110, 115, 116]), .lit (.string [101, 97, 99, 104]), .lit (.string [105, 110]), .lit (.string [105, 102]), .lit (.string [101, 108, 115, 101]), .lit (.string [97, 115, 115, 101, 114, 116]), .lit (.string [103, 114, 111, 117, 112]), .lit (.string [117, 115, 101]), .lit (.string [114, 97, 109]), .lit (.string [115, 105, 122, 101]), .lit (.string [100, 101, 118, 105, 99, 101]), .lit (.string [97, 116]), .lit (.string [100, 109, 97]), .lit (.string [114, 101, 103, 105, 111, 110]), .lit (.string [98, 105, 103]), .lit (.string [119, 120]), .lit (.string [102, 105, 108, 108]), .lit (.string [115, 117, 98, 106, 101, 99, 116]), .lit (.string [99, 112, 117]), .lit (.string [115, 116, 111, 112, 112, 101, 100]), .lit (.string [109, 97, 112]), .lit (.string [119, 114, 105, 116, 101]), .lit (.string [101, 120, 101, 99]), .lit (.string [102, 97, 117, 108, 116]), .lit (.string [115, 116, 111, 112]), .lit (.string [114, 101, 115, 101, 116]), .lit (.string [116, 101, 108, 108]), .lit (.string [118, 101, 99, 116, 111, 114]), .lit (.string [99, 104, 97, 110, 110, 101, 108]), .lit (.string [102, 114, 111, 109]), .lit (.string [116, 111]), .lit (.string [111, 118, 101, 114]), .lit (.string [115, 116, 97, 114, 116]), .lit (.string [105, 114, 113]), .lit (.string [109, 97, 115, 107, 101, 100]), .lit (.string [112, 108, 97, 110]), .lit (.string [109, 97, 106, 111, 114]), .lit (.string [114, 117, 110]), .lit (.string [105, 100, 108, 101]), .lit (.string [110, 101, 101, 100, 115]), .lit (.string [110, 101, 101, 100]), .lit (.string [101, 118, 101, 114, 121]), .lit (.string [109, 97, 115, 116, 101, 114])]

/-- 'bulkheadlaw6.SyntaxNames': WHATEVER THE INPUT: true; the input reads as it did. -/
def syntaxNamesSpec : ChangeSpec := { name := "syntaxNames", fn := fun _ => fun
  | [] => { results := [.lit (.bool true)], args := [] }
  | _ => none }
def syntaxNamesRow : OpenClaim := { program := "ytmkibolkcjallaagreatdoor", sum := "ca8bbdbf3252f2c09ebcfac06862bda96443a94ed2e406f230bcadf8384a1209", func := "bulkhead/bulkheadlaw6.SyntaxNames", spec := "syntaxNames", inPlace := ["internal/bytealg.Count", "internal/bytealg.IndexByte", "internal/bytealg.Index"], unfollowed := true, recurses := true, named := ["internal/bytealg.MaxLen", "bulkhead/scan.classes", "bulkhead/scan.reserved", "bulkhead/scan.signs"], apart := false, laid := [("bulkhead/scan.classes", laid_bulkhead_scan_classes), ("bulkhead/scan.signs", laid_bulkhead_scan_signs), ("bulkhead/scan.reserved", laid_bulkhead_scan_reserved)] }
def SyntaxNamesSaid : Prop := syntaxNamesRow.holds Tryz.pinned (OpenSpec.ofChange syntaxNamesSpec)

/-- ITS FALSE NEIGHBOUR: 'it returns false'. Refute it at one input. -/
def syntaxNamesWrong : ChangeSpec := { name := "syntaxNames", fn := fun _ => fun
  | [] => { results := [.lit (.bool false)], args := [] }
  | _ => none }
def SyntaxNamesWrongFalsely : Prop := syntaxNamesRow.holds Tryz.pinned (OpenSpec.ofChange syntaxNamesWrong)

/-- 'bulkheadlaw6.SyntaxPlaces': WHATEVER THE INPUT: true; the input reads as it did. -/
def syntaxPlacesSpec : ChangeSpec := { name := "syntaxPlaces", fn := fun _ => fun
  | [d1, d2] => { results := [.lit (.bool true)], args := [d1, d2] }
  | _ => none }
def syntaxPlacesRow : OpenClaim := { program := "ytmkibolkcjallaagreatdoor", sum := "ca8bbdbf3252f2c09ebcfac06862bda96443a94ed2e406f230bcadf8384a1209", func := "bulkhead/bulkheadlaw6.SyntaxPlaces", spec := "syntaxPlaces", inPlace := ["internal/bytealg.Count", "internal/bytealg.IndexByte", "internal/bytealg.Index"], unfollowed := true, recurses := true, named := ["internal/bytealg.MaxLen", "bulkhead/scan.classes", "bulkhead/scan.reserved", "bulkhead/scan.signs"], apart := false, laid := [("bulkhead/scan.classes", laid_bulkhead_scan_classes), ("bulkhead/scan.signs", laid_bulkhead_scan_signs), ("bulkhead/scan.reserved", laid_bulkhead_scan_reserved)] }
def SyntaxPlacesSaid : Prop := syntaxPlacesRow.holds Tryz.pinned (OpenSpec.ofChange syntaxPlacesSpec)

/-- ITS FALSE NEIGHBOUR: 'it returns false'. Refute it at one input. -/
def syntaxPlacesWrong : ChangeSpec := { name := "syntaxPlaces", fn := fun _ => fun
  | [d1, d2] => { results := [.lit (.bool false)], args := [d1, d2] }
  | _ => none }
def SyntaxPlacesWrongFalsely : Prop := syntaxPlacesRow.holds Tryz.pinned (OpenSpec.ofChange syntaxPlacesWrong)

/- THE SECOND FORM. 'bulk': how many values and letters a reading holds, each counted each time it is reached (what is shared counts as often as it is met; a slice's spare places count too). A statement '..UptoSaid' is the law's where the arguments, and the package variables that the reading takes, are together of bulk at most 1048576: NARROWER than '..Said'. Prove '..Said' where nothing that the law and all that it calls make is longer than what came in: it says more and counts as full. Else prove '..UptoSaid'. A law counts once. -/
mutual
def uptoBulk {H : Type} : DataW H → Nat
  | .lit (.string bytes) => bytes.length + 1
  | .lit _ => 1
  | .nil => 1
  | .ptr d => uptoBulk d + 1
  | .slice elems spare => uptoBulkAll elems + uptoBulkAll spare + 1
  | .agg parts => uptoBulkAll parts + 1
  | .iface _ d => uptoBulk d + 1
  | .map entries => uptoBulkEntries entries + 1
  | .held _ => 1
def uptoBulkAll {H : Type} : List (DataW H) → Nat
  | [] => 0
  | d :: r => uptoBulk d + uptoBulkAll r
def uptoBulkEntries {H : Type} : List (Lit × DataW H) → Nat
  | [] => 0
  | x :: r => uptoBulkEntry x + uptoBulkEntries r
def uptoBulkEntry {H : Type} : Lit × DataW H → Nat
  | (.string bytes, d) => bytes.length + uptoBulk d + 1
  | (_, d) => uptoBulk d + 1
 end
def uptoSmall : (H : Type) → List (DataW H) → Bool := fun _ ds => decide (uptoBulkAll ds ≤ 1048576)
def OpenSpec.upto (s : _root_.Go.ChangeSpec) : _root_.Go.OpenSpec := { _root_.Go.OpenSpec.ofChange s with cond := some uptoSmall }

/-- 'bulkheadlaw6.SyntaxNames', WHERE WHAT IT READS IS OF BULK AT MOST 1048576: true; the input reads as it did. -/
def syntaxNamesUptoRow : OpenClaim := { program := "ytmkibolkcjallaagreatdoor", sum := "ca8bbdbf3252f2c09ebcfac06862bda96443a94ed2e406f230bcadf8384a1209", func := "bulkhead/bulkheadlaw6.SyntaxNames", spec := "syntaxNames", inPlace := ["internal/bytealg.Count", "internal/bytealg.IndexByte", "internal/bytealg.Index"], unfollowed := true, recurses := true, named := ["internal/bytealg.MaxLen", "bulkhead/scan.classes", "bulkhead/scan.reserved", "bulkhead/scan.signs"], apart := false, laid := [("bulkhead/scan.classes", laid_bulkhead_scan_classes), ("bulkhead/scan.signs", laid_bulkhead_scan_signs), ("bulkhead/scan.reserved", laid_bulkhead_scan_reserved)], narrowed := true }
def SyntaxNamesUptoSaid : Prop := syntaxNamesUptoRow.holds Tryz.pinned (OpenSpec.upto syntaxNamesSpec)

/-- 'bulkheadlaw6.SyntaxPlaces', WHERE WHAT IT READS IS OF BULK AT MOST 1048576: true; the input reads as it did. -/
def syntaxPlacesUptoRow : OpenClaim := { program := "ytmkibolkcjallaagreatdoor", sum := "ca8bbdbf3252f2c09ebcfac06862bda96443a94ed2e406f230bcadf8384a1209", func := "bulkhead/bulkheadlaw6.SyntaxPlaces", spec := "syntaxPlaces", inPlace := ["internal/bytealg.Count", "internal/bytealg.IndexByte", "internal/bytealg.Index"], unfollowed := true, recurses := true, named := ["internal/bytealg.MaxLen", "bulkhead/scan.classes", "bulkhead/scan.reserved", "bulkhead/scan.signs"], apart := false, laid := [("bulkhead/scan.classes", laid_bulkhead_scan_classes), ("bulkhead/scan.signs", laid_bulkhead_scan_signs), ("bulkhead/scan.reserved", laid_bulkhead_scan_reserved)], narrowed := true }
def SyntaxPlacesUptoSaid : Prop := syntaxPlacesUptoRow.holds Tryz.pinned (OpenSpec.upto syntaxPlacesSpec)

end Rows
end Go.Proofs.YtmkibolkcjallaaGreatDoor
