/-
  NARROWER THAN 'FOR EVERY INPUT', by the rows' own cells (each row's printed sentence says how): ClusterPlaces: laid · ClusterLists: laid · ClusterWalks: laid · ClusterSteps: laid · ClusterNear: laid · ClusterSums: laid.
  DERIVED. THE GIVEN ROWS OF THIS SEAT. 6 by the template 'for every input the law returns true; each argument reads behind the call as it read before'; 0 by the template 'total and deterministic' (their statements: YtjgeeimkcghmoaaDoorTotals.lean).
  GIVEN WITH THE SEED: the statements are not yours to turn. If you find one false, say at which input.
  Laid BY PROGRAM, IN A SANDBOX (cutbox-rows.mjs): the forced cells as the released guide's own fill.sh prints them over the translation a74aeb55005418b6… (all of the seat's roots in one cut). By AI agents, Wed Nov 11 2026. No macro, syntax, notation, axiom, sorry.
-/
import Derived.Test.YtjgeeimkcghmoaaDoorChecked
import GoSem.PinnedTables
import GoSem.Claim
import GoSem.ClaimJoined
import GoSem.ClaimMapViews
import Derived.JoinedTies
import Derived.KernelRfl
namespace Go.Proofs.YtjgeeimkcghmoaaDoor
/- THE CELL 'sum', in the pinned program and in every row, IS THE sha256 OF THE DUMP (.gsa) THAT YtjgeeimkcghmoaaDoorProg.lean LOADS. Nothing in Lean hashes anything: it is a label: what it is worth is what the hold of that sum in a sandbox is worth. -/
noncomputable def Tryd.pinned : Pinned := { name := "ytjgeeimkcghmoaadoor", sum := "a74aeb55005418b69e3b53b944328fd0aa05c73a5d47b8f9430e9b9a483af2da", checked := Tryd.checked }
namespace Rows
def none {H : Type} : Left H := { results := [], args := [] }

/- WHAT THE LISTED PACKAGE-LEVEL VARIABLES READ AS WHEN THE CALL BEGINS. Each datum BY PROGRAM (the guide's laid-datum.mjs) off the statement by which the dump's own 'gosem.cut.vars' lays the variable. In a bare row this is a premise. The card (YtjgeeimkcghmoaaDoorCards.lean) ties it to the program's text. -/
def laid_unicode_utf8_acceptRanges {H : Type} : DataW H := .agg [.agg [.lit (.int .u8 128), .lit (.int .u8 191)], .agg [.lit (.int .u8 160), .lit (.int .u8 191)], .agg [.lit (.int .u8 128), .lit (.int .u8 159)], .agg [.lit (.int .u8 144), .lit (.int .u8 191)], .agg [.lit (.int .u8 128), .lit (.int .u8 143)], .agg [.lit (.int .u8 0), .lit (.int .u8 0)], .agg [.lit (.int .u8 0), .lit (.int .u8 0)], .agg [.lit (.int .u8 0), .lit (.int .u8 0)], .agg [.lit (.int .u8 0), .lit (.int .u8 0)], .agg [.lit (.int .u8 0), .lit (.int .u8 0)], .agg [.lit (.int .u8 0), .lit (.int .u8 0)], .agg [.lit (.int .u8 0), .lit (.int .u8 0)], .agg [.lit (.int .u8 0), .lit (.int .u8 0)], .agg [.lit (.int .u8 0), .lit (.int .u8 0)], .agg [.lit (.int .u8 0), .lit (.int .u8 0)], .agg [.lit (.int .u8 0), .lit (.int .u8 0)]]
/-- One of Go's own tables, pinned by name: the form's constant. -/
def laid_unicode_utf8_first : DataW Unit := Go.Pinned.utf8First

/-- 'bodkinlaw03.ClusterPlaces': WHATEVER THE INPUT: true; the input reads as it did. -/
def clusterPlacesSpec : ChangeSpec := { name := "clusterPlaces", fn := fun _ => fun
  | [d] => { results := [.lit (.bool true)], args := [d] }
  | _ => none }
def clusterPlacesRow : OpenClaim := { program := "ytjgeeimkcghmoaadoor", sum := "a74aeb55005418b69e3b53b944328fd0aa05c73a5d47b8f9430e9b9a483af2da", func := "bodkin/bodkinlaw03.ClusterPlaces", spec := "clusterPlaces", inPlace := ["internal/abi.NoEscape"], unfollowed := true, recurses := true, named := ["unicode/utf8.first", "unicode/utf8.acceptRanges"], apart := false, laid := [("unicode/utf8.acceptRanges", laid_unicode_utf8_acceptRanges), ("unicode/utf8.first", laid_unicode_utf8_first)] }
def ClusterPlacesSaid : Prop := clusterPlacesRow.holds Tryd.pinned (OpenSpec.ofChange clusterPlacesSpec)

/-- ITS FALSE NEIGHBOUR: 'it returns false'. Refute it at one input. -/
def clusterPlacesWrong : ChangeSpec := { name := "clusterPlaces", fn := fun _ => fun
  | [d] => { results := [.lit (.bool false)], args := [d] }
  | _ => none }
def ClusterPlacesWrongFalsely : Prop := clusterPlacesRow.holds Tryd.pinned (OpenSpec.ofChange clusterPlacesWrong)

/-- 'bodkinlaw03.ClusterLists': WHATEVER THE INPUT: true; the input reads as it did. -/
def clusterListsSpec : ChangeSpec := { name := "clusterLists", fn := fun _ => fun
  | [d] => { results := [.lit (.bool true)], args := [d] }
  | _ => none }
def clusterListsRow : OpenClaim := { program := "ytjgeeimkcghmoaadoor", sum := "a74aeb55005418b69e3b53b944328fd0aa05c73a5d47b8f9430e9b9a483af2da", func := "bodkin/bodkinlaw03.ClusterLists", spec := "clusterLists", inPlace := ["internal/abi.NoEscape"], unfollowed := true, recurses := true, named := ["unicode/utf8.first", "unicode/utf8.acceptRanges"], apart := false, laid := [("unicode/utf8.acceptRanges", laid_unicode_utf8_acceptRanges), ("unicode/utf8.first", laid_unicode_utf8_first)] }
def ClusterListsSaid : Prop := clusterListsRow.holds Tryd.pinned (OpenSpec.ofChange clusterListsSpec)

/-- ITS FALSE NEIGHBOUR: 'it returns false'. Refute it at one input. -/
def clusterListsWrong : ChangeSpec := { name := "clusterLists", fn := fun _ => fun
  | [d] => { results := [.lit (.bool false)], args := [d] }
  | _ => none }
def ClusterListsWrongFalsely : Prop := clusterListsRow.holds Tryd.pinned (OpenSpec.ofChange clusterListsWrong)

/-- 'bodkinlaw03.ClusterWalks': WHATEVER THE INPUT: true; the input reads as it did. -/
def clusterWalksSpec : ChangeSpec := { name := "clusterWalks", fn := fun _ => fun
  | [d1, d2] => { results := [.lit (.bool true)], args := [d1, d2] }
  | _ => none }
def clusterWalksRow : OpenClaim := { program := "ytjgeeimkcghmoaadoor", sum := "a74aeb55005418b69e3b53b944328fd0aa05c73a5d47b8f9430e9b9a483af2da", func := "bodkin/bodkinlaw03.ClusterWalks", spec := "clusterWalks", inPlace := ["internal/abi.NoEscape"], unfollowed := true, recurses := true, named := ["unicode/utf8.first", "unicode/utf8.acceptRanges"], apart := false, laid := [("unicode/utf8.acceptRanges", laid_unicode_utf8_acceptRanges), ("unicode/utf8.first", laid_unicode_utf8_first)] }
def ClusterWalksSaid : Prop := clusterWalksRow.holds Tryd.pinned (OpenSpec.ofChange clusterWalksSpec)

/-- ITS FALSE NEIGHBOUR: 'it returns false'. Refute it at one input. -/
def clusterWalksWrong : ChangeSpec := { name := "clusterWalks", fn := fun _ => fun
  | [d1, d2] => { results := [.lit (.bool false)], args := [d1, d2] }
  | _ => none }
def ClusterWalksWrongFalsely : Prop := clusterWalksRow.holds Tryd.pinned (OpenSpec.ofChange clusterWalksWrong)

/-- 'bodkinlaw03.ClusterSteps': WHATEVER THE INPUT: true; the input reads as it did. -/
def clusterStepsSpec : ChangeSpec := { name := "clusterSteps", fn := fun _ => fun
  | [d] => { results := [.lit (.bool true)], args := [d] }
  | _ => none }
def clusterStepsRow : OpenClaim := { program := "ytjgeeimkcghmoaadoor", sum := "a74aeb55005418b69e3b53b944328fd0aa05c73a5d47b8f9430e9b9a483af2da", func := "bodkin/bodkinlaw03.ClusterSteps", spec := "clusterSteps", inPlace := ["internal/abi.NoEscape"], unfollowed := true, recurses := true, named := ["unicode/utf8.first", "unicode/utf8.acceptRanges"], apart := false, laid := [("unicode/utf8.acceptRanges", laid_unicode_utf8_acceptRanges), ("unicode/utf8.first", laid_unicode_utf8_first)] }
def ClusterStepsSaid : Prop := clusterStepsRow.holds Tryd.pinned (OpenSpec.ofChange clusterStepsSpec)

/-- ITS FALSE NEIGHBOUR: 'it returns false'. Refute it at one input. -/
def clusterStepsWrong : ChangeSpec := { name := "clusterSteps", fn := fun _ => fun
  | [d] => { results := [.lit (.bool false)], args := [d] }
  | _ => none }
def ClusterStepsWrongFalsely : Prop := clusterStepsRow.holds Tryd.pinned (OpenSpec.ofChange clusterStepsWrong)

/-- 'bodkinlaw03.ClusterNear': WHATEVER THE INPUT: true; the input reads as it did. -/
def clusterNearSpec : ChangeSpec := { name := "clusterNear", fn := fun _ => fun
  | [d1, d2, d3] => { results := [.lit (.bool true)], args := [d1, d2, d3] }
  | _ => none }
def clusterNearRow : OpenClaim := { program := "ytjgeeimkcghmoaadoor", sum := "a74aeb55005418b69e3b53b944328fd0aa05c73a5d47b8f9430e9b9a483af2da", func := "bodkin/bodkinlaw03.ClusterNear", spec := "clusterNear", inPlace := ["internal/abi.NoEscape"], unfollowed := true, recurses := true, named := ["unicode/utf8.first", "unicode/utf8.acceptRanges"], apart := false, laid := [("unicode/utf8.acceptRanges", laid_unicode_utf8_acceptRanges), ("unicode/utf8.first", laid_unicode_utf8_first)] }
def ClusterNearSaid : Prop := clusterNearRow.holds Tryd.pinned (OpenSpec.ofChange clusterNearSpec)

/-- ITS FALSE NEIGHBOUR: 'it returns false'. Refute it at one input. -/
def clusterNearWrong : ChangeSpec := { name := "clusterNear", fn := fun _ => fun
  | [d1, d2, d3] => { results := [.lit (.bool false)], args := [d1, d2, d3] }
  | _ => none }
def ClusterNearWrongFalsely : Prop := clusterNearRow.holds Tryd.pinned (OpenSpec.ofChange clusterNearWrong)

/-- 'bodkinlaw03.ClusterSums': WHATEVER THE INPUT: true; the input reads as it did. -/
def clusterSumsSpec : ChangeSpec := { name := "clusterSums", fn := fun _ => fun
  | [d1, d2] => { results := [.lit (.bool true)], args := [d1, d2] }
  | _ => none }
def clusterSumsRow : OpenClaim := { program := "ytjgeeimkcghmoaadoor", sum := "a74aeb55005418b69e3b53b944328fd0aa05c73a5d47b8f9430e9b9a483af2da", func := "bodkin/bodkinlaw03.ClusterSums", spec := "clusterSums", inPlace := ["internal/abi.NoEscape"], unfollowed := true, recurses := true, named := ["unicode/utf8.first", "unicode/utf8.acceptRanges"], apart := false, laid := [("unicode/utf8.acceptRanges", laid_unicode_utf8_acceptRanges), ("unicode/utf8.first", laid_unicode_utf8_first)] }
def ClusterSumsSaid : Prop := clusterSumsRow.holds Tryd.pinned (OpenSpec.ofChange clusterSumsSpec)

/-- ITS FALSE NEIGHBOUR: 'it returns false'. Refute it at one input. -/
def clusterSumsWrong : ChangeSpec := { name := "clusterSums", fn := fun _ => fun
  | [d1, d2] => { results := [.lit (.bool false)], args := [d1, d2] }
  | _ => none }
def ClusterSumsWrongFalsely : Prop := clusterSumsRow.holds Tryd.pinned (OpenSpec.ofChange clusterSumsWrong)

/- THE SECOND FORM. 'bulk': how many values and letters a reading holds, each counted each time it is reached (what is shared counts as often as it is met; a slice's spare places count too). A statement '..UptoSaid' is the law's where the arguments, and the package variables that the reading takes, are together of bulk at most 1048576: NARROWER than '..Said'. Prove '..Said' where nothing that the law and all that it calls make is longer than what came in: it says more and counts as full. Else prove '..UptoSaid'. A law counts once. -/
mutual
def uptoBulk {H : Type} : DataW H → Nat
  | .lit (.string bytes) => bytes.length + 1
  | .lit _ => 1
  | .nil => 1
  | .ptr d => uptoBulk d + 1
  | .slice elems spare => uptoBulkAll elems + uptoBulkAll spare + 1
  | .agg parts => uptoBulkAll parts + 1
  | .iface _ d => uptoBulk d + 1
  | .map entries => uptoBulkEntries entries + 1
  | .held _ => 1
def uptoBulkAll {H : Type} : List (DataW H) → Nat
  | [] => 0
  | d :: r => uptoBulk d + uptoBulkAll r
def uptoBulkEntries {H : Type} : List (Lit × DataW H) → Nat
  | [] => 0
  | x :: r => uptoBulkEntry x + uptoBulkEntries r
def uptoBulkEntry {H : Type} : Lit × DataW H → Nat
  | (.string bytes, d) => bytes.length + uptoBulk d + 1
  | (_, d) => uptoBulk d + 1
 end
def uptoSmall : (H : Type) → List (DataW H) → Bool := fun _ ds => decide (uptoBulkAll ds ≤ 1048576)
def OpenSpec.upto (s : _root_.Go.ChangeSpec) : _root_.Go.OpenSpec := { _root_.Go.OpenSpec.ofChange s with cond := some uptoSmall }

/-- 'bodkinlaw03.ClusterPlaces', WHERE WHAT IT READS IS OF BULK AT MOST 1048576: true; the input reads as it did. -/
def clusterPlacesUptoRow : OpenClaim := { program := "ytjgeeimkcghmoaadoor", sum := "a74aeb55005418b69e3b53b944328fd0aa05c73a5d47b8f9430e9b9a483af2da", func := "bodkin/bodkinlaw03.ClusterPlaces", spec := "clusterPlaces", inPlace := ["internal/abi.NoEscape"], unfollowed := true, recurses := true, named := ["unicode/utf8.first", "unicode/utf8.acceptRanges"], apart := false, laid := [("unicode/utf8.acceptRanges", laid_unicode_utf8_acceptRanges), ("unicode/utf8.first", laid_unicode_utf8_first)], narrowed := true }
def ClusterPlacesUptoSaid : Prop := clusterPlacesUptoRow.holds Tryd.pinned (OpenSpec.upto clusterPlacesSpec)

/-- 'bodkinlaw03.ClusterLists', WHERE WHAT IT READS IS OF BULK AT MOST 1048576: true; the input reads as it did. -/
def clusterListsUptoRow : OpenClaim := { program := "ytjgeeimkcghmoaadoor", sum := "a74aeb55005418b69e3b53b944328fd0aa05c73a5d47b8f9430e9b9a483af2da", func := "bodkin/bodkinlaw03.ClusterLists", spec := "clusterLists", inPlace := ["internal/abi.NoEscape"], unfollowed := true, recurses := true, named := ["unicode/utf8.first", "unicode/utf8.acceptRanges"], apart := false, laid := [("unicode/utf8.acceptRanges", laid_unicode_utf8_acceptRanges), ("unicode/utf8.first", laid_unicode_utf8_first)], narrowed := true }
def ClusterListsUptoSaid : Prop := clusterListsUptoRow.holds Tryd.pinned (OpenSpec.upto clusterListsSpec)

/-- 'bodkinlaw03.ClusterWalks', WHERE WHAT IT READS IS OF BULK AT MOST 1048576: true; the input reads as it did. -/
def clusterWalksUptoRow : OpenClaim := { program := "ytjgeeimkcghmoaadoor", sum := "a74aeb55005418b69e3b53b944328fd0aa05c73a5d47b8f9430e9b9a483af2da", func := "bodkin/bodkinlaw03.ClusterWalks", spec := "clusterWalks", inPlace := ["internal/abi.NoEscape"], unfollowed := true, recurses := true, named := ["unicode/utf8.first", "unicode/utf8.acceptRanges"], apart := false, laid := [("unicode/utf8.acceptRanges", laid_unicode_utf8_acceptRanges), ("unicode/utf8.first", laid_unicode_utf8_first)], narrowed := true }
def ClusterWalksUptoSaid : Prop := clusterWalksUptoRow.holds Tryd.pinned (OpenSpec.upto clusterWalksSpec)

/-- 'bodkinlaw03.ClusterSteps', WHERE WHAT IT READS IS OF BULK AT MOST 1048576: true; the input reads as it did. -/
def clusterStepsUptoRow : OpenClaim := { program := "ytjgeeimkcghmoaadoor", sum := "a74aeb55005418b69e3b53b944328fd0aa05c73a5d47b8f9430e9b9a483af2da", func := "bodkin/bodkinlaw03.ClusterSteps", spec := "clusterSteps", inPlace := ["internal/abi.NoEscape"], unfollowed := true, recurses := true, named := ["unicode/utf8.first", "unicode/utf8.acceptRanges"], apart := false, laid := [("unicode/utf8.acceptRanges", laid_unicode_utf8_acceptRanges), ("unicode/utf8.first", laid_unicode_utf8_first)], narrowed := true }
def ClusterStepsUptoSaid : Prop := clusterStepsUptoRow.holds Tryd.pinned (OpenSpec.upto clusterStepsSpec)

/-- 'bodkinlaw03.ClusterNear', WHERE WHAT IT READS IS OF BULK AT MOST 1048576: true; the input reads as it did. -/
def clusterNearUptoRow : OpenClaim := { program := "ytjgeeimkcghmoaadoor", sum := "a74aeb55005418b69e3b53b944328fd0aa05c73a5d47b8f9430e9b9a483af2da", func := "bodkin/bodkinlaw03.ClusterNear", spec := "clusterNear", inPlace := ["internal/abi.NoEscape"], unfollowed := true, recurses := true, named := ["unicode/utf8.first", "unicode/utf8.acceptRanges"], apart := false, laid := [("unicode/utf8.acceptRanges", laid_unicode_utf8_acceptRanges), ("unicode/utf8.first", laid_unicode_utf8_first)], narrowed := true }
def ClusterNearUptoSaid : Prop := clusterNearUptoRow.holds Tryd.pinned (OpenSpec.upto clusterNearSpec)

/-- 'bodkinlaw03.ClusterSums', WHERE WHAT IT READS IS OF BULK AT MOST 1048576: true; the input reads as it did. -/
def clusterSumsUptoRow : OpenClaim := { program := "ytjgeeimkcghmoaadoor", sum := "a74aeb55005418b69e3b53b944328fd0aa05c73a5d47b8f9430e9b9a483af2da", func := "bodkin/bodkinlaw03.ClusterSums", spec := "clusterSums", inPlace := ["internal/abi.NoEscape"], unfollowed := true, recurses := true, named := ["unicode/utf8.first", "unicode/utf8.acceptRanges"], apart := false, laid := [("unicode/utf8.acceptRanges", laid_unicode_utf8_acceptRanges), ("unicode/utf8.first", laid_unicode_utf8_first)], narrowed := true }
def ClusterSumsUptoSaid : Prop := clusterSumsUptoRow.holds Tryd.pinned (OpenSpec.upto clusterSumsSpec)

end Rows
end Go.Proofs.YtjgeeimkcghmoaaDoor
