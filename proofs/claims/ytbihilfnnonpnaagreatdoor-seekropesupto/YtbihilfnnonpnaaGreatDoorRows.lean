/-
  NARROWER THAN 'FOR EVERY INPUT', by the rows' own cells (each row's printed sentence says how): RopeLeaves: laid · RopeWalks: laid · SeekTrees: laid · SeekRopes: laid.
  DERIVED. THE GIVEN ROWS OF THIS SEAT. 4 by the template 'for every input the law returns true; each argument reads behind the call as it read before'; 0 by the template 'total and deterministic' (their statements: YtbihilfnnonpnaaGreatDoorTotals.lean).
  GIVEN WITH THE SEED: the statements are not yours to turn. If you find one false, say at which input.
  Laid BY PROGRAM, IN A SANDBOX (cutbox-rows.mjs): the forced cells as the released guide's own fill.sh prints them over the translation 2416f3c0ddb7b141… (all of the seat's roots in one cut). By AI agents, Wed Nov 11 2026. No macro, syntax, notation, axiom, sorry.
-/
import Derived.Test.YtbihilfnnonpnaaGreatDoorChecked
import GoSem.PinnedTables
import GoSem.Claim
import GoSem.ClaimJoined
import GoSem.ClaimMapViews
import Derived.JoinedTies
import Derived.KernelRfl
namespace Go.Proofs.YtbihilfnnonpnaaGreatDoor
/- THE CELL 'sum', in the pinned program and in every row, IS THE sha256 OF THE DUMP (.gsa) THAT YtbihilfnnonpnaaGreatDoorProg.lean LOADS. Nothing in Lean hashes anything: it is a label: what it is worth is what the hold of that sum in a sandbox is worth. -/
noncomputable def Tryz.pinned : Pinned := { name := "ytbihilfnnonpnaagreatdoor", sum := "2416f3c0ddb7b141c36f59af89b7bfb1653ee70809fe7fa7df9099fca359ffd4", checked := Tryz.checked }
namespace Rows
def none {H : Type} : Left H := { results := [], args := [] }

/- WHAT THE LISTED PACKAGE-LEVEL VARIABLES READ AS WHEN THE CALL BEGINS. Each datum BY PROGRAM (the guide's laid-datum.mjs) off the statement by which the dump's own 'gosem.cut.vars' lays the variable. In a bare row this is a premise. The card (YtbihilfnnonpnaaGreatDoorCards.lean) ties it to the program's text. -/
def laid_unicode_utf8_acceptRanges {H : Type} : DataW H := .agg [.agg [.lit (.int .u8 128), .lit (.int .u8 191)], .agg [.lit (.int .u8 160), .lit (.int .u8 191)], .agg [.lit (.int .u8 128), .lit (.int .u8 159)], .agg [.lit (.int .u8 144), .lit (.int .u8 191)], .agg [.lit (.int .u8 128), .lit (.int .u8 143)], .agg [.lit (.int .u8 0), .lit (.int .u8 0)], .agg [.lit (.int .u8 0), .lit (.int .u8 0)], .agg [.lit (.int .u8 0), .lit (.int .u8 0)], .agg [.lit (.int .u8 0), .lit (.int .u8 0)], .agg [.lit (.int .u8 0), .lit (.int .u8 0)], .agg [.lit (.int .u8 0), .lit (.int .u8 0)], .agg [.lit (.int .u8 0), .lit (.int .u8 0)], .agg [.lit (.int .u8 0), .lit (.int .u8 0)], .agg [.lit (.int .u8 0), .lit (.int .u8 0)], .agg [.lit (.int .u8 0), .lit (.int .u8 0)], .agg [.lit (.int .u8 0), .lit (.int .u8 0)]]
/-- One of Go's own tables, pinned by name: the form's constant. -/
def laid_unicode_utf8_first : DataW Unit := Go.Pinned.utf8First

/-- 'bodkinlaw07.RopeLeaves': WHATEVER THE INPUT: true; the input reads as it did. -/
def ropeLeavesSpec : ChangeSpec := { name := "ropeLeaves", fn := fun _ => fun
  | [d1, d2, d3] => { results := [.lit (.bool true)], args := [d1, d2, d3] }
  | _ => none }
def ropeLeavesRow : OpenClaim := { program := "ytbihilfnnonpnaagreatdoor", sum := "2416f3c0ddb7b141c36f59af89b7bfb1653ee70809fe7fa7df9099fca359ffd4", func := "bodkin/bodkinlaw07.RopeLeaves", spec := "ropeLeaves", inPlace := ["internal/abi.NoEscape", "internal/bytealg.MakeNoZero", "internal/bytealg.CountString", "internal/bytealg.IndexByteString", "internal/bytealg.IndexString"], unfollowed := true, recurses := true, named := ["unicode/utf8.first", "unicode/utf8.acceptRanges", "internal/bytealg.MaxLen"], apart := false, laid := [("unicode/utf8.acceptRanges", laid_unicode_utf8_acceptRanges), ("unicode/utf8.first", laid_unicode_utf8_first)] }
def RopeLeavesSaid : Prop := ropeLeavesRow.holds Tryz.pinned (OpenSpec.ofChange ropeLeavesSpec)

/-- ITS FALSE NEIGHBOUR: 'it returns false'. Refute it at one input. -/
def ropeLeavesWrong : ChangeSpec := { name := "ropeLeaves", fn := fun _ => fun
  | [d1, d2, d3] => { results := [.lit (.bool false)], args := [d1, d2, d3] }
  | _ => none }
def RopeLeavesWrongFalsely : Prop := ropeLeavesRow.holds Tryz.pinned (OpenSpec.ofChange ropeLeavesWrong)

/-- 'bodkinlaw07.RopeWalks': WHATEVER THE INPUT: true; the input reads as it did. -/
def ropeWalksSpec : ChangeSpec := { name := "ropeWalks", fn := fun _ => fun
  | [d1, d2, d3] => { results := [.lit (.bool true)], args := [d1, d2, d3] }
  | _ => none }
def ropeWalksRow : OpenClaim := { program := "ytbihilfnnonpnaagreatdoor", sum := "2416f3c0ddb7b141c36f59af89b7bfb1653ee70809fe7fa7df9099fca359ffd4", func := "bodkin/bodkinlaw07.RopeWalks", spec := "ropeWalks", inPlace := ["internal/abi.NoEscape", "internal/bytealg.MakeNoZero", "internal/bytealg.CountString", "internal/bytealg.IndexByteString", "internal/bytealg.IndexString"], unfollowed := true, recurses := true, named := ["unicode/utf8.first", "unicode/utf8.acceptRanges", "internal/bytealg.MaxLen"], apart := false, laid := [("unicode/utf8.acceptRanges", laid_unicode_utf8_acceptRanges), ("unicode/utf8.first", laid_unicode_utf8_first)] }
def RopeWalksSaid : Prop := ropeWalksRow.holds Tryz.pinned (OpenSpec.ofChange ropeWalksSpec)

/-- ITS FALSE NEIGHBOUR: 'it returns false'. Refute it at one input. -/
def ropeWalksWrong : ChangeSpec := { name := "ropeWalks", fn := fun _ => fun
  | [d1, d2, d3] => { results := [.lit (.bool false)], args := [d1, d2, d3] }
  | _ => none }
def RopeWalksWrongFalsely : Prop := ropeWalksRow.holds Tryz.pinned (OpenSpec.ofChange ropeWalksWrong)

/-- 'bodkinlaw08.SeekTrees': WHATEVER THE INPUT: true; the input reads as it did. -/
def seekTreesSpec : ChangeSpec := { name := "seekTrees", fn := fun _ => fun
  | [d1, d2, d3] => { results := [.lit (.bool true)], args := [d1, d2, d3] }
  | _ => none }
def seekTreesRow : OpenClaim := { program := "ytbihilfnnonpnaagreatdoor", sum := "2416f3c0ddb7b141c36f59af89b7bfb1653ee70809fe7fa7df9099fca359ffd4", func := "bodkin/bodkinlaw08.SeekTrees", spec := "seekTrees", inPlace := ["internal/bytealg.CountString", "internal/bytealg.IndexByteString", "internal/bytealg.IndexString"], unfollowed := true, recurses := true, named := ["unicode/utf8.first", "unicode/utf8.acceptRanges", "internal/bytealg.MaxLen"], apart := false, laid := [("unicode/utf8.acceptRanges", laid_unicode_utf8_acceptRanges), ("unicode/utf8.first", laid_unicode_utf8_first)] }
def SeekTreesSaid : Prop := seekTreesRow.holds Tryz.pinned (OpenSpec.ofChange seekTreesSpec)

/-- ITS FALSE NEIGHBOUR: 'it returns false'. Refute it at one input. -/
def seekTreesWrong : ChangeSpec := { name := "seekTrees", fn := fun _ => fun
  | [d1, d2, d3] => { results := [.lit (.bool false)], args := [d1, d2, d3] }
  | _ => none }
def SeekTreesWrongFalsely : Prop := seekTreesRow.holds Tryz.pinned (OpenSpec.ofChange seekTreesWrong)

/-- 'bodkinlaw08.SeekRopes': WHATEVER THE INPUT: true; the input reads as it did. -/
def seekRopesSpec : ChangeSpec := { name := "seekRopes", fn := fun _ => fun
  | [d1, d2, d3] => { results := [.lit (.bool true)], args := [d1, d2, d3] }
  | _ => none }
def seekRopesRow : OpenClaim := { program := "ytbihilfnnonpnaagreatdoor", sum := "2416f3c0ddb7b141c36f59af89b7bfb1653ee70809fe7fa7df9099fca359ffd4", func := "bodkin/bodkinlaw08.SeekRopes", spec := "seekRopes", inPlace := ["internal/bytealg.CountString", "internal/bytealg.IndexByteString", "internal/bytealg.IndexString"], unfollowed := true, recurses := true, named := ["unicode/utf8.first", "unicode/utf8.acceptRanges", "internal/bytealg.MaxLen"], apart := false, laid := [("unicode/utf8.acceptRanges", laid_unicode_utf8_acceptRanges), ("unicode/utf8.first", laid_unicode_utf8_first)] }
def SeekRopesSaid : Prop := seekRopesRow.holds Tryz.pinned (OpenSpec.ofChange seekRopesSpec)

/-- ITS FALSE NEIGHBOUR: 'it returns false'. Refute it at one input. -/
def seekRopesWrong : ChangeSpec := { name := "seekRopes", fn := fun _ => fun
  | [d1, d2, d3] => { results := [.lit (.bool false)], args := [d1, d2, d3] }
  | _ => none }
def SeekRopesWrongFalsely : Prop := seekRopesRow.holds Tryz.pinned (OpenSpec.ofChange seekRopesWrong)

/- THE SECOND FORM. 'bulk': how many values and letters a reading holds, each counted each time it is reached (what is shared counts as often as it is met; a slice's spare places count too). A statement '..UptoSaid' is the law's where the arguments, and the package variables that the reading takes, are together of bulk at most 1048576: NARROWER than '..Said'. Prove '..Said' where nothing that the law and all that it calls make is longer than what came in: it says more and counts as full. Else prove '..UptoSaid'. A law counts once. -/
mutual
def uptoBulk {H : Type} : DataW H → Nat
  | .lit (.string bytes) => bytes.length + 1
  | .lit _ => 1
  | .nil => 1
  | .ptr d => uptoBulk d + 1
  | .slice elems spare => uptoBulkAll elems + uptoBulkAll spare + 1
  | .agg parts => uptoBulkAll parts + 1
  | .iface _ d => uptoBulk d + 1
  | .map entries => uptoBulkEntries entries + 1
  | .held _ => 1
def uptoBulkAll {H : Type} : List (DataW H) → Nat
  | [] => 0
  | d :: r => uptoBulk d + uptoBulkAll r
def uptoBulkEntries {H : Type} : List (Lit × DataW H) → Nat
  | [] => 0
  | x :: r => uptoBulkEntry x + uptoBulkEntries r
def uptoBulkEntry {H : Type} : Lit × DataW H → Nat
  | (.string bytes, d) => bytes.length + uptoBulk d + 1
  | (_, d) => uptoBulk d + 1
 end
def uptoSmall : (H : Type) → List (DataW H) → Bool := fun _ ds => decide (uptoBulkAll ds ≤ 1048576)
def OpenSpec.upto (s : _root_.Go.ChangeSpec) : _root_.Go.OpenSpec := { _root_.Go.OpenSpec.ofChange s with cond := some uptoSmall }

/-- 'bodkinlaw07.RopeLeaves', WHERE WHAT IT READS IS OF BULK AT MOST 1048576: true; the input reads as it did. -/
def ropeLeavesUptoRow : OpenClaim := { program := "ytbihilfnnonpnaagreatdoor", sum := "2416f3c0ddb7b141c36f59af89b7bfb1653ee70809fe7fa7df9099fca359ffd4", func := "bodkin/bodkinlaw07.RopeLeaves", spec := "ropeLeaves", inPlace := ["internal/abi.NoEscape", "internal/bytealg.MakeNoZero", "internal/bytealg.CountString", "internal/bytealg.IndexByteString", "internal/bytealg.IndexString"], unfollowed := true, recurses := true, named := ["unicode/utf8.first", "unicode/utf8.acceptRanges", "internal/bytealg.MaxLen"], apart := false, laid := [("unicode/utf8.acceptRanges", laid_unicode_utf8_acceptRanges), ("unicode/utf8.first", laid_unicode_utf8_first)], narrowed := true }
def RopeLeavesUptoSaid : Prop := ropeLeavesUptoRow.holds Tryz.pinned (OpenSpec.upto ropeLeavesSpec)

/-- 'bodkinlaw07.RopeWalks', WHERE WHAT IT READS IS OF BULK AT MOST 1048576: true; the input reads as it did. -/
def ropeWalksUptoRow : OpenClaim := { program := "ytbihilfnnonpnaagreatdoor", sum := "2416f3c0ddb7b141c36f59af89b7bfb1653ee70809fe7fa7df9099fca359ffd4", func := "bodkin/bodkinlaw07.RopeWalks", spec := "ropeWalks", inPlace := ["internal/abi.NoEscape", "internal/bytealg.MakeNoZero", "internal/bytealg.CountString", "internal/bytealg.IndexByteString", "internal/bytealg.IndexString"], unfollowed := true, recurses := true, named := ["unicode/utf8.first", "unicode/utf8.acceptRanges", "internal/bytealg.MaxLen"], apart := false, laid := [("unicode/utf8.acceptRanges", laid_unicode_utf8_acceptRanges), ("unicode/utf8.first", laid_unicode_utf8_first)], narrowed := true }
def RopeWalksUptoSaid : Prop := ropeWalksUptoRow.holds Tryz.pinned (OpenSpec.upto ropeWalksSpec)

/-- 'bodkinlaw08.SeekTrees', WHERE WHAT IT READS IS OF BULK AT MOST 1048576: true; the input reads as it did. -/
def seekTreesUptoRow : OpenClaim := { program := "ytbihilfnnonpnaagreatdoor", sum := "2416f3c0ddb7b141c36f59af89b7bfb1653ee70809fe7fa7df9099fca359ffd4", func := "bodkin/bodkinlaw08.SeekTrees", spec := "seekTrees", inPlace := ["internal/bytealg.CountString", "internal/bytealg.IndexByteString", "internal/bytealg.IndexString"], unfollowed := true, recurses := true, named := ["unicode/utf8.first", "unicode/utf8.acceptRanges", "internal/bytealg.MaxLen"], apart := false, laid := [("unicode/utf8.acceptRanges", laid_unicode_utf8_acceptRanges), ("unicode/utf8.first", laid_unicode_utf8_first)], narrowed := true }
def SeekTreesUptoSaid : Prop := seekTreesUptoRow.holds Tryz.pinned (OpenSpec.upto seekTreesSpec)

/-- 'bodkinlaw08.SeekRopes', WHERE WHAT IT READS IS OF BULK AT MOST 1048576: true; the input reads as it did. -/
def seekRopesUptoRow : OpenClaim := { program := "ytbihilfnnonpnaagreatdoor", sum := "2416f3c0ddb7b141c36f59af89b7bfb1653ee70809fe7fa7df9099fca359ffd4", func := "bodkin/bodkinlaw08.SeekRopes", spec := "seekRopes", inPlace := ["internal/bytealg.CountString", "internal/bytealg.IndexByteString", "internal/bytealg.IndexString"], unfollowed := true, recurses := true, named := ["unicode/utf8.first", "unicode/utf8.acceptRanges", "internal/bytealg.MaxLen"], apart := false, laid := [("unicode/utf8.acceptRanges", laid_unicode_utf8_acceptRanges), ("unicode/utf8.first", laid_unicode_utf8_first)], narrowed := true }
def SeekRopesUptoSaid : Prop := seekRopesUptoRow.holds Tryz.pinned (OpenSpec.upto seekRopesSpec)

end Rows
end Go.Proofs.YtbihilfnnonpnaaGreatDoor
