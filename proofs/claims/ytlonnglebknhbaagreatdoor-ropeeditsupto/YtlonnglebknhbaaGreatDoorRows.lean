/-
  NARROWER THAN 'FOR EVERY INPUT', by the rows' own cells (each row's printed sentence says how): RopeEdits: laid · RopeLooks: laid · RopeLeaves: laid · RopeNone: laid · RopeWalks: laid · SeekTrees: laid.
  DERIVED. THE GIVEN ROWS OF THIS SEAT. 6 by the template 'for every input the law returns true; each argument reads behind the call as it read before'; 0 by the template 'total and deterministic' (their statements: YtlonnglebknhbaaGreatDoorTotals.lean).
  GIVEN WITH THE SEED: the statements are not yours to turn. If you find one false, say at which input.
  Laid BY PROGRAM, IN A SANDBOX (cutbox-rows.mjs): the forced cells as the released guide's own fill.sh prints them over the translation 7ebf3a44ec7d9757… (all of the seat's roots in one cut). By AI agents, Wed Nov 11 2026. No macro, syntax, notation, axiom, sorry.
-/
import Derived.Test.YtlonnglebknhbaaGreatDoorChecked
import GoSem.PinnedTables
import GoSem.Claim
import GoSem.ClaimJoined
import GoSem.ClaimMapViews
import Derived.JoinedTies
import Derived.KernelRfl
namespace Go.Proofs.YtlonnglebknhbaaGreatDoor
/- THE CELL 'sum', in the pinned program and in every row, IS THE sha256 OF THE DUMP (.gsa) THAT YtlonnglebknhbaaGreatDoorProg.lean LOADS. Nothing in Lean hashes anything: it is a label: what it is worth is what the hold of that sum in a sandbox is worth. -/
noncomputable def Tryz.pinned : Pinned := { name := "ytlonnglebknhbaagreatdoor", sum := "7ebf3a44ec7d9757964d8b94588b68790d3af5725d17a5e21b6f1339325a9ff3", checked := Tryz.checked }
namespace Rows
def none {H : Type} : Left H := { results := [], args := [] }

/- WHAT THE LISTED PACKAGE-LEVEL VARIABLES READ AS WHEN THE CALL BEGINS. Each datum BY PROGRAM (the guide's laid-datum.mjs) off the statement by which the dump's own 'gosem.cut.vars' lays the variable. In a bare row this is a premise. The card (YtlonnglebknhbaaGreatDoorCards.lean) ties it to the program's text. -/
def laid_unicode_utf8_acceptRanges {H : Type} : DataW H := .agg [.agg [.lit (.int .u8 128), .lit (.int .u8 191)], .agg [.lit (.int .u8 160), .lit (.int .u8 191)], .agg [.lit (.int .u8 128), .lit (.int .u8 159)], .agg [.lit (.int .u8 144), .lit (.int .u8 191)], .agg [.lit (.int .u8 128), .lit (.int .u8 143)], .agg [.lit (.int .u8 0), .lit (.int .u8 0)], .agg [.lit (.int .u8 0), .lit (.int .u8 0)], .agg [.lit (.int .u8 0), .lit (.int .u8 0)], .agg [.lit (.int .u8 0), .lit (.int .u8 0)], .agg [.lit (.int .u8 0), .lit (.int .u8 0)], .agg [.lit (.int .u8 0), .lit (.int .u8 0)], .agg [.lit (.int .u8 0), .lit (.int .u8 0)], .agg [.lit (.int .u8 0), .lit (.int .u8 0)], .agg [.lit (.int .u8 0), .lit (.int .u8 0)], .agg [.lit (.int .u8 0), .lit (.int .u8 0)], .agg [.lit (.int .u8 0), .lit (.int .u8 0)]]
/-- One of Go's own tables, pinned by name: the form's constant. -/
def laid_unicode_utf8_first : DataW Unit := Go.Pinned.utf8First

/-- 'bodkinlaw07.RopeEdits': WHATEVER THE INPUT: true; the input reads as it did. -/
def ropeEditsSpec : ChangeSpec := { name := "ropeEdits", fn := fun _ => fun
  | [d1, d2] => { results := [.lit (.bool true)], args := [d1, d2] }
  | _ => none }
def ropeEditsRow : OpenClaim := { program := "ytlonnglebknhbaagreatdoor", sum := "7ebf3a44ec7d9757964d8b94588b68790d3af5725d17a5e21b6f1339325a9ff3", func := "bodkin/bodkinlaw07.RopeEdits", spec := "ropeEdits", inPlace := ["internal/abi.NoEscape", "internal/bytealg.MakeNoZero", "internal/bytealg.CountString", "internal/bytealg.IndexByteString", "internal/bytealg.IndexString"], unfollowed := true, recurses := true, named := ["unicode/utf8.first", "unicode/utf8.acceptRanges", "internal/bytealg.MaxLen"], apart := false, laid := [("unicode/utf8.acceptRanges", laid_unicode_utf8_acceptRanges), ("unicode/utf8.first", laid_unicode_utf8_first)] }
def RopeEditsSaid : Prop := ropeEditsRow.holds Tryz.pinned (OpenSpec.ofChange ropeEditsSpec)

/-- ITS FALSE NEIGHBOUR: 'it returns false'. Refute it at one input. -/
def ropeEditsWrong : ChangeSpec := { name := "ropeEdits", fn := fun _ => fun
  | [d1, d2] => { results := [.lit (.bool false)], args := [d1, d2] }
  | _ => none }
def RopeEditsWrongFalsely : Prop := ropeEditsRow.holds Tryz.pinned (OpenSpec.ofChange ropeEditsWrong)

/-- 'bodkinlaw07.RopeLooks': WHATEVER THE INPUT: true; the input reads as it did. -/
def ropeLooksSpec : ChangeSpec := { name := "ropeLooks", fn := fun _ => fun
  | [d1, d2, d3] => { results := [.lit (.bool true)], args := [d1, d2, d3] }
  | _ => none }
def ropeLooksRow : OpenClaim := { program := "ytlonnglebknhbaagreatdoor", sum := "7ebf3a44ec7d9757964d8b94588b68790d3af5725d17a5e21b6f1339325a9ff3", func := "bodkin/bodkinlaw07.RopeLooks", spec := "ropeLooks", inPlace := ["internal/abi.NoEscape", "internal/bytealg.MakeNoZero", "internal/bytealg.CountString", "internal/bytealg.IndexByteString", "internal/bytealg.IndexString"], unfollowed := true, recurses := true, named := ["unicode/utf8.first", "unicode/utf8.acceptRanges", "internal/bytealg.MaxLen"], apart := false, laid := [("unicode/utf8.acceptRanges", laid_unicode_utf8_acceptRanges), ("unicode/utf8.first", laid_unicode_utf8_first)] }
def RopeLooksSaid : Prop := ropeLooksRow.holds Tryz.pinned (OpenSpec.ofChange ropeLooksSpec)

/-- ITS FALSE NEIGHBOUR: 'it returns false'. Refute it at one input. -/
def ropeLooksWrong : ChangeSpec := { name := "ropeLooks", fn := fun _ => fun
  | [d1, d2, d3] => { results := [.lit (.bool false)], args := [d1, d2, d3] }
  | _ => none }
def RopeLooksWrongFalsely : Prop := ropeLooksRow.holds Tryz.pinned (OpenSpec.ofChange ropeLooksWrong)

/-- 'bodkinlaw07.RopeLeaves': WHATEVER THE INPUT: true; the input reads as it did. -/
def ropeLeavesSpec : ChangeSpec := { name := "ropeLeaves", fn := fun _ => fun
  | [d1, d2, d3] => { results := [.lit (.bool true)], args := [d1, d2, d3] }
  | _ => none }
def ropeLeavesRow : OpenClaim := { program := "ytlonnglebknhbaagreatdoor", sum := "7ebf3a44ec7d9757964d8b94588b68790d3af5725d17a5e21b6f1339325a9ff3", func := "bodkin/bodkinlaw07.RopeLeaves", spec := "ropeLeaves", inPlace := ["internal/abi.NoEscape", "internal/bytealg.MakeNoZero", "internal/bytealg.CountString", "internal/bytealg.IndexByteString", "internal/bytealg.IndexString"], unfollowed := true, recurses := true, named := ["unicode/utf8.first", "unicode/utf8.acceptRanges", "internal/bytealg.MaxLen"], apart := false, laid := [("unicode/utf8.acceptRanges", laid_unicode_utf8_acceptRanges), ("unicode/utf8.first", laid_unicode_utf8_first)] }
def RopeLeavesSaid : Prop := ropeLeavesRow.holds Tryz.pinned (OpenSpec.ofChange ropeLeavesSpec)

/-- ITS FALSE NEIGHBOUR: 'it returns false'. Refute it at one input. -/
def ropeLeavesWrong : ChangeSpec := { name := "ropeLeaves", fn := fun _ => fun
  | [d1, d2, d3] => { results := [.lit (.bool false)], args := [d1, d2, d3] }
  | _ => none }
def RopeLeavesWrongFalsely : Prop := ropeLeavesRow.holds Tryz.pinned (OpenSpec.ofChange ropeLeavesWrong)

/-- 'bodkinlaw07.RopeNone': WHATEVER THE INPUT: true; the input reads as it did. -/
def ropeNoneSpec : ChangeSpec := { name := "ropeNone", fn := fun _ => fun
  | [d1, d2, d3] => { results := [.lit (.bool true)], args := [d1, d2, d3] }
  | _ => none }
def ropeNoneRow : OpenClaim := { program := "ytlonnglebknhbaagreatdoor", sum := "7ebf3a44ec7d9757964d8b94588b68790d3af5725d17a5e21b6f1339325a9ff3", func := "bodkin/bodkinlaw07.RopeNone", spec := "ropeNone", inPlace := ["internal/abi.NoEscape", "internal/bytealg.MakeNoZero", "internal/bytealg.CountString", "internal/bytealg.IndexByteString", "internal/bytealg.IndexString"], unfollowed := true, recurses := true, named := ["unicode/utf8.first", "unicode/utf8.acceptRanges", "internal/bytealg.MaxLen"], apart := false, laid := [("unicode/utf8.acceptRanges", laid_unicode_utf8_acceptRanges), ("unicode/utf8.first", laid_unicode_utf8_first)] }
def RopeNoneSaid : Prop := ropeNoneRow.holds Tryz.pinned (OpenSpec.ofChange ropeNoneSpec)

/-- ITS FALSE NEIGHBOUR: 'it returns false'. Refute it at one input. -/
def ropeNoneWrong : ChangeSpec := { name := "ropeNone", fn := fun _ => fun
  | [d1, d2, d3] => { results := [.lit (.bool false)], args := [d1, d2, d3] }
  | _ => none }
def RopeNoneWrongFalsely : Prop := ropeNoneRow.holds Tryz.pinned (OpenSpec.ofChange ropeNoneWrong)

/-- 'bodkinlaw07.RopeWalks': WHATEVER THE INPUT: true; the input reads as it did. -/
def ropeWalksSpec : ChangeSpec := { name := "ropeWalks", fn := fun _ => fun
  | [d1, d2, d3] => { results := [.lit (.bool true)], args := [d1, d2, d3] }
  | _ => none }
def ropeWalksRow : OpenClaim := { program := "ytlonnglebknhbaagreatdoor", sum := "7ebf3a44ec7d9757964d8b94588b68790d3af5725d17a5e21b6f1339325a9ff3", func := "bodkin/bodkinlaw07.RopeWalks", spec := "ropeWalks", inPlace := ["internal/abi.NoEscape", "internal/bytealg.MakeNoZero", "internal/bytealg.CountString", "internal/bytealg.IndexByteString", "internal/bytealg.IndexString"], unfollowed := true, recurses := true, named := ["unicode/utf8.first", "unicode/utf8.acceptRanges", "internal/bytealg.MaxLen"], apart := false, laid := [("unicode/utf8.acceptRanges", laid_unicode_utf8_acceptRanges), ("unicode/utf8.first", laid_unicode_utf8_first)] }
def RopeWalksSaid : Prop := ropeWalksRow.holds Tryz.pinned (OpenSpec.ofChange ropeWalksSpec)

/-- ITS FALSE NEIGHBOUR: 'it returns false'. Refute it at one input. -/
def ropeWalksWrong : ChangeSpec := { name := "ropeWalks", fn := fun _ => fun
  | [d1, d2, d3] => { results := [.lit (.bool false)], args := [d1, d2, d3] }
  | _ => none }
def RopeWalksWrongFalsely : Prop := ropeWalksRow.holds Tryz.pinned (OpenSpec.ofChange ropeWalksWrong)

/-- 'bodkinlaw08.SeekTrees': WHATEVER THE INPUT: true; the input reads as it did. -/
def seekTreesSpec : ChangeSpec := { name := "seekTrees", fn := fun _ => fun
  | [d1, d2, d3] => { results := [.lit (.bool true)], args := [d1, d2, d3] }
  | _ => none }
def seekTreesRow : OpenClaim := { program := "ytlonnglebknhbaagreatdoor", sum := "7ebf3a44ec7d9757964d8b94588b68790d3af5725d17a5e21b6f1339325a9ff3", func := "bodkin/bodkinlaw08.SeekTrees", spec := "seekTrees", inPlace := ["internal/bytealg.CountString", "internal/bytealg.IndexByteString", "internal/bytealg.IndexString"], unfollowed := true, recurses := true, named := ["unicode/utf8.first", "unicode/utf8.acceptRanges", "internal/bytealg.MaxLen"], apart := false, laid := [("unicode/utf8.acceptRanges", laid_unicode_utf8_acceptRanges), ("unicode/utf8.first", laid_unicode_utf8_first)] }
def SeekTreesSaid : Prop := seekTreesRow.holds Tryz.pinned (OpenSpec.ofChange seekTreesSpec)

/-- ITS FALSE NEIGHBOUR: 'it returns false'. Refute it at one input. -/
def seekTreesWrong : ChangeSpec := { name := "seekTrees", fn := fun _ => fun
  | [d1, d2, d3] => { results := [.lit (.bool false)], args := [d1, d2, d3] }
  | _ => none }
def SeekTreesWrongFalsely : Prop := seekTreesRow.holds Tryz.pinned (OpenSpec.ofChange seekTreesWrong)

/- THE SECOND FORM. 'bulk': how many values and letters a reading holds, each counted each time it is reached (what is shared counts as often as it is met; a slice's spare places count too). A statement '..UptoSaid' is the law's where the arguments, and the package variables that the reading takes, are together of bulk at most 1048576: NARROWER than '..Said'. Prove '..Said' where nothing that the law and all that it calls make is longer than what came in: it says more and counts as full. Else prove '..UptoSaid'. A law counts once. -/
mutual
def uptoBulk {H : Type} : DataW H → Nat
  | .lit (.string bytes) => bytes.length + 1
  | .lit _ => 1
  | .nil => 1
  | .ptr d => uptoBulk d + 1
  | .slice elems spare => uptoBulkAll elems + uptoBulkAll spare + 1
  | .agg parts => uptoBulkAll parts + 1
  | .iface _ d => uptoBulk d + 1
  | .map entries => uptoBulkEntries entries + 1
  | .held _ => 1
def uptoBulkAll {H : Type} : List (DataW H) → Nat
  | [] => 0
  | d :: r => uptoBulk d + uptoBulkAll r
def uptoBulkEntries {H : Type} : List (Lit × DataW H) → Nat
  | [] => 0
  | x :: r => uptoBulkEntry x + uptoBulkEntries r
def uptoBulkEntry {H : Type} : Lit × DataW H → Nat
  | (.string bytes, d) => bytes.length + uptoBulk d + 1
  | (_, d) => uptoBulk d + 1
 end
def uptoSmall : (H : Type) → List (DataW H) → Bool := fun _ ds => decide (uptoBulkAll ds ≤ 1048576)
def OpenSpec.upto (s : _root_.Go.ChangeSpec) : _root_.Go.OpenSpec := { _root_.Go.OpenSpec.ofChange s with cond := some uptoSmall }

/-- 'bodkinlaw07.RopeEdits', WHERE WHAT IT READS IS OF BULK AT MOST 1048576: true; the input reads as it did. -/
def ropeEditsUptoRow : OpenClaim := { program := "ytlonnglebknhbaagreatdoor", sum := "7ebf3a44ec7d9757964d8b94588b68790d3af5725d17a5e21b6f1339325a9ff3", func := "bodkin/bodkinlaw07.RopeEdits", spec := "ropeEdits", inPlace := ["internal/abi.NoEscape", "internal/bytealg.MakeNoZero", "internal/bytealg.CountString", "internal/bytealg.IndexByteString", "internal/bytealg.IndexString"], unfollowed := true, recurses := true, named := ["unicode/utf8.first", "unicode/utf8.acceptRanges", "internal/bytealg.MaxLen"], apart := false, laid := [("unicode/utf8.acceptRanges", laid_unicode_utf8_acceptRanges), ("unicode/utf8.first", laid_unicode_utf8_first)], narrowed := true }
def RopeEditsUptoSaid : Prop := ropeEditsUptoRow.holds Tryz.pinned (OpenSpec.upto ropeEditsSpec)

/-- 'bodkinlaw07.RopeLooks', WHERE WHAT IT READS IS OF BULK AT MOST 1048576: true; the input reads as it did. -/
def ropeLooksUptoRow : OpenClaim := { program := "ytlonnglebknhbaagreatdoor", sum := "7ebf3a44ec7d9757964d8b94588b68790d3af5725d17a5e21b6f1339325a9ff3", func := "bodkin/bodkinlaw07.RopeLooks", spec := "ropeLooks", inPlace := ["internal/abi.NoEscape", "internal/bytealg.MakeNoZero", "internal/bytealg.CountString", "internal/bytealg.IndexByteString", "internal/bytealg.IndexString"], unfollowed := true, recurses := true, named := ["unicode/utf8.first", "unicode/utf8.acceptRanges", "internal/bytealg.MaxLen"], apart := false, laid := [("unicode/utf8.acceptRanges", laid_unicode_utf8_acceptRanges), ("unicode/utf8.first", laid_unicode_utf8_first)], narrowed := true }
def RopeLooksUptoSaid : Prop := ropeLooksUptoRow.holds Tryz.pinned (OpenSpec.upto ropeLooksSpec)

/-- 'bodkinlaw07.RopeLeaves', WHERE WHAT IT READS IS OF BULK AT MOST 1048576: true; the input reads as it did. -/
def ropeLeavesUptoRow : OpenClaim := { program := "ytlonnglebknhbaagreatdoor", sum := "7ebf3a44ec7d9757964d8b94588b68790d3af5725d17a5e21b6f1339325a9ff3", func := "bodkin/bodkinlaw07.RopeLeaves", spec := "ropeLeaves", inPlace := ["internal/abi.NoEscape", "internal/bytealg.MakeNoZero", "internal/bytealg.CountString", "internal/bytealg.IndexByteString", "internal/bytealg.IndexString"], unfollowed := true, recurses := true, named := ["unicode/utf8.first", "unicode/utf8.acceptRanges", "internal/bytealg.MaxLen"], apart := false, laid := [("unicode/utf8.acceptRanges", laid_unicode_utf8_acceptRanges), ("unicode/utf8.first", laid_unicode_utf8_first)], narrowed := true }
def RopeLeavesUptoSaid : Prop := ropeLeavesUptoRow.holds Tryz.pinned (OpenSpec.upto ropeLeavesSpec)

/-- 'bodkinlaw07.RopeNone', WHERE WHAT IT READS IS OF BULK AT MOST 1048576: true; the input reads as it did. -/
def ropeNoneUptoRow : OpenClaim := { program := "ytlonnglebknhbaagreatdoor", sum := "7ebf3a44ec7d9757964d8b94588b68790d3af5725d17a5e21b6f1339325a9ff3", func := "bodkin/bodkinlaw07.RopeNone", spec := "ropeNone", inPlace := ["internal/abi.NoEscape", "internal/bytealg.MakeNoZero", "internal/bytealg.CountString", "internal/bytealg.IndexByteString", "internal/bytealg.IndexString"], unfollowed := true, recurses := true, named := ["unicode/utf8.first", "unicode/utf8.acceptRanges", "internal/bytealg.MaxLen"], apart := false, laid := [("unicode/utf8.acceptRanges", laid_unicode_utf8_acceptRanges), ("unicode/utf8.first", laid_unicode_utf8_first)], narrowed := true }
def RopeNoneUptoSaid : Prop := ropeNoneUptoRow.holds Tryz.pinned (OpenSpec.upto ropeNoneSpec)

/-- 'bodkinlaw07.RopeWalks', WHERE WHAT IT READS IS OF BULK AT MOST 1048576: true; the input reads as it did. -/
def ropeWalksUptoRow : OpenClaim := { program := "ytlonnglebknhbaagreatdoor", sum := "7ebf3a44ec7d9757964d8b94588b68790d3af5725d17a5e21b6f1339325a9ff3", func := "bodkin/bodkinlaw07.RopeWalks", spec := "ropeWalks", inPlace := ["internal/abi.NoEscape", "internal/bytealg.MakeNoZero", "internal/bytealg.CountString", "internal/bytealg.IndexByteString", "internal/bytealg.IndexString"], unfollowed := true, recurses := true, named := ["unicode/utf8.first", "unicode/utf8.acceptRanges", "internal/bytealg.MaxLen"], apart := false, laid := [("unicode/utf8.acceptRanges", laid_unicode_utf8_acceptRanges), ("unicode/utf8.first", laid_unicode_utf8_first)], narrowed := true }
def RopeWalksUptoSaid : Prop := ropeWalksUptoRow.holds Tryz.pinned (OpenSpec.upto ropeWalksSpec)

/-- 'bodkinlaw08.SeekTrees', WHERE WHAT IT READS IS OF BULK AT MOST 1048576: true; the input reads as it did. -/
def seekTreesUptoRow : OpenClaim := { program := "ytlonnglebknhbaagreatdoor", sum := "7ebf3a44ec7d9757964d8b94588b68790d3af5725d17a5e21b6f1339325a9ff3", func := "bodkin/bodkinlaw08.SeekTrees", spec := "seekTrees", inPlace := ["internal/bytealg.CountString", "internal/bytealg.IndexByteString", "internal/bytealg.IndexString"], unfollowed := true, recurses := true, named := ["unicode/utf8.first", "unicode/utf8.acceptRanges", "internal/bytealg.MaxLen"], apart := false, laid := [("unicode/utf8.acceptRanges", laid_unicode_utf8_acceptRanges), ("unicode/utf8.first", laid_unicode_utf8_first)], narrowed := true }
def SeekTreesUptoSaid : Prop := seekTreesUptoRow.holds Tryz.pinned (OpenSpec.upto seekTreesSpec)

end Rows
end Go.Proofs.YtlonnglebknhbaaGreatDoor
