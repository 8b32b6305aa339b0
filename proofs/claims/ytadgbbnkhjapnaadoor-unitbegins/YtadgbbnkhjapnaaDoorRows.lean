/-
  NARROWER THAN 'FOR EVERY INPUT', by the rows' own cells (each row's printed sentence says how): UnitLists: laid · UnitAsks: laid · UnitEncodes: laid · UnitBegins: laid · UnitTiles: laid · UnitBack: laid.
  DERIVED. THE GIVEN ROWS OF THIS SEAT. 6 by the template 'for every input the law returns true; each argument reads behind the call as it read before'; 0 by the template 'total and deterministic' (their statements: YtadgbbnkhjapnaaDoorTotals.lean).
  GIVEN WITH THE SEED: the statements are not yours to turn. If you find one false, say at which input.
  Laid BY PROGRAM, IN A SANDBOX (cutbox-rows.mjs): the forced cells as the released guide's own fill.sh prints them over the translation 323c86d3c98ee7ea… (all of the seat's roots in one cut). By AI agents, Wed Nov 11 2026. No macro, syntax, notation, axiom, sorry.
-/
import Derived.Test.YtadgbbnkhjapnaaDoorChecked
import GoSem.PinnedTables
import GoSem.Claim
import GoSem.ClaimJoined
import GoSem.ClaimMapViews
import Derived.JoinedTies
import Derived.KernelRfl
namespace Go.Proofs.YtadgbbnkhjapnaaDoor
/- THE CELL 'sum', in the pinned program and in every row, IS THE sha256 OF THE DUMP (.gsa) THAT YtadgbbnkhjapnaaDoorProg.lean LOADS. Nothing in Lean hashes anything: it is a label: what it is worth is what the hold of that sum in a sandbox is worth. -/
noncomputable def Tryd.pinned : Pinned := { name := "ytadgbbnkhjapnaadoor", sum := "323c86d3c98ee7eab851409816b5cfb57dc85fe01a2386a054b9038b75577685", checked := Tryd.checked }
namespace Rows
def none {H : Type} : Left H := { results := [], args := [] }

/- WHAT THE LISTED PACKAGE-LEVEL VARIABLES READ AS WHEN THE CALL BEGINS. Each datum BY PROGRAM (the guide's laid-datum.mjs) off the statement by which the dump's own 'gosem.cut.vars' lays the variable. In a bare row this is a premise. The card (YtadgbbnkhjapnaaDoorCards.lean) ties it to the program's text. -/
def laid_unicode_utf8_acceptRanges {H : Type} : DataW H := .agg [.agg [.lit (.int .u8 128), .lit (.int .u8 191)], .agg [.lit (.int .u8 160), .lit (.int .u8 191)], .agg [.lit (.int .u8 128), .lit (.int .u8 159)], .agg [.lit (.int .u8 144), .lit (.int .u8 191)], .agg [.lit (.int .u8 128), .lit (.int .u8 143)], .agg [.lit (.int .u8 0), .lit (.int .u8 0)], .agg [.lit (.int .u8 0), .lit (.int .u8 0)], .agg [.lit (.int .u8 0), .lit (.int .u8 0)], .agg [.lit (.int .u8 0), .lit (.int .u8 0)], .agg [.lit (.int .u8 0), .lit (.int .u8 0)], .agg [.lit (.int .u8 0), .lit (.int .u8 0)], .agg [.lit (.int .u8 0), .lit (.int .u8 0)], .agg [.lit (.int .u8 0), .lit (.int .u8 0)], .agg [.lit (.int .u8 0), .lit (.int .u8 0)], .agg [.lit (.int .u8 0), .lit (.int .u8 0)], .agg [.lit (.int .u8 0), .lit (.int .u8 0)]]
/-- One of Go's own tables, pinned by name: the form's constant. -/
def laid_unicode_utf8_first : DataW Unit := Go.Pinned.utf8First

/-- 'bodkinlaw01.UnitLists': WHATEVER THE INPUT: true; the input reads as it did. -/
def unitListsSpec : ChangeSpec := { name := "unitLists", fn := fun _ => fun
  | [d1, d2] => { results := [.lit (.bool true)], args := [d1, d2] }
  | _ => none }
def unitListsRow : OpenClaim := { program := "ytadgbbnkhjapnaadoor", sum := "323c86d3c98ee7eab851409816b5cfb57dc85fe01a2386a054b9038b75577685", func := "bodkin/bodkinlaw01.UnitLists", spec := "unitLists", unfollowed := true, recurses := true, named := ["unicode/utf8.first", "unicode/utf8.acceptRanges"], apart := false, laid := [("unicode/utf8.acceptRanges", laid_unicode_utf8_acceptRanges), ("unicode/utf8.first", laid_unicode_utf8_first)] }
def UnitListsSaid : Prop := unitListsRow.holds Tryd.pinned (OpenSpec.ofChange unitListsSpec)

/-- ITS FALSE NEIGHBOUR: 'it returns false'. Refute it at one input. -/
def unitListsWrong : ChangeSpec := { name := "unitLists", fn := fun _ => fun
  | [d1, d2] => { results := [.lit (.bool false)], args := [d1, d2] }
  | _ => none }
def UnitListsWrongFalsely : Prop := unitListsRow.holds Tryd.pinned (OpenSpec.ofChange unitListsWrong)

/-- 'bodkinlaw01.UnitAsks': WHATEVER THE INPUT: true; the input reads as it did. -/
def unitAsksSpec : ChangeSpec := { name := "unitAsks", fn := fun _ => fun
  | [d1, d2] => { results := [.lit (.bool true)], args := [d1, d2] }
  | _ => none }
def unitAsksRow : OpenClaim := { program := "ytadgbbnkhjapnaadoor", sum := "323c86d3c98ee7eab851409816b5cfb57dc85fe01a2386a054b9038b75577685", func := "bodkin/bodkinlaw01.UnitAsks", spec := "unitAsks", unfollowed := true, recurses := true, named := ["unicode/utf8.first", "unicode/utf8.acceptRanges"], apart := false, laid := [("unicode/utf8.acceptRanges", laid_unicode_utf8_acceptRanges), ("unicode/utf8.first", laid_unicode_utf8_first)] }
def UnitAsksSaid : Prop := unitAsksRow.holds Tryd.pinned (OpenSpec.ofChange unitAsksSpec)

/-- ITS FALSE NEIGHBOUR: 'it returns false'. Refute it at one input. -/
def unitAsksWrong : ChangeSpec := { name := "unitAsks", fn := fun _ => fun
  | [d1, d2] => { results := [.lit (.bool false)], args := [d1, d2] }
  | _ => none }
def UnitAsksWrongFalsely : Prop := unitAsksRow.holds Tryd.pinned (OpenSpec.ofChange unitAsksWrong)

/-- 'bodkinlaw01.UnitEncodes': WHATEVER THE INPUT: true; the input reads as it did. -/
def unitEncodesSpec : ChangeSpec := { name := "unitEncodes", fn := fun _ => fun
  | [d] => { results := [.lit (.bool true)], args := [d] }
  | _ => none }
def unitEncodesRow : OpenClaim := { program := "ytadgbbnkhjapnaadoor", sum := "323c86d3c98ee7eab851409816b5cfb57dc85fe01a2386a054b9038b75577685", func := "bodkin/bodkinlaw01.UnitEncodes", spec := "unitEncodes", unfollowed := true, recurses := true, named := ["unicode/utf8.first", "unicode/utf8.acceptRanges"], apart := false, laid := [("unicode/utf8.acceptRanges", laid_unicode_utf8_acceptRanges), ("unicode/utf8.first", laid_unicode_utf8_first)] }
def UnitEncodesSaid : Prop := unitEncodesRow.holds Tryd.pinned (OpenSpec.ofChange unitEncodesSpec)

/-- ITS FALSE NEIGHBOUR: 'it returns false'. Refute it at one input. -/
def unitEncodesWrong : ChangeSpec := { name := "unitEncodes", fn := fun _ => fun
  | [d] => { results := [.lit (.bool false)], args := [d] }
  | _ => none }
def UnitEncodesWrongFalsely : Prop := unitEncodesRow.holds Tryd.pinned (OpenSpec.ofChange unitEncodesWrong)

/-- 'bodkinlaw01.UnitBegins': WHATEVER THE INPUT: true; the input reads as it did. -/
def unitBeginsSpec : ChangeSpec := { name := "unitBegins", fn := fun _ => fun
  | [d] => { results := [.lit (.bool true)], args := [d] }
  | _ => none }
def unitBeginsRow : OpenClaim := { program := "ytadgbbnkhjapnaadoor", sum := "323c86d3c98ee7eab851409816b5cfb57dc85fe01a2386a054b9038b75577685", func := "bodkin/bodkinlaw01.UnitBegins", spec := "unitBegins", unfollowed := true, recurses := true, named := ["unicode/utf8.first", "unicode/utf8.acceptRanges"], apart := false, laid := [("unicode/utf8.acceptRanges", laid_unicode_utf8_acceptRanges), ("unicode/utf8.first", laid_unicode_utf8_first)] }
def UnitBeginsSaid : Prop := unitBeginsRow.holds Tryd.pinned (OpenSpec.ofChange unitBeginsSpec)

/-- ITS FALSE NEIGHBOUR: 'it returns false'. Refute it at one input. -/
def unitBeginsWrong : ChangeSpec := { name := "unitBegins", fn := fun _ => fun
  | [d] => { results := [.lit (.bool false)], args := [d] }
  | _ => none }
def UnitBeginsWrongFalsely : Prop := unitBeginsRow.holds Tryd.pinned (OpenSpec.ofChange unitBeginsWrong)

/-- 'bodkinlaw01.UnitTiles': WHATEVER THE INPUT: true; the input reads as it did. -/
def unitTilesSpec : ChangeSpec := { name := "unitTiles", fn := fun _ => fun
  | [d] => { results := [.lit (.bool true)], args := [d] }
  | _ => none }
def unitTilesRow : OpenClaim := { program := "ytadgbbnkhjapnaadoor", sum := "323c86d3c98ee7eab851409816b5cfb57dc85fe01a2386a054b9038b75577685", func := "bodkin/bodkinlaw01.UnitTiles", spec := "unitTiles", unfollowed := true, recurses := true, named := ["unicode/utf8.first", "unicode/utf8.acceptRanges"], apart := false, laid := [("unicode/utf8.acceptRanges", laid_unicode_utf8_acceptRanges), ("unicode/utf8.first", laid_unicode_utf8_first)] }
def UnitTilesSaid : Prop := unitTilesRow.holds Tryd.pinned (OpenSpec.ofChange unitTilesSpec)

/-- ITS FALSE NEIGHBOUR: 'it returns false'. Refute it at one input. -/
def unitTilesWrong : ChangeSpec := { name := "unitTiles", fn := fun _ => fun
  | [d] => { results := [.lit (.bool false)], args := [d] }
  | _ => none }
def UnitTilesWrongFalsely : Prop := unitTilesRow.holds Tryd.pinned (OpenSpec.ofChange unitTilesWrong)

/-- 'bodkinlaw01.UnitBack': WHATEVER THE INPUT: true; the input reads as it did. -/
def unitBackSpec : ChangeSpec := { name := "unitBack", fn := fun _ => fun
  | [d] => { results := [.lit (.bool true)], args := [d] }
  | _ => none }
def unitBackRow : OpenClaim := { program := "ytadgbbnkhjapnaadoor", sum := "323c86d3c98ee7eab851409816b5cfb57dc85fe01a2386a054b9038b75577685", func := "bodkin/bodkinlaw01.UnitBack", spec := "unitBack", unfollowed := true, recurses := true, named := ["unicode/utf8.first", "unicode/utf8.acceptRanges"], apart := false, laid := [("unicode/utf8.acceptRanges", laid_unicode_utf8_acceptRanges), ("unicode/utf8.first", laid_unicode_utf8_first)] }
def UnitBackSaid : Prop := unitBackRow.holds Tryd.pinned (OpenSpec.ofChange unitBackSpec)

/-- ITS FALSE NEIGHBOUR: 'it returns false'. Refute it at one input. -/
def unitBackWrong : ChangeSpec := { name := "unitBack", fn := fun _ => fun
  | [d] => { results := [.lit (.bool false)], args := [d] }
  | _ => none }
def UnitBackWrongFalsely : Prop := unitBackRow.holds Tryd.pinned (OpenSpec.ofChange unitBackWrong)

/- THE SECOND FORM. 'bulk': how many values and letters a reading holds, each counted each time it is reached (what is shared counts as often as it is met; a slice's spare places count too). A statement '..UptoSaid' is the law's where the arguments, and the package variables that the reading takes, are together of bulk at most 1048576: NARROWER than '..Said'. Prove '..Said' where nothing that the law and all that it calls make is longer than what came in: it says more and counts as full. Else prove '..UptoSaid'. A law counts once. -/
mutual
def uptoBulk {H : Type} : DataW H → Nat
  | .lit (.string bytes) => bytes.length + 1
  | .lit _ => 1
  | .nil => 1
  | .ptr d => uptoBulk d + 1
  | .slice elems spare => uptoBulkAll elems + uptoBulkAll spare + 1
  | .agg parts => uptoBulkAll parts + 1
  | .iface _ d => uptoBulk d + 1
  | .map entries => uptoBulkEntries entries + 1
  | .held _ => 1
def uptoBulkAll {H : Type} : List (DataW H) → Nat
  | [] => 0
  | d :: r => uptoBulk d + uptoBulkAll r
def uptoBulkEntries {H : Type} : List (Lit × DataW H) → Nat
  | [] => 0
  | x :: r => uptoBulkEntry x + uptoBulkEntries r
def uptoBulkEntry {H : Type} : Lit × DataW H → Nat
  | (.string bytes, d) => bytes.length + uptoBulk d + 1
  | (_, d) => uptoBulk d + 1
 end
def uptoSmall : (H : Type) → List (DataW H) → Bool := fun _ ds => decide (uptoBulkAll ds ≤ 1048576)
def OpenSpec.upto (s : _root_.Go.ChangeSpec) : _root_.Go.OpenSpec := { _root_.Go.OpenSpec.ofChange s with cond := some uptoSmall }

/-- 'bodkinlaw01.UnitLists', WHERE WHAT IT READS IS OF BULK AT MOST 1048576: true; the input reads as it did. -/
def unitListsUptoRow : OpenClaim := { program := "ytadgbbnkhjapnaadoor", sum := "323c86d3c98ee7eab851409816b5cfb57dc85fe01a2386a054b9038b75577685", func := "bodkin/bodkinlaw01.UnitLists", spec := "unitLists", unfollowed := true, recurses := true, named := ["unicode/utf8.first", "unicode/utf8.acceptRanges"], apart := false, laid := [("unicode/utf8.acceptRanges", laid_unicode_utf8_acceptRanges), ("unicode/utf8.first", laid_unicode_utf8_first)], narrowed := true }
def UnitListsUptoSaid : Prop := unitListsUptoRow.holds Tryd.pinned (OpenSpec.upto unitListsSpec)

/-- 'bodkinlaw01.UnitAsks', WHERE WHAT IT READS IS OF BULK AT MOST 1048576: true; the input reads as it did. -/
def unitAsksUptoRow : OpenClaim := { program := "ytadgbbnkhjapnaadoor", sum := "323c86d3c98ee7eab851409816b5cfb57dc85fe01a2386a054b9038b75577685", func := "bodkin/bodkinlaw01.UnitAsks", spec := "unitAsks", unfollowed := true, recurses := true, named := ["unicode/utf8.first", "unicode/utf8.acceptRanges"], apart := false, laid := [("unicode/utf8.acceptRanges", laid_unicode_utf8_acceptRanges), ("unicode/utf8.first", laid_unicode_utf8_first)], narrowed := true }
def UnitAsksUptoSaid : Prop := unitAsksUptoRow.holds Tryd.pinned (OpenSpec.upto unitAsksSpec)

/-- 'bodkinlaw01.UnitEncodes', WHERE WHAT IT READS IS OF BULK AT MOST 1048576: true; the input reads as it did. -/
def unitEncodesUptoRow : OpenClaim := { program := "ytadgbbnkhjapnaadoor", sum := "323c86d3c98ee7eab851409816b5cfb57dc85fe01a2386a054b9038b75577685", func := "bodkin/bodkinlaw01.UnitEncodes", spec := "unitEncodes", unfollowed := true, recurses := true, named := ["unicode/utf8.first", "unicode/utf8.acceptRanges"], apart := false, laid := [("unicode/utf8.acceptRanges", laid_unicode_utf8_acceptRanges), ("unicode/utf8.first", laid_unicode_utf8_first)], narrowed := true }
def UnitEncodesUptoSaid : Prop := unitEncodesUptoRow.holds Tryd.pinned (OpenSpec.upto unitEncodesSpec)

/-- 'bodkinlaw01.UnitBegins', WHERE WHAT IT READS IS OF BULK AT MOST 1048576: true; the input reads as it did. -/
def unitBeginsUptoRow : OpenClaim := { program := "ytadgbbnkhjapnaadoor", sum := "323c86d3c98ee7eab851409816b5cfb57dc85fe01a2386a054b9038b75577685", func := "bodkin/bodkinlaw01.UnitBegins", spec := "unitBegins", unfollowed := true, recurses := true, named := ["unicode/utf8.first", "unicode/utf8.acceptRanges"], apart := false, laid := [("unicode/utf8.acceptRanges", laid_unicode_utf8_acceptRanges), ("unicode/utf8.first", laid_unicode_utf8_first)], narrowed := true }
def UnitBeginsUptoSaid : Prop := unitBeginsUptoRow.holds Tryd.pinned (OpenSpec.upto unitBeginsSpec)

/-- 'bodkinlaw01.UnitTiles', WHERE WHAT IT READS IS OF BULK AT MOST 1048576: true; the input reads as it did. -/
def unitTilesUptoRow : OpenClaim := { program := "ytadgbbnkhjapnaadoor", sum := "323c86d3c98ee7eab851409816b5cfb57dc85fe01a2386a054b9038b75577685", func := "bodkin/bodkinlaw01.UnitTiles", spec := "unitTiles", unfollowed := true, recurses := true, named := ["unicode/utf8.first", "unicode/utf8.acceptRanges"], apart := false, laid := [("unicode/utf8.acceptRanges", laid_unicode_utf8_acceptRanges), ("unicode/utf8.first", laid_unicode_utf8_first)], narrowed := true }
def UnitTilesUptoSaid : Prop := unitTilesUptoRow.holds Tryd.pinned (OpenSpec.upto unitTilesSpec)

/-- 'bodkinlaw01.UnitBack', WHERE WHAT IT READS IS OF BULK AT MOST 1048576: true; the input reads as it did. -/
def unitBackUptoRow : OpenClaim := { program := "ytadgbbnkhjapnaadoor", sum := "323c86d3c98ee7eab851409816b5cfb57dc85fe01a2386a054b9038b75577685", func := "bodkin/bodkinlaw01.UnitBack", spec := "unitBack", unfollowed := true, recurses := true, named := ["unicode/utf8.first", "unicode/utf8.acceptRanges"], apart := false, laid := [("unicode/utf8.acceptRanges", laid_unicode_utf8_acceptRanges), ("unicode/utf8.first", laid_unicode_utf8_first)], narrowed := true }
def UnitBackUptoSaid : Prop := unitBackUptoRow.holds Tryd.pinned (OpenSpec.upto unitBackSpec)

end Rows
end Go.Proofs.YtadgbbnkhjapnaaDoor
