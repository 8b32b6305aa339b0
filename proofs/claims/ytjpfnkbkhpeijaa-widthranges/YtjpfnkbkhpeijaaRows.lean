/-
  No cell of these rows narrows 'for every input' (looked for: loops, veiled, ifaces, maps, wideKeys, modest, calm, conditions, laid).
  DERIVED. THE GIVEN ROWS OF THIS SEAT. 4 by the template 'for every input the law returns true; each argument reads behind the call as it read before'; 0 by the template 'total and deterministic' (their statements: YtjpfnkbkhpeijaaTotals.lean).
  GIVEN WITH THE SEED: the statements are not yours to turn. If you find one false, say at which input.
  Laid BY PROGRAM, IN A SANDBOX (cutbox-rows.mjs): the forced cells as the released guide's own fill.sh prints them over the translation ae9ff9b73ad118a9… (all of the seat's roots in one cut). By AI agents, Wed Nov 11 2026. No macro, syntax, notation, axiom, sorry.
-/
import Derived.Test.YtjpfnkbkhpeijaaChecked
import GoSem.Claim
import GoSem.ClaimJoined
import GoSem.ClaimMapViews
import Derived.JoinedTies
import Derived.KernelRfl
namespace Go.Proofs.Ytjpfnkbkhpeijaa
/- THE CELL 'sum', in the pinned program and in every row, IS THE sha256 OF THE DUMP (.gsa) THAT YtjpfnkbkhpeijaaProg.lean LOADS. Nothing in Lean hashes anything: it is a label: what it is worth is what the hold of that sum in a sandbox is worth. -/
noncomputable def Try.pinned : Pinned := { name := "ytjpfnkbkhpeijaa", sum := "ae9ff9b73ad118a905e8981af3a35f7b14eb4dbf63e00d6ac5a875727ae75d86", checked := Try.checked }
namespace Rows
def none {H : Type} : Left H := { results := [], args := [] }

/-- 'bodkinlaw02.WidthClasses': WHATEVER THE INPUT: true; the input reads as it did. -/
def widthClassesSpec : ChangeSpec := { name := "widthClasses", fn := fun _ => fun
  | [d] => { results := [.lit (.bool true)], args := [d] }
  | _ => none }
def widthClassesRow : OpenClaim := { program := "ytjpfnkbkhpeijaa", sum := "ae9ff9b73ad118a905e8981af3a35f7b14eb4dbf63e00d6ac5a875727ae75d86", func := "bodkin/bodkinlaw02.WidthClasses", spec := "widthClasses", apart := false }
def WidthClassesSaid : Prop := widthClassesRow.holds Try.pinned (OpenSpec.ofChange widthClassesSpec)

/-- ITS FALSE NEIGHBOUR: 'it returns false'. Refute it at one input. -/
def widthClassesWrong : ChangeSpec := { name := "widthClasses", fn := fun _ => fun
  | [d] => { results := [.lit (.bool false)], args := [d] }
  | _ => none }
def WidthClassesWrongFalsely : Prop := widthClassesRow.holds Try.pinned (OpenSpec.ofChange widthClassesWrong)

/-- 'bodkinlaw02.WidthRanges': WHATEVER THE INPUT: true; the input reads as it did. -/
def widthRangesSpec : ChangeSpec := { name := "widthRanges", fn := fun _ => fun
  | [d] => { results := [.lit (.bool true)], args := [d] }
  | _ => none }
def widthRangesRow : OpenClaim := { program := "ytjpfnkbkhpeijaa", sum := "ae9ff9b73ad118a905e8981af3a35f7b14eb4dbf63e00d6ac5a875727ae75d86", func := "bodkin/bodkinlaw02.WidthRanges", spec := "widthRanges", apart := false }
def WidthRangesSaid : Prop := widthRangesRow.holds Try.pinned (OpenSpec.ofChange widthRangesSpec)

/-- ITS FALSE NEIGHBOUR: 'it returns false'. Refute it at one input. -/
def widthRangesWrong : ChangeSpec := { name := "widthRanges", fn := fun _ => fun
  | [d] => { results := [.lit (.bool false)], args := [d] }
  | _ => none }
def WidthRangesWrongFalsely : Prop := widthRangesRow.holds Try.pinned (OpenSpec.ofChange widthRangesWrong)

/-- 'bodkinlaw02.WidthWithin': WHATEVER THE INPUT: true; the input reads as it did. -/
def widthWithinSpec : ChangeSpec := { name := "widthWithin", fn := fun _ => fun
  | [d] => { results := [.lit (.bool true)], args := [d] }
  | _ => none }
def widthWithinRow : OpenClaim := { program := "ytjpfnkbkhpeijaa", sum := "ae9ff9b73ad118a905e8981af3a35f7b14eb4dbf63e00d6ac5a875727ae75d86", func := "bodkin/bodkinlaw02.WidthWithin", spec := "widthWithin", apart := false }
def WidthWithinSaid : Prop := widthWithinRow.holds Try.pinned (OpenSpec.ofChange widthWithinSpec)

/-- ITS FALSE NEIGHBOUR: 'it returns false'. Refute it at one input. -/
def widthWithinWrong : ChangeSpec := { name := "widthWithin", fn := fun _ => fun
  | [d] => { results := [.lit (.bool false)], args := [d] }
  | _ => none }
def WidthWithinWrongFalsely : Prop := widthWithinRow.holds Try.pinned (OpenSpec.ofChange widthWithinWrong)

/-- 'bodkinlaw02.WidthTables': WHATEVER THE INPUT: true; the input reads as it did. -/
def widthTablesSpec : ChangeSpec := { name := "widthTables", fn := fun _ => fun
  | [] => { results := [.lit (.bool true)], args := [] }
  | _ => none }
def widthTablesRow : OpenClaim := { program := "ytjpfnkbkhpeijaa", sum := "ae9ff9b73ad118a905e8981af3a35f7b14eb4dbf63e00d6ac5a875727ae75d86", func := "bodkin/bodkinlaw02.WidthTables", spec := "widthTables", apart := false }
def WidthTablesSaid : Prop := widthTablesRow.holds Try.pinned (OpenSpec.ofChange widthTablesSpec)

/-- ITS FALSE NEIGHBOUR: 'it returns false'. Refute it at one input. -/
def widthTablesWrong : ChangeSpec := { name := "widthTables", fn := fun _ => fun
  | [] => { results := [.lit (.bool false)], args := [] }
  | _ => none }
def WidthTablesWrongFalsely : Prop := widthTablesRow.holds Try.pinned (OpenSpec.ofChange widthTablesWrong)

/- THE SECOND FORM. 'bulk': how many values and letters a reading holds, each counted each time it is reached (what is shared counts as often as it is met; a slice's spare places count too). A statement '..UptoSaid' is the law's where the arguments, and the package variables that the reading takes, are together of bulk at most 1048576: NARROWER than '..Said'. Prove '..Said' where nothing that the law and all that it calls make is longer than what came in: it says more and counts as full. Else prove '..UptoSaid'. A law counts once. -/
mutual
def uptoBulk {H : Type} : DataW H → Nat
  | .lit (.string bytes) => bytes.length + 1
  | .lit _ => 1
  | .nil => 1
  | .ptr d => uptoBulk d + 1
  | .slice elems spare => uptoBulkAll elems + uptoBulkAll spare + 1
  | .agg parts => uptoBulkAll parts + 1
  | .iface _ d => uptoBulk d + 1
  | .map entries => uptoBulkEntries entries + 1
  | .held _ => 1
def uptoBulkAll {H : Type} : List (DataW H) → Nat
  | [] => 0
  | d :: r => uptoBulk d + uptoBulkAll r
def uptoBulkEntries {H : Type} : List (Lit × DataW H) → Nat
  | [] => 0
  | x :: r => uptoBulkEntry x + uptoBulkEntries r
def uptoBulkEntry {H : Type} : Lit × DataW H → Nat
  | (.string bytes, d) => bytes.length + uptoBulk d + 1
  | (_, d) => uptoBulk d + 1
 end
def uptoSmall : (H : Type) → List (DataW H) → Bool := fun _ ds => decide (uptoBulkAll ds ≤ 1048576)
def OpenSpec.upto (s : _root_.Go.ChangeSpec) : _root_.Go.OpenSpec := { _root_.Go.OpenSpec.ofChange s with cond := some uptoSmall }

/-- 'bodkinlaw02.WidthClasses', WHERE WHAT IT READS IS OF BULK AT MOST 1048576: true; the input reads as it did. -/
def widthClassesUptoRow : OpenClaim := { program := "ytjpfnkbkhpeijaa", sum := "ae9ff9b73ad118a905e8981af3a35f7b14eb4dbf63e00d6ac5a875727ae75d86", func := "bodkin/bodkinlaw02.WidthClasses", spec := "widthClasses", apart := false, narrowed := true }
def WidthClassesUptoSaid : Prop := widthClassesUptoRow.holds Try.pinned (OpenSpec.upto widthClassesSpec)

/-- 'bodkinlaw02.WidthRanges', WHERE WHAT IT READS IS OF BULK AT MOST 1048576: true; the input reads as it did. -/
def widthRangesUptoRow : OpenClaim := { program := "ytjpfnkbkhpeijaa", sum := "ae9ff9b73ad118a905e8981af3a35f7b14eb4dbf63e00d6ac5a875727ae75d86", func := "bodkin/bodkinlaw02.WidthRanges", spec := "widthRanges", apart := false, narrowed := true }
def WidthRangesUptoSaid : Prop := widthRangesUptoRow.holds Try.pinned (OpenSpec.upto widthRangesSpec)

/-- 'bodkinlaw02.WidthWithin', WHERE WHAT IT READS IS OF BULK AT MOST 1048576: true; the input reads as it did. -/
def widthWithinUptoRow : OpenClaim := { program := "ytjpfnkbkhpeijaa", sum := "ae9ff9b73ad118a905e8981af3a35f7b14eb4dbf63e00d6ac5a875727ae75d86", func := "bodkin/bodkinlaw02.WidthWithin", spec := "widthWithin", apart := false, narrowed := true }
def WidthWithinUptoSaid : Prop := widthWithinUptoRow.holds Try.pinned (OpenSpec.upto widthWithinSpec)

/-- 'bodkinlaw02.WidthTables', WHERE WHAT IT READS IS OF BULK AT MOST 1048576: true; the input reads as it did. -/
def widthTablesUptoRow : OpenClaim := { program := "ytjpfnkbkhpeijaa", sum := "ae9ff9b73ad118a905e8981af3a35f7b14eb4dbf63e00d6ac5a875727ae75d86", func := "bodkin/bodkinlaw02.WidthTables", spec := "widthTables", apart := false, narrowed := true }
def WidthTablesUptoSaid : Prop := widthTablesUptoRow.holds Try.pinned (OpenSpec.upto widthTablesSpec)

end Rows
end Go.Proofs.Ytjpfnkbkhpeijaa
