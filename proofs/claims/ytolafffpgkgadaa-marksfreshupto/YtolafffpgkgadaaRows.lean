/-
  No cell of these rows narrows 'for every input' (looked for: loops, veiled, ifaces, maps, wideKeys, modest, calm, conditions, laid).
  DERIVED. THE GIVEN ROWS OF THIS SEAT. 5 by the template 'for every input the law returns true; each argument reads behind the call as it read before'; 0 by the template 'total and deterministic' (their statements: YtolafffpgkgadaaTotals.lean).
  GIVEN WITH THE SEED: the statements are not yours to turn. If you find one false, say at which input.
  Laid BY PROGRAM, IN A SANDBOX (cutbox-rows.mjs): the forced cells as the released guide's own fill.sh prints them over the translation a96e78347c87c9b1… (all of the seat's roots in one cut). By AI agents, Wed Nov 11 2026. No macro, syntax, notation, axiom, sorry.
-/
import Derived.Test.YtolafffpgkgadaaChecked
import GoSem.Claim
import GoSem.ClaimJoined
import GoSem.ClaimMapViews
import Derived.JoinedTies
import Derived.KernelRfl
namespace Go.Proofs.Ytolafffpgkgadaa
/- THE CELL 'sum', in the pinned program and in every row, IS THE sha256 OF THE DUMP (.gsa) THAT YtolafffpgkgadaaProg.lean LOADS. Nothing in Lean hashes anything: it is a label: what it is worth is what the hold of that sum in a sandbox is worth. -/
noncomputable def Try.pinned : Pinned := { name := "ytolafffpgkgadaa", sum := "a96e78347c87c9b19d5e640683dc536ef23ce4e1504d5f0ca4ec26537e959b0c", checked := Try.checked }
namespace Rows
def none {H : Type} : Left H := { results := [], args := [] }

/-- 'bodkinlaw10.MarksPlays': WHATEVER THE INPUT: true; the input reads as it did. -/
def marksPlaysSpec : ChangeSpec := { name := "marksPlays", fn := fun _ => fun
  | [d1, d2] => { results := [.lit (.bool true)], args := [d1, d2] }
  | _ => none }
def marksPlaysRow : OpenClaim := { program := "ytolafffpgkgadaa", sum := "a96e78347c87c9b19d5e640683dc536ef23ce4e1504d5f0ca4ec26537e959b0c", func := "bodkin/bodkinlaw10.MarksPlays", spec := "marksPlays", inPlace := ["maps.clone"], unfollowed := true, recurses := true, apart := false }
def MarksPlaysSaid : Prop := marksPlaysRow.holds Try.pinned (OpenSpec.ofChange marksPlaysSpec)

/-- ITS FALSE NEIGHBOUR: 'it returns false'. Refute it at one input. -/
def marksPlaysWrong : ChangeSpec := { name := "marksPlays", fn := fun _ => fun
  | [d1, d2] => { results := [.lit (.bool false)], args := [d1, d2] }
  | _ => none }
def MarksPlaysWrongFalsely : Prop := marksPlaysRow.holds Try.pinned (OpenSpec.ofChange marksPlaysWrong)

/-- 'bodkinlaw10.MarksSnaps': WHATEVER THE INPUT: true; the input reads as it did. -/
def marksSnapsSpec : ChangeSpec := { name := "marksSnaps", fn := fun _ => fun
  | [d1, d2] => { results := [.lit (.bool true)], args := [d1, d2] }
  | _ => none }
def marksSnapsRow : OpenClaim := { program := "ytolafffpgkgadaa", sum := "a96e78347c87c9b19d5e640683dc536ef23ce4e1504d5f0ca4ec26537e959b0c", func := "bodkin/bodkinlaw10.MarksSnaps", spec := "marksSnaps", unfollowed := true, recurses := true, apart := false }
def MarksSnapsSaid : Prop := marksSnapsRow.holds Try.pinned (OpenSpec.ofChange marksSnapsSpec)

/-- ITS FALSE NEIGHBOUR: 'it returns false'. Refute it at one input. -/
def marksSnapsWrong : ChangeSpec := { name := "marksSnaps", fn := fun _ => fun
  | [d1, d2] => { results := [.lit (.bool false)], args := [d1, d2] }
  | _ => none }
def MarksSnapsWrongFalsely : Prop := marksSnapsRow.holds Try.pinned (OpenSpec.ofChange marksSnapsWrong)

/-- 'bodkinlaw10.MarksNone': WHATEVER THE INPUT: true; the input reads as it did. -/
def marksNoneSpec : ChangeSpec := { name := "marksNone", fn := fun _ => fun
  | [d1, d2, d3] => { results := [.lit (.bool true)], args := [d1, d2, d3] }
  | _ => none }
def marksNoneRow : OpenClaim := { program := "ytolafffpgkgadaa", sum := "a96e78347c87c9b19d5e640683dc536ef23ce4e1504d5f0ca4ec26537e959b0c", func := "bodkin/bodkinlaw10.MarksNone", spec := "marksNone", inPlace := ["maps.clone"], unfollowed := true, recurses := true, apart := false }
def MarksNoneSaid : Prop := marksNoneRow.holds Try.pinned (OpenSpec.ofChange marksNoneSpec)

/-- ITS FALSE NEIGHBOUR: 'it returns false'. Refute it at one input. -/
def marksNoneWrong : ChangeSpec := { name := "marksNone", fn := fun _ => fun
  | [d1, d2, d3] => { results := [.lit (.bool false)], args := [d1, d2, d3] }
  | _ => none }
def MarksNoneWrongFalsely : Prop := marksNoneRow.holds Try.pinned (OpenSpec.ofChange marksNoneWrong)

/-- 'bodkinlaw10.MarksFresh': WHATEVER THE INPUT: true; the input reads as it did. -/
def marksFreshSpec : ChangeSpec := { name := "marksFresh", fn := fun _ => fun
  | [d1, d2] => { results := [.lit (.bool true)], args := [d1, d2] }
  | _ => none }
def marksFreshRow : OpenClaim := { program := "ytolafffpgkgadaa", sum := "a96e78347c87c9b19d5e640683dc536ef23ce4e1504d5f0ca4ec26537e959b0c", func := "bodkin/bodkinlaw10.MarksFresh", spec := "marksFresh", unfollowed := true, recurses := true, apart := false }
def MarksFreshSaid : Prop := marksFreshRow.holds Try.pinned (OpenSpec.ofChange marksFreshSpec)

/-- ITS FALSE NEIGHBOUR: 'it returns false'. Refute it at one input. -/
def marksFreshWrong : ChangeSpec := { name := "marksFresh", fn := fun _ => fun
  | [d1, d2] => { results := [.lit (.bool false)], args := [d1, d2] }
  | _ => none }
def MarksFreshWrongFalsely : Prop := marksFreshRow.holds Try.pinned (OpenSpec.ofChange marksFreshWrong)

/-- 'bodkinlaw10.MarksEnds': WHATEVER THE INPUT: true; the input reads as it did. -/
def marksEndsSpec : ChangeSpec := { name := "marksEnds", fn := fun _ => fun
  | [d1, d2, d3, d4] => { results := [.lit (.bool true)], args := [d1, d2, d3, d4] }
  | _ => none }
def marksEndsRow : OpenClaim := { program := "ytolafffpgkgadaa", sum := "a96e78347c87c9b19d5e640683dc536ef23ce4e1504d5f0ca4ec26537e959b0c", func := "bodkin/bodkinlaw10.MarksEnds", spec := "marksEnds", unfollowed := true, recurses := true, apart := false }
def MarksEndsSaid : Prop := marksEndsRow.holds Try.pinned (OpenSpec.ofChange marksEndsSpec)

/-- ITS FALSE NEIGHBOUR: 'it returns false'. Refute it at one input. -/
def marksEndsWrong : ChangeSpec := { name := "marksEnds", fn := fun _ => fun
  | [d1, d2, d3, d4] => { results := [.lit (.bool false)], args := [d1, d2, d3, d4] }
  | _ => none }
def MarksEndsWrongFalsely : Prop := marksEndsRow.holds Try.pinned (OpenSpec.ofChange marksEndsWrong)

/- THE SECOND FORM. 'bulk': how many values and letters a reading holds, each counted each time it is reached (what is shared counts as often as it is met; a slice's spare places count too). A statement '..UptoSaid' is the law's where the arguments, and the package variables that the reading takes, are together of bulk at most 1048576: NARROWER than '..Said'. Prove '..Said' where nothing that the law and all that it calls make is longer than what came in: it says more and counts as full. Else prove '..UptoSaid'. A law counts once. -/
mutual
def uptoBulk {H : Type} : DataW H → Nat
  | .lit (.string bytes) => bytes.length + 1
  | .lit _ => 1
  | .nil => 1
  | .ptr d => uptoBulk d + 1
  | .slice elems spare => uptoBulkAll elems + uptoBulkAll spare + 1
  | .agg parts => uptoBulkAll parts + 1
  | .iface _ d => uptoBulk d + 1
  | .map entries => uptoBulkEntries entries + 1
  | .held _ => 1
def uptoBulkAll {H : Type} : List (DataW H) → Nat
  | [] => 0
  | d :: r => uptoBulk d + uptoBulkAll r
def uptoBulkEntries {H : Type} : List (Lit × DataW H) → Nat
  | [] => 0
  | x :: r => uptoBulkEntry x + uptoBulkEntries r
def uptoBulkEntry {H : Type} : Lit × DataW H → Nat
  | (.string bytes, d) => bytes.length + uptoBulk d + 1
  | (_, d) => uptoBulk d + 1
 end
def uptoSmall : (H : Type) → List (DataW H) → Bool := fun _ ds => decide (uptoBulkAll ds ≤ 1048576)
def OpenSpec.upto (s : _root_.Go.ChangeSpec) : _root_.Go.OpenSpec := { _root_.Go.OpenSpec.ofChange s with cond := some uptoSmall }

/-- 'bodkinlaw10.MarksPlays', WHERE WHAT IT READS IS OF BULK AT MOST 1048576: true; the input reads as it did. -/
def marksPlaysUptoRow : OpenClaim := { program := "ytolafffpgkgadaa", sum := "a96e78347c87c9b19d5e640683dc536ef23ce4e1504d5f0ca4ec26537e959b0c", func := "bodkin/bodkinlaw10.MarksPlays", spec := "marksPlays", inPlace := ["maps.clone"], unfollowed := true, recurses := true, apart := false, narrowed := true }
def MarksPlaysUptoSaid : Prop := marksPlaysUptoRow.holds Try.pinned (OpenSpec.upto marksPlaysSpec)

/-- 'bodkinlaw10.MarksSnaps', WHERE WHAT IT READS IS OF BULK AT MOST 1048576: true; the input reads as it did. -/
def marksSnapsUptoRow : OpenClaim := { program := "ytolafffpgkgadaa", sum := "a96e78347c87c9b19d5e640683dc536ef23ce4e1504d5f0ca4ec26537e959b0c", func := "bodkin/bodkinlaw10.MarksSnaps", spec := "marksSnaps", unfollowed := true, recurses := true, apart := false, narrowed := true }
def MarksSnapsUptoSaid : Prop := marksSnapsUptoRow.holds Try.pinned (OpenSpec.upto marksSnapsSpec)

/-- 'bodkinlaw10.MarksNone', WHERE WHAT IT READS IS OF BULK AT MOST 1048576: true; the input reads as it did. -/
def marksNoneUptoRow : OpenClaim := { program := "ytolafffpgkgadaa", sum := "a96e78347c87c9b19d5e640683dc536ef23ce4e1504d5f0ca4ec26537e959b0c", func := "bodkin/bodkinlaw10.MarksNone", spec := "marksNone", inPlace := ["maps.clone"], unfollowed := true, recurses := true, apart := false, narrowed := true }
def MarksNoneUptoSaid : Prop := marksNoneUptoRow.holds Try.pinned (OpenSpec.upto marksNoneSpec)

/-- 'bodkinlaw10.MarksFresh', WHERE WHAT IT READS IS OF BULK AT MOST 1048576: true; the input reads as it did. -/
def marksFreshUptoRow : OpenClaim := { program := "ytolafffpgkgadaa", sum := "a96e78347c87c9b19d5e640683dc536ef23ce4e1504d5f0ca4ec26537e959b0c", func := "bodkin/bodkinlaw10.MarksFresh", spec := "marksFresh", unfollowed := true, recurses := true, apart := false, narrowed := true }
def MarksFreshUptoSaid : Prop := marksFreshUptoRow.holds Try.pinned (OpenSpec.upto marksFreshSpec)

/-- 'bodkinlaw10.MarksEnds', WHERE WHAT IT READS IS OF BULK AT MOST 1048576: true; the input reads as it did. -/
def marksEndsUptoRow : OpenClaim := { program := "ytolafffpgkgadaa", sum := "a96e78347c87c9b19d5e640683dc536ef23ce4e1504d5f0ca4ec26537e959b0c", func := "bodkin/bodkinlaw10.MarksEnds", spec := "marksEnds", unfollowed := true, recurses := true, apart := false, narrowed := true }
def MarksEndsUptoSaid : Prop := marksEndsUptoRow.holds Try.pinned (OpenSpec.upto marksEndsSpec)

end Rows
end Go.Proofs.Ytolafffpgkgadaa
