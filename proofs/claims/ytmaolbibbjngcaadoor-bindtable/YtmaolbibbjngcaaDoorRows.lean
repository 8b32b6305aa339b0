/-
  NARROWER THAN 'FOR EVERY INPUT', by the rows' own cells (each row's printed sentence says how): BindKeys: laid · BindCommands: laid · BindTable: laid · BindCounts: laid · BindOne: laid · BindNone: laid.
  DERIVED. THE GIVEN ROWS OF THIS SEAT. 6 by the template 'for every input the law returns true; each argument reads behind the call as it read before'; 0 by the template 'total and deterministic' (their statements: YtmaolbibbjngcaaDoorTotals.lean).
  GIVEN WITH THE SEED: the statements are not yours to turn. If you find one false, say at which input.
  Laid BY PROGRAM, IN A SANDBOX (cutbox-rows.mjs): the forced cells as the released guide's own fill.sh prints them over the translation c7f5f7a41f0ebcfb… (all of the seat's roots in one cut). By AI agents, Wed Nov 11 2026. No macro, syntax, notation, axiom, sorry.
-/
import Derived.Test.YtmaolbibbjngcaaDoorChecked
import GoSem.Claim
import GoSem.ClaimJoined
import GoSem.ClaimMapViews
import Derived.JoinedTies
import Derived.KernelRfl
namespace Go.Proofs.YtmaolbibbjngcaaDoor
/- THE CELL 'sum', in the pinned program and in every row, IS THE sha256 OF THE DUMP (.gsa) THAT YtmaolbibbjngcaaDoorProg.lean LOADS. Nothing in Lean hashes anything: it is a label: what it is worth is what the hold of that sum in a sandbox is worth. -/
noncomputable def Tryd.pinned : Pinned := { name := "ytmaolbibbjngcaadoor", sum := "c7f5f7a41f0ebcfb7679117514d8f04910489ccf7aeb75812d467a395f34a2a0", checked := Tryd.checked }
namespace Rows
def none {H : Type} : Left H := { results := [], args := [] }

/- WHAT THE LISTED PACKAGE-LEVEL VARIABLES READ AS WHEN THE CALL BEGINS. Each datum BY PROGRAM (the guide's laid-datum.mjs) off the statement by which the dump's own 'gosem.cut.vars' lays the variable. In a bare row this is a premise. The card (YtmaolbibbjngcaaDoorCards.lean) ties it to the program's text. -/
def laid_bodkin_bind_bounds {H : Type} : DataW H := .agg [.agg [.lit (.int .i64 2), .lit (.bool false), .lit (.int .i32 64), .lit (.int .i64 29)], .agg [.lit (.int .i64 2), .lit (.bool false), .lit (.int .i32 65), .lit (.int .i64 8)], .agg [.lit (.int .i64 2), .lit (.bool false), .lit (.int .i32 69), .lit (.int .i64 9)], .agg [.lit (.int .i64 2), .lit (.bool false), .lit (.int .i32 66), .lit (.int .i64 4)], .agg [.lit (.int .i64 2), .lit (.bool false), .lit (.int .i32 70), .lit (.int .i64 5)], .agg [.lit (.int .i64 2), .lit (.bool false), .lit (.int .i32 80), .lit (.int .i64 10)], .agg [.lit (.int .i64 2), .lit (.bool false), .lit (.int .i32 78), .lit (.int .i64 11)], .agg [.lit (.int .i64 2), .lit (.bool false), .lit (.int .i32 68), .lit (.int .i64 14)], .agg [.lit (.int .i64 2), .lit (.bool false), .lit (.int .i32 72), .lit (.int .i64 15)], .agg [.lit (.int .i64 2), .lit (.bool false), .lit (.int .i32 63), .lit (.int .i64 15)], .agg [.lit (.int .i64 2), .lit (.bool false), .lit (.int .i32 71), .lit (.int .i64 37)], .agg [.lit (.int .i64 2), .lit (.bool false), .lit (.int .i32 73), .lit (.int .i64 1)], .agg [.lit (.int .i64 2), .lit (.bool false), .lit (.int .i32 74), .lit (.int .i64 2)], .agg [.lit (.int .i64 2), .lit (.bool false), .lit (.int .i32 77), .lit (.int .i64 3)], .agg [.lit (.int .i64 2), .lit (.bool false), .lit (.int .i32 75), .lit (.int .i64 18)], .agg [.lit (.int .i64 2), .lit (.bool false), .lit (.int .i32 85), .lit (.int .i64 19)], .agg [.lit (.int .i64 2), .lit (.bool false), .lit (.int .i32 76), .lit (.int .i64 38)], .agg [.lit (.int .i64 2), .lit (.bool false), .lit (.int .i32 82), .lit (.int .i64 36)], .agg [.lit (.int .i64 2), .lit (.bool false), .lit (.int .i32 84), .lit (.int .i64 24)], .agg [.lit (.int .i64 2), .lit (.bool false), .lit (.int .i32 87), .lit (.int .i64 20)], .agg [.lit (.int .i64 2), .lit (.bool false), .lit (.int .i32 89), .lit (.int .i64 22)], .agg [.lit (.int .i64 2), .lit (.bool false), .lit (.int .i32 95), .lit (.int .i64 32)], .agg [.lit (.int .i64 2), .lit (.bool false), .lit (.int .i32 94), .lit (.int .i64 33)], .agg [.lit (.int .i64 2), .lit (.bool true), .lit (.int .i32 72), .lit (.int .i64 17)], .agg [.lit (.int .i64 2), .lit (.bool true), .lit (.int .i32 63), .lit (.int .i64 17)], .agg [.lit (.int .i64 1), .lit (.bool true), .lit (.int .i32 98), .lit (.int .i64 6)], .agg [.lit (.int .i64 1), .lit (.bool true), .lit (.int .i32 102), .lit (.int .i64 7)], .agg [.lit (.int .i64 1), .lit (.bool true), .lit (.int .i32 100), .lit (.int .i64 16)], .agg [.lit (.int .i64 1), .lit (.bool true), .lit (.int .i32 60), .lit (.int .i64 12)], .agg [.lit (.int .i64 1), .lit (.bool true), .lit (.int .i32 62), .lit (.int .i64 13)], .agg [.lit (.int .i64 1), .lit (.bool true), .lit (.int .i32 119), .lit (.int .i64 21)], .agg [.lit (.int .i64 1), .lit (.bool true), .lit (.int .i32 121), .lit (.int .i64 23)], .agg [.lit (.int .i64 1), .lit (.bool true), .lit (.int .i32 116), .lit (.int .i64 25)], .agg [.lit (.int .i64 1), .lit (.bool true), .lit (.int .i32 117), .lit (.int .i64 26)], .agg [.lit (.int .i64 1), .lit (.bool true), .lit (.int .i32 108), .lit (.int .i64 27)], .agg [.lit (.int .i64 1), .lit (.bool true), .lit (.int .i32 99), .lit (.int .i64 28)], .agg [.lit (.int .i64 1), .lit (.bool true), .lit (.int .i32 112), .lit (.int .i64 34)], .agg [.lit (.int .i64 1), .lit (.bool true), .lit (.int .i32 110), .lit (.int .i64 35)]]
def laid_bodkin_bind_nameds {H : Type} : DataW H := .agg [.agg [.lit (.int .i64 8), .lit (.int .i64 4), .lit (.int .i64 6)], .agg [.lit (.int .i64 7), .lit (.int .i64 5), .lit (.int .i64 7)], .agg [.lit (.int .i64 5), .lit (.int .i64 10), .lit (.int .i64 34)], .agg [.lit (.int .i64 6), .lit (.int .i64 11), .lit (.int .i64 35)], .agg [.lit (.int .i64 9), .lit (.int .i64 8), .lit (.int .i64 12)], .agg [.lit (.int .i64 10), .lit (.int .i64 9), .lit (.int .i64 13)], .agg [.lit (.int .i64 12), .lit (.int .i64 14), .lit (.int .i64 16)], .agg [.lit (.int .i64 13), .lit (.int .i64 34), .lit (.int .i64 40)], .agg [.lit (.int .i64 14), .lit (.int .i64 35), .lit (.int .i64 40)]]
def laid_bodkin_bind_prefixes {H : Type} : DataW H := .agg [.agg [.lit (.int .i64 2), .lit (.bool false), .lit (.int .i32 81), .lit (.string [113])], .agg [.lit (.int .i64 2), .lit (.bool false), .lit (.int .i32 88), .lit (.string [120])], .agg [.lit (.int .i64 1), .lit (.bool true), .lit (.int .i32 109), .lit (.string [109])], .agg [.lit (.int .i64 1), .lit (.bool true), .lit (.int .i32 39), .lit (.string [39])]]
def laid_bodkin_bind_extendeds {H : Type} : DataW H := .agg [.agg [.lit (.int .i64 2), .lit (.bool false), .lit (.int .i32 88), .lit (.int .i64 31)], .agg [.lit (.int .i64 1), .lit (.bool false), .lit (.int .i32 117), .lit (.int .i64 32)], .agg [.lit (.int .i64 1), .lit (.bool false), .lit (.int .i32 114), .lit (.int .i64 33)]]

/-- 'bodkinlaw19.BindKeys': WHATEVER THE INPUT: true; the input reads as it did. -/
def bindKeysSpec : ChangeSpec := { name := "bindKeys", fn := fun _ => fun
  | [d1, d2] => { results := [.lit (.bool true)], args := [d1, d2] }
  | _ => none }
def bindKeysRow : OpenClaim := { program := "ytmaolbibbjngcaadoor", sum := "c7f5f7a41f0ebcfb7679117514d8f04910489ccf7aeb75812d467a395f34a2a0", func := "bodkin/bodkinlaw19.BindKeys", spec := "bindKeys", named := ["bodkin/bind.prefixes", "bodkin/bind.bounds", "bodkin/bind.nameds", "bodkin/bind.extendeds"], apart := false, laid := [("bodkin/bind.bounds", laid_bodkin_bind_bounds), ("bodkin/bind.nameds", laid_bodkin_bind_nameds), ("bodkin/bind.prefixes", laid_bodkin_bind_prefixes), ("bodkin/bind.extendeds", laid_bodkin_bind_extendeds)] }
def BindKeysSaid : Prop := bindKeysRow.holds Tryd.pinned (OpenSpec.ofChange bindKeysSpec)

/-- ITS FALSE NEIGHBOUR: 'it returns false'. Refute it at one input. -/
def bindKeysWrong : ChangeSpec := { name := "bindKeys", fn := fun _ => fun
  | [d1, d2] => { results := [.lit (.bool false)], args := [d1, d2] }
  | _ => none }
def BindKeysWrongFalsely : Prop := bindKeysRow.holds Tryd.pinned (OpenSpec.ofChange bindKeysWrong)

/-- 'bodkinlaw19.BindCommands': WHATEVER THE INPUT: true; the input reads as it did. -/
def bindCommandsSpec : ChangeSpec := { name := "bindCommands", fn := fun _ => fun
  | [d] => { results := [.lit (.bool true)], args := [d] }
  | _ => none }
def bindCommandsRow : OpenClaim := { program := "ytmaolbibbjngcaadoor", sum := "c7f5f7a41f0ebcfb7679117514d8f04910489ccf7aeb75812d467a395f34a2a0", func := "bodkin/bodkinlaw19.BindCommands", spec := "bindCommands", named := ["bodkin/bind.prefixes", "bodkin/bind.bounds", "bodkin/bind.nameds", "bodkin/bind.extendeds"], apart := false, laid := [("bodkin/bind.bounds", laid_bodkin_bind_bounds), ("bodkin/bind.nameds", laid_bodkin_bind_nameds), ("bodkin/bind.prefixes", laid_bodkin_bind_prefixes), ("bodkin/bind.extendeds", laid_bodkin_bind_extendeds)] }
def BindCommandsSaid : Prop := bindCommandsRow.holds Tryd.pinned (OpenSpec.ofChange bindCommandsSpec)

/-- ITS FALSE NEIGHBOUR: 'it returns false'. Refute it at one input. -/
def bindCommandsWrong : ChangeSpec := { name := "bindCommands", fn := fun _ => fun
  | [d] => { results := [.lit (.bool false)], args := [d] }
  | _ => none }
def BindCommandsWrongFalsely : Prop := bindCommandsRow.holds Tryd.pinned (OpenSpec.ofChange bindCommandsWrong)

/-- 'bodkinlaw19.BindTable': WHATEVER THE INPUT: true; the input reads as it did. -/
def bindTableSpec : ChangeSpec := { name := "bindTable", fn := fun _ => fun
  | [d] => { results := [.lit (.bool true)], args := [d] }
  | _ => none }
def bindTableRow : OpenClaim := { program := "ytmaolbibbjngcaadoor", sum := "c7f5f7a41f0ebcfb7679117514d8f04910489ccf7aeb75812d467a395f34a2a0", func := "bodkin/bodkinlaw19.BindTable", spec := "bindTable", named := ["bodkin/bind.prefixes", "bodkin/bind.bounds", "bodkin/bind.nameds", "bodkin/bind.extendeds"], apart := false, laid := [("bodkin/bind.bounds", laid_bodkin_bind_bounds), ("bodkin/bind.nameds", laid_bodkin_bind_nameds), ("bodkin/bind.prefixes", laid_bodkin_bind_prefixes), ("bodkin/bind.extendeds", laid_bodkin_bind_extendeds)] }
def BindTableSaid : Prop := bindTableRow.holds Tryd.pinned (OpenSpec.ofChange bindTableSpec)

/-- ITS FALSE NEIGHBOUR: 'it returns false'. Refute it at one input. -/
def bindTableWrong : ChangeSpec := { name := "bindTable", fn := fun _ => fun
  | [d] => { results := [.lit (.bool false)], args := [d] }
  | _ => none }
def BindTableWrongFalsely : Prop := bindTableRow.holds Tryd.pinned (OpenSpec.ofChange bindTableWrong)

/-- 'bodkinlaw19.BindCounts': WHATEVER THE INPUT: true; the input reads as it did. -/
def bindCountsSpec : ChangeSpec := { name := "bindCounts", fn := fun _ => fun
  | [d1, d2, d3] => { results := [.lit (.bool true)], args := [d1, d2, d3] }
  | _ => none }
def bindCountsRow : OpenClaim := { program := "ytmaolbibbjngcaadoor", sum := "c7f5f7a41f0ebcfb7679117514d8f04910489ccf7aeb75812d467a395f34a2a0", func := "bodkin/bodkinlaw19.BindCounts", spec := "bindCounts", named := ["bodkin/bind.prefixes", "bodkin/bind.bounds", "bodkin/bind.nameds", "bodkin/bind.extendeds"], apart := false, laid := [("bodkin/bind.bounds", laid_bodkin_bind_bounds), ("bodkin/bind.nameds", laid_bodkin_bind_nameds), ("bodkin/bind.prefixes", laid_bodkin_bind_prefixes), ("bodkin/bind.extendeds", laid_bodkin_bind_extendeds)] }
def BindCountsSaid : Prop := bindCountsRow.holds Tryd.pinned (OpenSpec.ofChange bindCountsSpec)

/-- ITS FALSE NEIGHBOUR: 'it returns false'. Refute it at one input. -/
def bindCountsWrong : ChangeSpec := { name := "bindCounts", fn := fun _ => fun
  | [d1, d2, d3] => { results := [.lit (.bool false)], args := [d1, d2, d3] }
  | _ => none }
def BindCountsWrongFalsely : Prop := bindCountsRow.holds Tryd.pinned (OpenSpec.ofChange bindCountsWrong)

/-- 'bodkinlaw19.BindOne': WHATEVER THE INPUT: true; the input reads as it did. -/
def bindOneSpec : ChangeSpec := { name := "bindOne", fn := fun _ => fun
  | [d] => { results := [.lit (.bool true)], args := [d] }
  | _ => none }
def bindOneRow : OpenClaim := { program := "ytmaolbibbjngcaadoor", sum := "c7f5f7a41f0ebcfb7679117514d8f04910489ccf7aeb75812d467a395f34a2a0", func := "bodkin/bodkinlaw19.BindOne", spec := "bindOne", named := ["bodkin/bind.prefixes", "bodkin/bind.bounds", "bodkin/bind.nameds", "bodkin/bind.extendeds"], apart := false, laid := [("bodkin/bind.bounds", laid_bodkin_bind_bounds), ("bodkin/bind.nameds", laid_bodkin_bind_nameds), ("bodkin/bind.prefixes", laid_bodkin_bind_prefixes), ("bodkin/bind.extendeds", laid_bodkin_bind_extendeds)] }
def BindOneSaid : Prop := bindOneRow.holds Tryd.pinned (OpenSpec.ofChange bindOneSpec)

/-- ITS FALSE NEIGHBOUR: 'it returns false'. Refute it at one input. -/
def bindOneWrong : ChangeSpec := { name := "bindOne", fn := fun _ => fun
  | [d] => { results := [.lit (.bool false)], args := [d] }
  | _ => none }
def BindOneWrongFalsely : Prop := bindOneRow.holds Tryd.pinned (OpenSpec.ofChange bindOneWrong)

/-- 'bodkinlaw19.BindNone': WHATEVER THE INPUT: true; the input reads as it did. -/
def bindNoneSpec : ChangeSpec := { name := "bindNone", fn := fun _ => fun
  | [d] => { results := [.lit (.bool true)], args := [d] }
  | _ => none }
def bindNoneRow : OpenClaim := { program := "ytmaolbibbjngcaadoor", sum := "c7f5f7a41f0ebcfb7679117514d8f04910489ccf7aeb75812d467a395f34a2a0", func := "bodkin/bodkinlaw19.BindNone", spec := "bindNone", named := ["bodkin/bind.prefixes", "bodkin/bind.bounds", "bodkin/bind.nameds", "bodkin/bind.extendeds"], apart := false, laid := [("bodkin/bind.bounds", laid_bodkin_bind_bounds), ("bodkin/bind.nameds", laid_bodkin_bind_nameds), ("bodkin/bind.prefixes", laid_bodkin_bind_prefixes), ("bodkin/bind.extendeds", laid_bodkin_bind_extendeds)] }
def BindNoneSaid : Prop := bindNoneRow.holds Tryd.pinned (OpenSpec.ofChange bindNoneSpec)

/-- ITS FALSE NEIGHBOUR: 'it returns false'. Refute it at one input. -/
def bindNoneWrong : ChangeSpec := { name := "bindNone", fn := fun _ => fun
  | [d] => { results := [.lit (.bool false)], args := [d] }
  | _ => none }
def BindNoneWrongFalsely : Prop := bindNoneRow.holds Tryd.pinned (OpenSpec.ofChange bindNoneWrong)

/- THE SECOND FORM. 'bulk': how many values and letters a reading holds, each counted each time it is reached (what is shared counts as often as it is met; a slice's spare places count too). A statement '..UptoSaid' is the law's where the arguments, and the package variables that the reading takes, are together of bulk at most 1048576: NARROWER than '..Said'. Prove '..Said' where nothing that the law and all that it calls make is longer than what came in: it says more and counts as full. Else prove '..UptoSaid'. A law counts once. -/
mutual
def uptoBulk {H : Type} : DataW H → Nat
  | .lit (.string bytes) => bytes.length + 1
  | .lit _ => 1
  | .nil => 1
  | .ptr d => uptoBulk d + 1
  | .slice elems spare => uptoBulkAll elems + uptoBulkAll spare + 1
  | .agg parts => uptoBulkAll parts + 1
  | .iface _ d => uptoBulk d + 1
  | .map entries => uptoBulkEntries entries + 1
  | .held _ => 1
def uptoBulkAll {H : Type} : List (DataW H) → Nat
  | [] => 0
  | d :: r => uptoBulk d + uptoBulkAll r
def uptoBulkEntries {H : Type} : List (Lit × DataW H) → Nat
  | [] => 0
  | x :: r => uptoBulkEntry x + uptoBulkEntries r
def uptoBulkEntry {H : Type} : Lit × DataW H → Nat
  | (.string bytes, d) => bytes.length + uptoBulk d + 1
  | (_, d) => uptoBulk d + 1
 end
def uptoSmall : (H : Type) → List (DataW H) → Bool := fun _ ds => decide (uptoBulkAll ds ≤ 1048576)
def OpenSpec.upto (s : _root_.Go.ChangeSpec) : _root_.Go.OpenSpec := { _root_.Go.OpenSpec.ofChange s with cond := some uptoSmall }

/-- 'bodkinlaw19.BindKeys', WHERE WHAT IT READS IS OF BULK AT MOST 1048576: true; the input reads as it did. -/
def bindKeysUptoRow : OpenClaim := { program := "ytmaolbibbjngcaadoor", sum := "c7f5f7a41f0ebcfb7679117514d8f04910489ccf7aeb75812d467a395f34a2a0", func := "bodkin/bodkinlaw19.BindKeys", spec := "bindKeys", named := ["bodkin/bind.prefixes", "bodkin/bind.bounds", "bodkin/bind.nameds", "bodkin/bind.extendeds"], apart := false, laid := [("bodkin/bind.bounds", laid_bodkin_bind_bounds), ("bodkin/bind.nameds", laid_bodkin_bind_nameds), ("bodkin/bind.prefixes", laid_bodkin_bind_prefixes), ("bodkin/bind.extendeds", laid_bodkin_bind_extendeds)], narrowed := true }
def BindKeysUptoSaid : Prop := bindKeysUptoRow.holds Tryd.pinned (OpenSpec.upto bindKeysSpec)

/-- 'bodkinlaw19.BindCommands', WHERE WHAT IT READS IS OF BULK AT MOST 1048576: true; the input reads as it did. -/
def bindCommandsUptoRow : OpenClaim := { program := "ytmaolbibbjngcaadoor", sum := "c7f5f7a41f0ebcfb7679117514d8f04910489ccf7aeb75812d467a395f34a2a0", func := "bodkin/bodkinlaw19.BindCommands", spec := "bindCommands", named := ["bodkin/bind.prefixes", "bodkin/bind.bounds", "bodkin/bind.nameds", "bodkin/bind.extendeds"], apart := false, laid := [("bodkin/bind.bounds", laid_bodkin_bind_bounds), ("bodkin/bind.nameds", laid_bodkin_bind_nameds), ("bodkin/bind.prefixes", laid_bodkin_bind_prefixes), ("bodkin/bind.extendeds", laid_bodkin_bind_extendeds)], narrowed := true }
def BindCommandsUptoSaid : Prop := bindCommandsUptoRow.holds Tryd.pinned (OpenSpec.upto bindCommandsSpec)

/-- 'bodkinlaw19.BindTable', WHERE WHAT IT READS IS OF BULK AT MOST 1048576: true; the input reads as it did. -/
def bindTableUptoRow : OpenClaim := { program := "ytmaolbibbjngcaadoor", sum := "c7f5f7a41f0ebcfb7679117514d8f04910489ccf7aeb75812d467a395f34a2a0", func := "bodkin/bodkinlaw19.BindTable", spec := "bindTable", named := ["bodkin/bind.prefixes", "bodkin/bind.bounds", "bodkin/bind.nameds", "bodkin/bind.extendeds"], apart := false, laid := [("bodkin/bind.bounds", laid_bodkin_bind_bounds), ("bodkin/bind.nameds", laid_bodkin_bind_nameds), ("bodkin/bind.prefixes", laid_bodkin_bind_prefixes), ("bodkin/bind.extendeds", laid_bodkin_bind_extendeds)], narrowed := true }
def BindTableUptoSaid : Prop := bindTableUptoRow.holds Tryd.pinned (OpenSpec.upto bindTableSpec)

/-- 'bodkinlaw19.BindCounts', WHERE WHAT IT READS IS OF BULK AT MOST 1048576: true; the input reads as it did. -/
def bindCountsUptoRow : OpenClaim := { program := "ytmaolbibbjngcaadoor", sum := "c7f5f7a41f0ebcfb7679117514d8f04910489ccf7aeb75812d467a395f34a2a0", func := "bodkin/bodkinlaw19.BindCounts", spec := "bindCounts", named := ["bodkin/bind.prefixes", "bodkin/bind.bounds", "bodkin/bind.nameds", "bodkin/bind.extendeds"], apart := false, laid := [("bodkin/bind.bounds", laid_bodkin_bind_bounds), ("bodkin/bind.nameds", laid_bodkin_bind_nameds), ("bodkin/bind.prefixes", laid_bodkin_bind_prefixes), ("bodkin/bind.extendeds", laid_bodkin_bind_extendeds)], narrowed := true }
def BindCountsUptoSaid : Prop := bindCountsUptoRow.holds Tryd.pinned (OpenSpec.upto bindCountsSpec)

/-- 'bodkinlaw19.BindOne', WHERE WHAT IT READS IS OF BULK AT MOST 1048576: true; the input reads as it did. -/
def bindOneUptoRow : OpenClaim := { program := "ytmaolbibbjngcaadoor", sum := "c7f5f7a41f0ebcfb7679117514d8f04910489ccf7aeb75812d467a395f34a2a0", func := "bodkin/bodkinlaw19.BindOne", spec := "bindOne", named := ["bodkin/bind.prefixes", "bodkin/bind.bounds", "bodkin/bind.nameds", "bodkin/bind.extendeds"], apart := false, laid := [("bodkin/bind.bounds", laid_bodkin_bind_bounds), ("bodkin/bind.nameds", laid_bodkin_bind_nameds), ("bodkin/bind.prefixes", laid_bodkin_bind_prefixes), ("bodkin/bind.extendeds", laid_bodkin_bind_extendeds)], narrowed := true }
def BindOneUptoSaid : Prop := bindOneUptoRow.holds Tryd.pinned (OpenSpec.upto bindOneSpec)

/-- 'bodkinlaw19.BindNone', WHERE WHAT IT READS IS OF BULK AT MOST 1048576: true; the input reads as it did. -/
def bindNoneUptoRow : OpenClaim := { program := "ytmaolbibbjngcaadoor", sum := "c7f5f7a41f0ebcfb7679117514d8f04910489ccf7aeb75812d467a395f34a2a0", func := "bodkin/bodkinlaw19.BindNone", spec := "bindNone", named := ["bodkin/bind.prefixes", "bodkin/bind.bounds", "bodkin/bind.nameds", "bodkin/bind.extendeds"], apart := false, laid := [("bodkin/bind.bounds", laid_bodkin_bind_bounds), ("bodkin/bind.nameds", laid_bodkin_bind_nameds), ("bodkin/bind.prefixes", laid_bodkin_bind_prefixes), ("bodkin/bind.extendeds", laid_bodkin_bind_extendeds)], narrowed := true }
def BindNoneUptoSaid : Prop := bindNoneUptoRow.holds Tryd.pinned (OpenSpec.upto bindNoneSpec)

end Rows
end Go.Proofs.YtmaolbibbjngcaaDoor
