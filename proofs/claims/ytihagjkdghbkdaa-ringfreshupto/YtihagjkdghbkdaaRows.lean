/-
  No cell of these rows narrows 'for every input' (looked for: loops, veiled, ifaces, maps, wideKeys, modest, calm, conditions, laid).
  DERIVED. THE GIVEN ROWS OF THIS SEAT. 6 by the template 'for every input the law returns true; each argument reads behind the call as it read before'; 0 by the template 'total and deterministic' (their statements: YtihagjkdghbkdaaTotals.lean).
  GIVEN WITH THE SEED: the statements are not yours to turn. If you find one false, say at which input.
  Laid BY PROGRAM, IN A SANDBOX (cutbox-rows.mjs): the forced cells as the released guide's own fill.sh prints them over the translation 0a8bb7bd9fdda52d… (all of the seat's roots in one cut). By AI agents, Wed Nov 11 2026. No macro, syntax, notation, axiom, sorry.
-/
import Derived.Test.YtihagjkdghbkdaaChecked
import GoSem.Claim
import GoSem.ClaimJoined
import GoSem.ClaimMapViews
import Derived.JoinedTies
import Derived.KernelRfl
namespace Go.Proofs.Ytihagjkdghbkdaa
/- THE CELL 'sum', in the pinned program and in every row, IS THE sha256 OF THE DUMP (.gsa) THAT YtihagjkdghbkdaaProg.lean LOADS. Nothing in Lean hashes anything: it is a label: what it is worth is what the hold of that sum in a sandbox is worth. -/
noncomputable def Try.pinned : Pinned := { name := "ytihagjkdghbkdaa", sum := "0a8bb7bd9fdda52dcab7f16d89707a35902b1a71f9e27509375cecc8c94706ff", checked := Try.checked }
namespace Rows
def none {H : Type} : Left H := { results := [], args := [] }

/-- 'bodkinlaw13.RingPlays': WHATEVER THE INPUT: true; the input reads as it did. -/
def ringPlaysSpec : ChangeSpec := { name := "ringPlays", fn := fun _ => fun
  | [d1, d2] => { results := [.lit (.bool true)], args := [d1, d2] }
  | _ => none }
def ringPlaysRow : OpenClaim := { program := "ytihagjkdghbkdaa", sum := "0a8bb7bd9fdda52dcab7f16d89707a35902b1a71f9e27509375cecc8c94706ff", func := "bodkin/bodkinlaw13.RingPlays", spec := "ringPlays", inPlace := ["slices.overlaps[string]"], apart := false }
def RingPlaysSaid : Prop := ringPlaysRow.holds Try.pinned (OpenSpec.ofChange ringPlaysSpec)

/-- ITS FALSE NEIGHBOUR: 'it returns false'. Refute it at one input. -/
def ringPlaysWrong : ChangeSpec := { name := "ringPlays", fn := fun _ => fun
  | [d1, d2] => { results := [.lit (.bool false)], args := [d1, d2] }
  | _ => none }
def RingPlaysWrongFalsely : Prop := ringPlaysRow.holds Try.pinned (OpenSpec.ofChange ringPlaysWrong)

/-- 'bodkinlaw13.RingRounds': WHATEVER THE INPUT: true; the input reads as it did. -/
def ringRoundsSpec : ChangeSpec := { name := "ringRounds", fn := fun _ => fun
  | [d1, d2, d3] => { results := [.lit (.bool true)], args := [d1, d2, d3] }
  | _ => none }
def ringRoundsRow : OpenClaim := { program := "ytihagjkdghbkdaa", sum := "0a8bb7bd9fdda52dcab7f16d89707a35902b1a71f9e27509375cecc8c94706ff", func := "bodkin/bodkinlaw13.RingRounds", spec := "ringRounds", inPlace := ["slices.overlaps[string]"], apart := false }
def RingRoundsSaid : Prop := ringRoundsRow.holds Try.pinned (OpenSpec.ofChange ringRoundsSpec)

/-- ITS FALSE NEIGHBOUR: 'it returns false'. Refute it at one input. -/
def ringRoundsWrong : ChangeSpec := { name := "ringRounds", fn := fun _ => fun
  | [d1, d2, d3] => { results := [.lit (.bool false)], args := [d1, d2, d3] }
  | _ => none }
def RingRoundsWrongFalsely : Prop := ringRoundsRow.holds Try.pinned (OpenSpec.ofChange ringRoundsWrong)

/-- 'bodkinlaw13.RingChains': WHATEVER THE INPUT: true; the input reads as it did. -/
def ringChainsSpec : ChangeSpec := { name := "ringChains", fn := fun _ => fun
  | [d1, d2, d3] => { results := [.lit (.bool true)], args := [d1, d2, d3] }
  | _ => none }
def ringChainsRow : OpenClaim := { program := "ytihagjkdghbkdaa", sum := "0a8bb7bd9fdda52dcab7f16d89707a35902b1a71f9e27509375cecc8c94706ff", func := "bodkin/bodkinlaw13.RingChains", spec := "ringChains", inPlace := ["slices.overlaps[string]"], apart := false }
def RingChainsSaid : Prop := ringChainsRow.holds Try.pinned (OpenSpec.ofChange ringChainsSpec)

/-- ITS FALSE NEIGHBOUR: 'it returns false'. Refute it at one input. -/
def ringChainsWrong : ChangeSpec := { name := "ringChains", fn := fun _ => fun
  | [d1, d2, d3] => { results := [.lit (.bool false)], args := [d1, d2, d3] }
  | _ => none }
def RingChainsWrongFalsely : Prop := ringChainsRow.holds Try.pinned (OpenSpec.ofChange ringChainsWrong)

/-- 'bodkinlaw13.RingBounds': WHATEVER THE INPUT: true; the input reads as it did. -/
def ringBoundsSpec : ChangeSpec := { name := "ringBounds", fn := fun _ => fun
  | [d1, d2, d3] => { results := [.lit (.bool true)], args := [d1, d2, d3] }
  | _ => none }
def ringBoundsRow : OpenClaim := { program := "ytihagjkdghbkdaa", sum := "0a8bb7bd9fdda52dcab7f16d89707a35902b1a71f9e27509375cecc8c94706ff", func := "bodkin/bodkinlaw13.RingBounds", spec := "ringBounds", inPlace := ["slices.overlaps[string]"], apart := false }
def RingBoundsSaid : Prop := ringBoundsRow.holds Try.pinned (OpenSpec.ofChange ringBoundsSpec)

/-- ITS FALSE NEIGHBOUR: 'it returns false'. Refute it at one input. -/
def ringBoundsWrong : ChangeSpec := { name := "ringBounds", fn := fun _ => fun
  | [d1, d2, d3] => { results := [.lit (.bool false)], args := [d1, d2, d3] }
  | _ => none }
def RingBoundsWrongFalsely : Prop := ringBoundsRow.holds Try.pinned (OpenSpec.ofChange ringBoundsWrong)

/-- 'bodkinlaw13.RingNone': WHATEVER THE INPUT: true; the input reads as it did. -/
def ringNoneSpec : ChangeSpec := { name := "ringNone", fn := fun _ => fun
  | [d] => { results := [.lit (.bool true)], args := [d] }
  | _ => none }
def ringNoneRow : OpenClaim := { program := "ytihagjkdghbkdaa", sum := "0a8bb7bd9fdda52dcab7f16d89707a35902b1a71f9e27509375cecc8c94706ff", func := "bodkin/bodkinlaw13.RingNone", spec := "ringNone", inPlace := ["slices.overlaps[string]"], apart := false }
def RingNoneSaid : Prop := ringNoneRow.holds Try.pinned (OpenSpec.ofChange ringNoneSpec)

/-- ITS FALSE NEIGHBOUR: 'it returns false'. Refute it at one input. -/
def ringNoneWrong : ChangeSpec := { name := "ringNone", fn := fun _ => fun
  | [d] => { results := [.lit (.bool false)], args := [d] }
  | _ => none }
def RingNoneWrongFalsely : Prop := ringNoneRow.holds Try.pinned (OpenSpec.ofChange ringNoneWrong)

/-- 'bodkinlaw13.RingFresh': WHATEVER THE INPUT: true; the input reads as it did. -/
def ringFreshSpec : ChangeSpec := { name := "ringFresh", fn := fun _ => fun
  | [d1, d2] => { results := [.lit (.bool true)], args := [d1, d2] }
  | _ => none }
def ringFreshRow : OpenClaim := { program := "ytihagjkdghbkdaa", sum := "0a8bb7bd9fdda52dcab7f16d89707a35902b1a71f9e27509375cecc8c94706ff", func := "bodkin/bodkinlaw13.RingFresh", spec := "ringFresh", inPlace := ["slices.overlaps[string]"], apart := false }
def RingFreshSaid : Prop := ringFreshRow.holds Try.pinned (OpenSpec.ofChange ringFreshSpec)

/-- ITS FALSE NEIGHBOUR: 'it returns false'. Refute it at one input. -/
def ringFreshWrong : ChangeSpec := { name := "ringFresh", fn := fun _ => fun
  | [d1, d2] => { results := [.lit (.bool false)], args := [d1, d2] }
  | _ => none }
def RingFreshWrongFalsely : Prop := ringFreshRow.holds Try.pinned (OpenSpec.ofChange ringFreshWrong)

/- THE SECOND FORM. 'bulk': how many values and letters a reading holds, each counted each time it is reached (what is shared counts as often as it is met; a slice's spare places count too). A statement '..UptoSaid' is the law's where the arguments, and the package variables that the reading takes, are together of bulk at most 1048576: NARROWER than '..Said'. Prove '..Said' where nothing that the law and all that it calls make is longer than what came in: it says more and counts as full. Else prove '..UptoSaid'. A law counts once. -/
mutual
def uptoBulk {H : Type} : DataW H → Nat
  | .lit (.string bytes) => bytes.length + 1
  | .lit _ => 1
  | .nil => 1
  | .ptr d => uptoBulk d + 1
  | .slice elems spare => uptoBulkAll elems + uptoBulkAll spare + 1
  | .agg parts => uptoBulkAll parts + 1
  | .iface _ d => uptoBulk d + 1
  | .map entries => uptoBulkEntries entries + 1
  | .held _ => 1
def uptoBulkAll {H : Type} : List (DataW H) → Nat
  | [] => 0
  | d :: r => uptoBulk d + uptoBulkAll r
def uptoBulkEntries {H : Type} : List (Lit × DataW H) → Nat
  | [] => 0
  | x :: r => uptoBulkEntry x + uptoBulkEntries r
def uptoBulkEntry {H : Type} : Lit × DataW H → Nat
  | (.string bytes, d) => bytes.length + uptoBulk d + 1
  | (_, d) => uptoBulk d + 1
 end
def uptoSmall : (H : Type) → List (DataW H) → Bool := fun _ ds => decide (uptoBulkAll ds ≤ 1048576)
def OpenSpec.upto (s : _root_.Go.ChangeSpec) : _root_.Go.OpenSpec := { _root_.Go.OpenSpec.ofChange s with cond := some uptoSmall }

/-- 'bodkinlaw13.RingPlays', WHERE WHAT IT READS IS OF BULK AT MOST 1048576: true; the input reads as it did. -/
def ringPlaysUptoRow : OpenClaim := { program := "ytihagjkdghbkdaa", sum := "0a8bb7bd9fdda52dcab7f16d89707a35902b1a71f9e27509375cecc8c94706ff", func := "bodkin/bodkinlaw13.RingPlays", spec := "ringPlays", inPlace := ["slices.overlaps[string]"], apart := false, narrowed := true }
def RingPlaysUptoSaid : Prop := ringPlaysUptoRow.holds Try.pinned (OpenSpec.upto ringPlaysSpec)

/-- 'bodkinlaw13.RingRounds', WHERE WHAT IT READS IS OF BULK AT MOST 1048576: true; the input reads as it did. -/
def ringRoundsUptoRow : OpenClaim := { program := "ytihagjkdghbkdaa", sum := "0a8bb7bd9fdda52dcab7f16d89707a35902b1a71f9e27509375cecc8c94706ff", func := "bodkin/bodkinlaw13.RingRounds", spec := "ringRounds", inPlace := ["slices.overlaps[string]"], apart := false, narrowed := true }
def RingRoundsUptoSaid : Prop := ringRoundsUptoRow.holds Try.pinned (OpenSpec.upto ringRoundsSpec)

/-- 'bodkinlaw13.RingChains', WHERE WHAT IT READS IS OF BULK AT MOST 1048576: true; the input reads as it did. -/
def ringChainsUptoRow : OpenClaim := { program := "ytihagjkdghbkdaa", sum := "0a8bb7bd9fdda52dcab7f16d89707a35902b1a71f9e27509375cecc8c94706ff", func := "bodkin/bodkinlaw13.RingChains", spec := "ringChains", inPlace := ["slices.overlaps[string]"], apart := false, narrowed := true }
def RingChainsUptoSaid : Prop := ringChainsUptoRow.holds Try.pinned (OpenSpec.upto ringChainsSpec)

/-- 'bodkinlaw13.RingBounds', WHERE WHAT IT READS IS OF BULK AT MOST 1048576: true; the input reads as it did. -/
def ringBoundsUptoRow : OpenClaim := { program := "ytihagjkdghbkdaa", sum := "0a8bb7bd9fdda52dcab7f16d89707a35902b1a71f9e27509375cecc8c94706ff", func := "bodkin/bodkinlaw13.RingBounds", spec := "ringBounds", inPlace := ["slices.overlaps[string]"], apart := false, narrowed := true }
def RingBoundsUptoSaid : Prop := ringBoundsUptoRow.holds Try.pinned (OpenSpec.upto ringBoundsSpec)

/-- 'bodkinlaw13.RingNone', WHERE WHAT IT READS IS OF BULK AT MOST 1048576: true; the input reads as it did. -/
def ringNoneUptoRow : OpenClaim := { program := "ytihagjkdghbkdaa", sum := "0a8bb7bd9fdda52dcab7f16d89707a35902b1a71f9e27509375cecc8c94706ff", func := "bodkin/bodkinlaw13.RingNone", spec := "ringNone", inPlace := ["slices.overlaps[string]"], apart := false, narrowed := true }
def RingNoneUptoSaid : Prop := ringNoneUptoRow.holds Try.pinned (OpenSpec.upto ringNoneSpec)

/-- 'bodkinlaw13.RingFresh', WHERE WHAT IT READS IS OF BULK AT MOST 1048576: true; the input reads as it did. -/
def ringFreshUptoRow : OpenClaim := { program := "ytihagjkdghbkdaa", sum := "0a8bb7bd9fdda52dcab7f16d89707a35902b1a71f9e27509375cecc8c94706ff", func := "bodkin/bodkinlaw13.RingFresh", spec := "ringFresh", inPlace := ["slices.overlaps[string]"], apart := false, narrowed := true }
def RingFreshUptoSaid : Prop := ringFreshUptoRow.holds Try.pinned (OpenSpec.upto ringFreshSpec)

end Rows
end Go.Proofs.Ytihagjkdghbkdaa
