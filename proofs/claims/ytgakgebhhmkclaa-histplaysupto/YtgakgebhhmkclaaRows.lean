/-
  No cell of these rows narrows 'for every input' (looked for: loops, veiled, ifaces, maps, wideKeys, modest, calm, conditions, laid).
  DERIVED. THE GIVEN ROWS OF THIS SEAT. 6 by the template 'for every input the law returns true; each argument reads behind the call as it read before'; 0 by the template 'total and deterministic' (their statements: YtgakgebhhmkclaaTotals.lean).
  GIVEN WITH THE SEED: the statements are not yours to turn. If you find one false, say at which input.
  Laid BY PROGRAM, IN A SANDBOX (cutbox-rows.mjs): the forced cells as the released guide's own fill.sh prints them over the translation 1d853ed20bc1e349… (all of the seat's roots in one cut). By AI agents, Wed Nov 11 2026. No macro, syntax, notation, axiom, sorry.
-/
import Derived.Test.YtgakgebhhmkclaaChecked
import GoSem.Claim
import GoSem.ClaimJoined
import GoSem.ClaimMapViews
import Derived.JoinedTies
import Derived.KernelRfl
namespace Go.Proofs.Ytgakgebhhmkclaa
/- THE CELL 'sum', in the pinned program and in every row, IS THE sha256 OF THE DUMP (.gsa) THAT YtgakgebhhmkclaaProg.lean LOADS. Nothing in Lean hashes anything: it is a label: what it is worth is what the hold of that sum in a sandbox is worth. -/
noncomputable def Try.pinned : Pinned := { name := "ytgakgebhhmkclaa", sum := "1d853ed20bc1e3492bd90100305f28654af51196cd5406a1e028148b29a132e9", checked := Try.checked }
namespace Rows
def none {H : Type} : Left H := { results := [], args := [] }

/-- 'bodkinlaw14.HistPlays': WHATEVER THE INPUT: true; the input reads as it did. -/
def histPlaysSpec : ChangeSpec := { name := "histPlays", fn := fun _ => fun
  | [d1, d2] => { results := [.lit (.bool true)], args := [d1, d2] }
  | _ => none }
def histPlaysRow : OpenClaim := { program := "ytgakgebhhmkclaa", sum := "1d853ed20bc1e3492bd90100305f28654af51196cd5406a1e028148b29a132e9", func := "bodkin/bodkinlaw14.HistPlays", spec := "histPlays", apart := false }
def HistPlaysSaid : Prop := histPlaysRow.holds Try.pinned (OpenSpec.ofChange histPlaysSpec)

/-- ITS FALSE NEIGHBOUR: 'it returns false'. Refute it at one input. -/
def histPlaysWrong : ChangeSpec := { name := "histPlays", fn := fun _ => fun
  | [d1, d2] => { results := [.lit (.bool false)], args := [d1, d2] }
  | _ => none }
def HistPlaysWrongFalsely : Prop := histPlaysRow.holds Try.pinned (OpenSpec.ofChange histPlaysWrong)

/-- 'bodkinlaw14.HistKeeps': WHATEVER THE INPUT: true; the input reads as it did. -/
def histKeepsSpec : ChangeSpec := { name := "histKeeps", fn := fun _ => fun
  | [d1, d2] => { results := [.lit (.bool true)], args := [d1, d2] }
  | _ => none }
def histKeepsRow : OpenClaim := { program := "ytgakgebhhmkclaa", sum := "1d853ed20bc1e3492bd90100305f28654af51196cd5406a1e028148b29a132e9", func := "bodkin/bodkinlaw14.HistKeeps", spec := "histKeeps", apart := false }
def HistKeepsSaid : Prop := histKeepsRow.holds Try.pinned (OpenSpec.ofChange histKeepsSpec)

/-- ITS FALSE NEIGHBOUR: 'it returns false'. Refute it at one input. -/
def histKeepsWrong : ChangeSpec := { name := "histKeeps", fn := fun _ => fun
  | [d1, d2] => { results := [.lit (.bool false)], args := [d1, d2] }
  | _ => none }
def HistKeepsWrongFalsely : Prop := histKeepsRow.holds Try.pinned (OpenSpec.ofChange histKeepsWrong)

/-- 'bodkinlaw14.HistNil': WHATEVER THE INPUT: true; the input reads as it did. -/
def histNilSpec : ChangeSpec := { name := "histNil", fn := fun _ => fun
  | [d] => { results := [.lit (.bool true)], args := [d] }
  | _ => none }
def histNilRow : OpenClaim := { program := "ytgakgebhhmkclaa", sum := "1d853ed20bc1e3492bd90100305f28654af51196cd5406a1e028148b29a132e9", func := "bodkin/bodkinlaw14.HistNil", spec := "histNil", apart := false }
def HistNilSaid : Prop := histNilRow.holds Try.pinned (OpenSpec.ofChange histNilSpec)

/-- ITS FALSE NEIGHBOUR: 'it returns false'. Refute it at one input. -/
def histNilWrong : ChangeSpec := { name := "histNil", fn := fun _ => fun
  | [d] => { results := [.lit (.bool false)], args := [d] }
  | _ => none }
def HistNilWrongFalsely : Prop := histNilRow.holds Try.pinned (OpenSpec.ofChange histNilWrong)

/-- 'bodkinlaw14.HistBounds': WHATEVER THE INPUT: true; the input reads as it did. -/
def histBoundsSpec : ChangeSpec := { name := "histBounds", fn := fun _ => fun
  | [d1, d2] => { results := [.lit (.bool true)], args := [d1, d2] }
  | _ => none }
def histBoundsRow : OpenClaim := { program := "ytgakgebhhmkclaa", sum := "1d853ed20bc1e3492bd90100305f28654af51196cd5406a1e028148b29a132e9", func := "bodkin/bodkinlaw14.HistBounds", spec := "histBounds", apart := false }
def HistBoundsSaid : Prop := histBoundsRow.holds Try.pinned (OpenSpec.ofChange histBoundsSpec)

/-- ITS FALSE NEIGHBOUR: 'it returns false'. Refute it at one input. -/
def histBoundsWrong : ChangeSpec := { name := "histBounds", fn := fun _ => fun
  | [d1, d2] => { results := [.lit (.bool false)], args := [d1, d2] }
  | _ => none }
def HistBoundsWrongFalsely : Prop := histBoundsRow.holds Try.pinned (OpenSpec.ofChange histBoundsWrong)

/-- 'bodkinlaw14.HistWalks': WHATEVER THE INPUT: true; the input reads as it did. -/
def histWalksSpec : ChangeSpec := { name := "histWalks", fn := fun _ => fun
  | [d1, d2, d3] => { results := [.lit (.bool true)], args := [d1, d2, d3] }
  | _ => none }
def histWalksRow : OpenClaim := { program := "ytgakgebhhmkclaa", sum := "1d853ed20bc1e3492bd90100305f28654af51196cd5406a1e028148b29a132e9", func := "bodkin/bodkinlaw14.HistWalks", spec := "histWalks", apart := false }
def HistWalksSaid : Prop := histWalksRow.holds Try.pinned (OpenSpec.ofChange histWalksSpec)

/-- ITS FALSE NEIGHBOUR: 'it returns false'. Refute it at one input. -/
def histWalksWrong : ChangeSpec := { name := "histWalks", fn := fun _ => fun
  | [d1, d2, d3] => { results := [.lit (.bool false)], args := [d1, d2, d3] }
  | _ => none }
def HistWalksWrongFalsely : Prop := histWalksRow.holds Try.pinned (OpenSpec.ofChange histWalksWrong)

/-- 'bodkinlaw14.HistGoes': WHATEVER THE INPUT: true; the input reads as it did. -/
def histGoesSpec : ChangeSpec := { name := "histGoes", fn := fun _ => fun
  | [d1, d2, d3, d4] => { results := [.lit (.bool true)], args := [d1, d2, d3, d4] }
  | _ => none }
def histGoesRow : OpenClaim := { program := "ytgakgebhhmkclaa", sum := "1d853ed20bc1e3492bd90100305f28654af51196cd5406a1e028148b29a132e9", func := "bodkin/bodkinlaw14.HistGoes", spec := "histGoes", apart := false }
def HistGoesSaid : Prop := histGoesRow.holds Try.pinned (OpenSpec.ofChange histGoesSpec)

/-- ITS FALSE NEIGHBOUR: 'it returns false'. Refute it at one input. -/
def histGoesWrong : ChangeSpec := { name := "histGoes", fn := fun _ => fun
  | [d1, d2, d3, d4] => { results := [.lit (.bool false)], args := [d1, d2, d3, d4] }
  | _ => none }
def HistGoesWrongFalsely : Prop := histGoesRow.holds Try.pinned (OpenSpec.ofChange histGoesWrong)

/- THE SECOND FORM. 'bulk': how many values and letters a reading holds, each counted each time it is reached (what is shared counts as often as it is met; a slice's spare places count too). A statement '..UptoSaid' is the law's where the arguments, and the package variables that the reading takes, are together of bulk at most 1048576: NARROWER than '..Said'. Prove '..Said' where nothing that the law and all that it calls make is longer than what came in: it says more and counts as full. Else prove '..UptoSaid'. A law counts once. -/
mutual
def uptoBulk {H : Type} : DataW H → Nat
  | .lit (.string bytes) => bytes.length + 1
  | .lit _ => 1
  | .nil => 1
  | .ptr d => uptoBulk d + 1
  | .slice elems spare => uptoBulkAll elems + uptoBulkAll spare + 1
  | .agg parts => uptoBulkAll parts + 1
  | .iface _ d => uptoBulk d + 1
  | .map entries => uptoBulkEntries entries + 1
  | .held _ => 1
def uptoBulkAll {H : Type} : List (DataW H) → Nat
  | [] => 0
  | d :: r => uptoBulk d + uptoBulkAll r
def uptoBulkEntries {H : Type} : List (Lit × DataW H) → Nat
  | [] => 0
  | x :: r => uptoBulkEntry x + uptoBulkEntries r
def uptoBulkEntry {H : Type} : Lit × DataW H → Nat
  | (.string bytes, d) => bytes.length + uptoBulk d + 1
  | (_, d) => uptoBulk d + 1
 end
def uptoSmall : (H : Type) → List (DataW H) → Bool := fun _ ds => decide (uptoBulkAll ds ≤ 1048576)
def OpenSpec.upto (s : _root_.Go.ChangeSpec) : _root_.Go.OpenSpec := { _root_.Go.OpenSpec.ofChange s with cond := some uptoSmall }

/-- 'bodkinlaw14.HistPlays', WHERE WHAT IT READS IS OF BULK AT MOST 1048576: true; the input reads as it did. -/
def histPlaysUptoRow : OpenClaim := { program := "ytgakgebhhmkclaa", sum := "1d853ed20bc1e3492bd90100305f28654af51196cd5406a1e028148b29a132e9", func := "bodkin/bodkinlaw14.HistPlays", spec := "histPlays", apart := false, narrowed := true }
def HistPlaysUptoSaid : Prop := histPlaysUptoRow.holds Try.pinned (OpenSpec.upto histPlaysSpec)

/-- 'bodkinlaw14.HistKeeps', WHERE WHAT IT READS IS OF BULK AT MOST 1048576: true; the input reads as it did. -/
def histKeepsUptoRow : OpenClaim := { program := "ytgakgebhhmkclaa", sum := "1d853ed20bc1e3492bd90100305f28654af51196cd5406a1e028148b29a132e9", func := "bodkin/bodkinlaw14.HistKeeps", spec := "histKeeps", apart := false, narrowed := true }
def HistKeepsUptoSaid : Prop := histKeepsUptoRow.holds Try.pinned (OpenSpec.upto histKeepsSpec)

/-- 'bodkinlaw14.HistNil', WHERE WHAT IT READS IS OF BULK AT MOST 1048576: true; the input reads as it did. -/
def histNilUptoRow : OpenClaim := { program := "ytgakgebhhmkclaa", sum := "1d853ed20bc1e3492bd90100305f28654af51196cd5406a1e028148b29a132e9", func := "bodkin/bodkinlaw14.HistNil", spec := "histNil", apart := false, narrowed := true }
def HistNilUptoSaid : Prop := histNilUptoRow.holds Try.pinned (OpenSpec.upto histNilSpec)

/-- 'bodkinlaw14.HistBounds', WHERE WHAT IT READS IS OF BULK AT MOST 1048576: true; the input reads as it did. -/
def histBoundsUptoRow : OpenClaim := { program := "ytgakgebhhmkclaa", sum := "1d853ed20bc1e3492bd90100305f28654af51196cd5406a1e028148b29a132e9", func := "bodkin/bodkinlaw14.HistBounds", spec := "histBounds", apart := false, narrowed := true }
def HistBoundsUptoSaid : Prop := histBoundsUptoRow.holds Try.pinned (OpenSpec.upto histBoundsSpec)

/-- 'bodkinlaw14.HistWalks', WHERE WHAT IT READS IS OF BULK AT MOST 1048576: true; the input reads as it did. -/
def histWalksUptoRow : OpenClaim := { program := "ytgakgebhhmkclaa", sum := "1d853ed20bc1e3492bd90100305f28654af51196cd5406a1e028148b29a132e9", func := "bodkin/bodkinlaw14.HistWalks", spec := "histWalks", apart := false, narrowed := true }
def HistWalksUptoSaid : Prop := histWalksUptoRow.holds Try.pinned (OpenSpec.upto histWalksSpec)

/-- 'bodkinlaw14.HistGoes', WHERE WHAT IT READS IS OF BULK AT MOST 1048576: true; the input reads as it did. -/
def histGoesUptoRow : OpenClaim := { program := "ytgakgebhhmkclaa", sum := "1d853ed20bc1e3492bd90100305f28654af51196cd5406a1e028148b29a132e9", func := "bodkin/bodkinlaw14.HistGoes", spec := "histGoes", apart := false, narrowed := true }
def HistGoesUptoSaid : Prop := histGoesUptoRow.holds Try.pinned (OpenSpec.upto histGoesSpec)

end Rows
end Go.Proofs.Ytgakgebhhmkclaa
