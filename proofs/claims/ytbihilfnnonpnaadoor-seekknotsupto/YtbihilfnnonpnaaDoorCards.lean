/-
  DERIVED. GIVEN WITH THE SEED: THE CARDS: each row of YtbihilfnnonpnaaDoorRows.lean that lists a variable, with what it lists TIED to the program's text (the seventh form; the later family's looks); each row that meets fmt, with fmt's text TOLD by the authors' own Lean function (tested against real Go, not proved from fmt's source: count such statements apart). THE CARD IS WHAT COUNTS. Prove the row's statement (the work); the ties are given (YtbihilfnnonpnaaDoorTie.lean); close each card by the builder's one call (the guide's Derived/Test/ToyasCard.lean, 'card_holds'). Laid BY PROGRAM, IN A SANDBOX (cutbox-door.mjs). By AI agents, Wed Nov 11 2026. No macro, syntax, notation, axiom, sorry.
-/
import Derived.Test.YtbihilfnnonpnaaDoorRows
import GoSem.ClaimSeven
namespace Go.Proofs.YtbihilfnnonpnaaDoor
namespace Rows

/-- THE TIED CARD OF 'bodkinlaw08.SeekNil'. -/
def seekNilCard : Claim7 := { stood := { row := seekNilRow, standIns := [], harness := (true, "01e8eeb6c3df18fffef27d11fa7a0ef39247ddff665d52001a7b7de515df44df"), looks := true }, kinds := [], alts := [], laidByText := true, laidKinds := [.data, .pinned], laidTests := true, laidLooks := .later }
def SeekNilCardSaid : Prop := Claim7.holds Tryd.pinned (.plain (OpenSpec.ofChange seekNilSpec)) seekNilCard

/-- THE TIED CARD OF 'bodkinlaw08.SeekKnots'. -/
def seekKnotsCard : Claim7 := { stood := { row := seekKnotsRow, standIns := [], harness := (true, "01e8eeb6c3df18fffef27d11fa7a0ef39247ddff665d52001a7b7de515df44df"), looks := true }, kinds := [], alts := [], laidByText := true, laidKinds := [.data, .pinned], laidTests := true, laidLooks := .later }
def SeekKnotsCardSaid : Prop := Claim7.holds Tryd.pinned (.plain (OpenSpec.ofChange seekKnotsSpec)) seekKnotsCard

/-- THE SECOND FORM's CARD OF 'bodkinlaw08.SeekNil'. -/
def seekNilUptoCard : Claim7 := { stood := { row := seekNilUptoRow, standIns := [], harness := (true, "01e8eeb6c3df18fffef27d11fa7a0ef39247ddff665d52001a7b7de515df44df"), looks := true }, kinds := [], alts := [], laidByText := true, laidKinds := [.data, .pinned], laidTests := true, laidLooks := .later }
def SeekNilUptoCardSaid : Prop := Claim7.holds Tryd.pinned (.plain (OpenSpec.upto seekNilSpec)) seekNilUptoCard

/-- THE SECOND FORM's CARD OF 'bodkinlaw08.SeekKnots'. -/
def seekKnotsUptoCard : Claim7 := { stood := { row := seekKnotsUptoRow, standIns := [], harness := (true, "01e8eeb6c3df18fffef27d11fa7a0ef39247ddff665d52001a7b7de515df44df"), looks := true }, kinds := [], alts := [], laidByText := true, laidKinds := [.data, .pinned], laidTests := true, laidLooks := .later }
def SeekKnotsUptoCardSaid : Prop := Claim7.holds Tryd.pinned (.plain (OpenSpec.upto seekKnotsSpec)) seekKnotsUptoCard
end Rows
end Go.Proofs.YtbihilfnnonpnaaDoor
