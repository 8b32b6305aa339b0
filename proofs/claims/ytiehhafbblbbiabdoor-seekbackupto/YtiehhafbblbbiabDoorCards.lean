/-
  DERIVED. GIVEN WITH THE SEED: THE CARDS: each row of YtiehhafbblbbiabDoorRows.lean that lists a variable, with what it lists TIED to the program's text (the seventh form; the later family's looks); each row that meets fmt, with fmt's text TOLD by the authors' own Lean function (tested against real Go, not proved from fmt's source: count such statements apart). THE CARD IS WHAT COUNTS. Prove the row's statement (the work); the ties are given (YtiehhafbblbbiabDoorTie.lean); close each card by the builder's one call (the guide's Derived/Test/ToyasCard.lean, 'card_holds'). Laid BY PROGRAM, IN A SANDBOX (cutbox-door.mjs). By AI agents, Wed Nov 11 2026. No macro, syntax, notation, axiom, sorry.
-/
import Derived.Test.YtiehhafbblbbiabDoorRows
import GoSem.ClaimSeven
namespace Go.Proofs.YtiehhafbblbbiabDoor
namespace Rows

/-- THE TIED CARD OF 'bodkinlaw08.SeekBack'. -/
def seekBackCard : Claim7 := { stood := { row := seekBackRow, standIns := [], harness := (true, "ce08dc56c541fda96ee66d8c33ecdfe967e4175d105057138c4d7826bcb8e3d3"), looks := true }, kinds := [], alts := [], laidByText := true, laidKinds := [.data, .pinned], laidTests := true, laidLooks := .later }
def SeekBackCardSaid : Prop := Claim7.holds Tryd.pinned (.plain (OpenSpec.ofChange seekBackSpec)) seekBackCard

/-- THE SECOND FORM's CARD OF 'bodkinlaw08.SeekBack'. -/
def seekBackUptoCard : Claim7 := { stood := { row := seekBackUptoRow, standIns := [], harness := (true, "ce08dc56c541fda96ee66d8c33ecdfe967e4175d105057138c4d7826bcb8e3d3"), looks := true }, kinds := [], alts := [], laidByText := true, laidKinds := [.data, .pinned], laidTests := true, laidLooks := .later }
def SeekBackUptoCardSaid : Prop := Claim7.holds Tryd.pinned (.plain (OpenSpec.upto seekBackSpec)) seekBackUptoCard
end Rows
end Go.Proofs.YtiehhafbblbbiabDoor
