/-
  DERIVED. GIVEN WITH THE SEED: THE CARDS: each row of YtojkpkokjkjeeabDoorRows.lean that lists a variable, with what it lists TIED to the program's text (the seventh form; the later family's looks); each row that meets fmt, with fmt's text TOLD by the authors' own Lean function (tested against real Go, not proved from fmt's source: count such statements apart). THE CARD IS WHAT COUNTS. Prove the row's statement (the work); the ties are given (YtojkpkokjkjeeabDoorTie.lean); close each card by the builder's one call (the guide's Derived/Test/ToyasCard.lean, 'card_holds'). Laid BY PROGRAM, IN A SANDBOX (cutbox-door.mjs). By AI agents, Wed Nov 11 2026. No macro, syntax, notation, axiom, sorry.
-/
import Derived.Test.YtojkpkokjkjeeabDoorRows
import GoSem.ClaimSeven
namespace Go.Proofs.YtojkpkokjkjeeabDoor
namespace Rows

/-- THE TIED CARD OF 'bodkinlaw20.LayoutFits'. -/
def layoutFitsCard : Claim7 := { stood := { row := layoutFitsRow, standIns := [], harness := (true, "ee62ee5497c667d8a17542f9cbbf453987149868262d7e7b4be222efe645f75b"), looks := false }, kinds := [], alts := [], laidByText := true, laidKinds := [.data, .pinned], laidTests := true, laidLooks := .later }
def LayoutFitsCardSaid : Prop := Claim7.holds Tryd.pinned (.plain (OpenSpec.ofChange layoutFitsSpec)) layoutFitsCard

/-- THE TIED CARD OF 'bodkinlaw20.LayoutShows'. -/
def layoutShowsCard : Claim7 := { stood := { row := layoutShowsRow, standIns := [], harness := (true, "ee62ee5497c667d8a17542f9cbbf453987149868262d7e7b4be222efe645f75b"), looks := false }, kinds := [], alts := [], laidByText := true, laidKinds := [.data, .pinned], laidTests := true, laidLooks := .later }
def LayoutShowsCardSaid : Prop := Claim7.holds Tryd.pinned (.plain (OpenSpec.ofChange layoutShowsSpec)) layoutShowsCard

/-- THE TIED CARD OF 'bodkinlaw20.LayoutLines'. -/
def layoutLinesCard : Claim7 := { stood := { row := layoutLinesRow, standIns := [], harness := (true, "ee62ee5497c667d8a17542f9cbbf453987149868262d7e7b4be222efe645f75b"), looks := false }, kinds := [], alts := [], laidByText := true, laidKinds := [.data, .pinned], laidTests := true, laidLooks := .later }
def LayoutLinesCardSaid : Prop := Claim7.holds Tryd.pinned (.plain (OpenSpec.ofChange layoutLinesSpec)) layoutLinesCard

/-- THE SECOND FORM's CARD OF 'bodkinlaw20.LayoutFits'. -/
def layoutFitsUptoCard : Claim7 := { stood := { row := layoutFitsUptoRow, standIns := [], harness := (true, "ee62ee5497c667d8a17542f9cbbf453987149868262d7e7b4be222efe645f75b"), looks := false }, kinds := [], alts := [], laidByText := true, laidKinds := [.data, .pinned], laidTests := true, laidLooks := .later }
def LayoutFitsUptoCardSaid : Prop := Claim7.holds Tryd.pinned (.plain (OpenSpec.upto layoutFitsSpec)) layoutFitsUptoCard

/-- THE SECOND FORM's CARD OF 'bodkinlaw20.LayoutShows'. -/
def layoutShowsUptoCard : Claim7 := { stood := { row := layoutShowsUptoRow, standIns := [], harness := (true, "ee62ee5497c667d8a17542f9cbbf453987149868262d7e7b4be222efe645f75b"), looks := false }, kinds := [], alts := [], laidByText := true, laidKinds := [.data, .pinned], laidTests := true, laidLooks := .later }
def LayoutShowsUptoCardSaid : Prop := Claim7.holds Tryd.pinned (.plain (OpenSpec.upto layoutShowsSpec)) layoutShowsUptoCard

/-- THE SECOND FORM's CARD OF 'bodkinlaw20.LayoutLines'. -/
def layoutLinesUptoCard : Claim7 := { stood := { row := layoutLinesUptoRow, standIns := [], harness := (true, "ee62ee5497c667d8a17542f9cbbf453987149868262d7e7b4be222efe645f75b"), looks := false }, kinds := [], alts := [], laidByText := true, laidKinds := [.data, .pinned], laidTests := true, laidLooks := .later }
def LayoutLinesUptoCardSaid : Prop := Claim7.holds Tryd.pinned (.plain (OpenSpec.upto layoutLinesSpec)) layoutLinesUptoCard
end Rows
end Go.Proofs.YtojkpkokjkjeeabDoor
