/-
  DERIVED. GIVEN WITH THE SEED: THE CARDS: each row of YtenkmidlipjobaaGreatDoorRows.lean that lists a variable, with what it lists TIED to the program's text (the seventh form; the later family's looks); each row that meets fmt, with fmt's text TOLD by the authors' own Lean function (tested against real Go, not proved from fmt's source: count such statements apart). THE CARD IS WHAT COUNTS. Prove the row's statement (the work); the ties are given (YtenkmidlipjobaaGreatDoorTie.lean); close each card by the builder's one call (the guide's Derived/Test/ToyasCard.lean, 'card_holds'). Laid BY PROGRAM, IN A SANDBOX (cutbox-door.mjs). By AI agents, Wed Nov 11 2026. No macro, syntax, notation, axiom, sorry.
-/
import Derived.Test.YtenkmidlipjobaaGreatDoorRows
import GoSem.ClaimSeven
namespace Go.Proofs.YtenkmidlipjobaaGreatDoor
namespace Rows

/-- THE TIED CARD OF 'bodkinlaw16.MoveGoes'. -/
def moveGoesCard : Claim7 := { stood := { row := moveGoesRow, standIns := [], harness := (true, "a1d29abecf4eb1fcb3b876581ff71c78b8d456f98c400f12a19a4597d92079e3"), looks := true }, kinds := [], alts := [], laidByText := true, laidKinds := [.data, .pinned], laidTests := true, laidLooks := .later }
def MoveGoesCardSaid : Prop := Claim7.holds Tryz.pinned (.plain (OpenSpec.ofChange moveGoesSpec)) moveGoesCard

/-- THE TIED CARD OF 'bodkinlaw16.MoveWalks'. -/
def moveWalksCard : Claim7 := { stood := { row := moveWalksRow, standIns := [], harness := (true, "a1d29abecf4eb1fcb3b876581ff71c78b8d456f98c400f12a19a4597d92079e3"), looks := true }, kinds := [], alts := [], laidByText := true, laidKinds := [.data, .pinned], laidTests := true, laidLooks := .later }
def MoveWalksCardSaid : Prop := Claim7.holds Tryz.pinned (.plain (OpenSpec.ofChange moveWalksSpec)) moveWalksCard

/-- THE TIED CARD OF 'bodkinlaw16.MovePlaces'. -/
def movePlacesCard : Claim7 := { stood := { row := movePlacesRow, standIns := [], harness := (true, "a1d29abecf4eb1fcb3b876581ff71c78b8d456f98c400f12a19a4597d92079e3"), looks := true }, kinds := [], alts := [], laidByText := true, laidKinds := [.data, .pinned], laidTests := true, laidLooks := .later }
def MovePlacesCardSaid : Prop := Claim7.holds Tryz.pinned (.plain (OpenSpec.ofChange movePlacesSpec)) movePlacesCard

/-- THE TIED CARD OF 'bodkinlaw16.MoveStays'. -/
def moveStaysCard : Claim7 := { stood := { row := moveStaysRow, standIns := [], harness := (true, "a1d29abecf4eb1fcb3b876581ff71c78b8d456f98c400f12a19a4597d92079e3"), looks := true }, kinds := [], alts := [], laidByText := true, laidKinds := [.data, .pinned], laidTests := true, laidLooks := .later }
def MoveStaysCardSaid : Prop := Claim7.holds Tryz.pinned (.plain (OpenSpec.ofChange moveStaysSpec)) moveStaysCard

/-- THE TIED CARD OF 'bodkinlaw16.MoveEnds'. -/
def moveEndsCard : Claim7 := { stood := { row := moveEndsRow, standIns := [], harness := (true, "a1d29abecf4eb1fcb3b876581ff71c78b8d456f98c400f12a19a4597d92079e3"), looks := true }, kinds := [], alts := [], laidByText := true, laidKinds := [.data, .pinned], laidTests := true, laidLooks := .later }
def MoveEndsCardSaid : Prop := Claim7.holds Tryz.pinned (.plain (OpenSpec.ofChange moveEndsSpec)) moveEndsCard

/-- THE TIED CARD OF 'bodkinlaw11.LinesWalks'. -/
def linesWalksCard : Claim7 := { stood := { row := linesWalksRow, standIns := [], harness := (true, "a1d29abecf4eb1fcb3b876581ff71c78b8d456f98c400f12a19a4597d92079e3"), looks := true }, kinds := [], alts := [], laidByText := true, laidKinds := [.data, .pinned], laidTests := true, laidLooks := .later }
def LinesWalksCardSaid : Prop := Claim7.holds Tryz.pinned (.plain (OpenSpec.ofChange linesWalksSpec)) linesWalksCard

/-- THE SECOND FORM's CARD OF 'bodkinlaw16.MoveGoes'. -/
def moveGoesUptoCard : Claim7 := { stood := { row := moveGoesUptoRow, standIns := [], harness := (true, "a1d29abecf4eb1fcb3b876581ff71c78b8d456f98c400f12a19a4597d92079e3"), looks := true }, kinds := [], alts := [], laidByText := true, laidKinds := [.data, .pinned], laidTests := true, laidLooks := .later }
def MoveGoesUptoCardSaid : Prop := Claim7.holds Tryz.pinned (.plain (OpenSpec.upto moveGoesSpec)) moveGoesUptoCard

/-- THE SECOND FORM's CARD OF 'bodkinlaw16.MoveWalks'. -/
def moveWalksUptoCard : Claim7 := { stood := { row := moveWalksUptoRow, standIns := [], harness := (true, "a1d29abecf4eb1fcb3b876581ff71c78b8d456f98c400f12a19a4597d92079e3"), looks := true }, kinds := [], alts := [], laidByText := true, laidKinds := [.data, .pinned], laidTests := true, laidLooks := .later }
def MoveWalksUptoCardSaid : Prop := Claim7.holds Tryz.pinned (.plain (OpenSpec.upto moveWalksSpec)) moveWalksUptoCard

/-- THE SECOND FORM's CARD OF 'bodkinlaw16.MovePlaces'. -/
def movePlacesUptoCard : Claim7 := { stood := { row := movePlacesUptoRow, standIns := [], harness := (true, "a1d29abecf4eb1fcb3b876581ff71c78b8d456f98c400f12a19a4597d92079e3"), looks := true }, kinds := [], alts := [], laidByText := true, laidKinds := [.data, .pinned], laidTests := true, laidLooks := .later }
def MovePlacesUptoCardSaid : Prop := Claim7.holds Tryz.pinned (.plain (OpenSpec.upto movePlacesSpec)) movePlacesUptoCard

/-- THE SECOND FORM's CARD OF 'bodkinlaw16.MoveStays'. -/
def moveStaysUptoCard : Claim7 := { stood := { row := moveStaysUptoRow, standIns := [], harness := (true, "a1d29abecf4eb1fcb3b876581ff71c78b8d456f98c400f12a19a4597d92079e3"), looks := true }, kinds := [], alts := [], laidByText := true, laidKinds := [.data, .pinned], laidTests := true, laidLooks := .later }
def MoveStaysUptoCardSaid : Prop := Claim7.holds Tryz.pinned (.plain (OpenSpec.upto moveStaysSpec)) moveStaysUptoCard

/-- THE SECOND FORM's CARD OF 'bodkinlaw16.MoveEnds'. -/
def moveEndsUptoCard : Claim7 := { stood := { row := moveEndsUptoRow, standIns := [], harness := (true, "a1d29abecf4eb1fcb3b876581ff71c78b8d456f98c400f12a19a4597d92079e3"), looks := true }, kinds := [], alts := [], laidByText := true, laidKinds := [.data, .pinned], laidTests := true, laidLooks := .later }
def MoveEndsUptoCardSaid : Prop := Claim7.holds Tryz.pinned (.plain (OpenSpec.upto moveEndsSpec)) moveEndsUptoCard

/-- THE SECOND FORM's CARD OF 'bodkinlaw11.LinesWalks'. -/
def linesWalksUptoCard : Claim7 := { stood := { row := linesWalksUptoRow, standIns := [], harness := (true, "a1d29abecf4eb1fcb3b876581ff71c78b8d456f98c400f12a19a4597d92079e3"), looks := true }, kinds := [], alts := [], laidByText := true, laidKinds := [.data, .pinned], laidTests := true, laidLooks := .later }
def LinesWalksUptoCardSaid : Prop := Claim7.holds Tryz.pinned (.plain (OpenSpec.upto linesWalksSpec)) linesWalksUptoCard
end Rows
end Go.Proofs.YtenkmidlipjobaaGreatDoor
