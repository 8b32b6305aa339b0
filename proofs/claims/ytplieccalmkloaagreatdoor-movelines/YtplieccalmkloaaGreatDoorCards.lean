/-
  DERIVED. GIVEN WITH THE SEED: THE CARDS: each row of YtplieccalmkloaaGreatDoorRows.lean that lists a variable, with what it lists TIED to the program's text (the seventh form; the later family's looks); each row that meets fmt, with fmt's text TOLD by the authors' own Lean function (tested against real Go, not proved from fmt's source: count such statements apart). THE CARD IS WHAT COUNTS. Prove the row's statement (the work); the ties are given (YtplieccalmkloaaGreatDoorTie.lean); close each card by the builder's one call (the guide's Derived/Test/ToyasCard.lean, 'card_holds'). Laid BY PROGRAM, IN A SANDBOX (cutbox-door.mjs). By AI agents, Wed Nov 11 2026. No macro, syntax, notation, axiom, sorry.
-/
import Derived.Test.YtplieccalmkloaaGreatDoorRows
import GoSem.ClaimSeven
namespace Go.Proofs.YtplieccalmkloaaGreatDoor
namespace Rows

/-- THE TIED CARD OF 'bodkinlaw16.MoveLines'. -/
def moveLinesCard : Claim7 := { stood := { row := moveLinesRow, standIns := [], harness := (true, "9c271c93e43a4ea26c248f4cc393364d76ca2939c9f8c271c7fd22cd2fcbd6f1"), looks := true }, kinds := [], alts := [], laidByText := true, laidKinds := [.data, .pinned], laidTests := true, laidLooks := .later }
def MoveLinesCardSaid : Prop := Claim7.holds Tryz.pinned (.plain (OpenSpec.ofChange moveLinesSpec)) moveLinesCard

/-- THE TIED CARD OF 'bodkinlaw16.MoveGoal'. -/
def moveGoalCard : Claim7 := { stood := { row := moveGoalRow, standIns := [], harness := (true, "9c271c93e43a4ea26c248f4cc393364d76ca2939c9f8c271c7fd22cd2fcbd6f1"), looks := true }, kinds := [], alts := [], laidByText := true, laidKinds := [.data, .pinned], laidTests := true, laidLooks := .later }
def MoveGoalCardSaid : Prop := Claim7.holds Tryz.pinned (.plain (OpenSpec.ofChange moveGoalSpec)) moveGoalCard

/-- THE TIED CARD OF 'bodkinlaw11.LinesWalks'. -/
def linesWalksCard : Claim7 := { stood := { row := linesWalksRow, standIns := [], harness := (true, "9c271c93e43a4ea26c248f4cc393364d76ca2939c9f8c271c7fd22cd2fcbd6f1"), looks := true }, kinds := [], alts := [], laidByText := true, laidKinds := [.data, .pinned], laidTests := true, laidLooks := .later }
def LinesWalksCardSaid : Prop := Claim7.holds Tryz.pinned (.plain (OpenSpec.ofChange linesWalksSpec)) linesWalksCard

/-- THE SECOND FORM's CARD OF 'bodkinlaw16.MoveLines'. -/
def moveLinesUptoCard : Claim7 := { stood := { row := moveLinesUptoRow, standIns := [], harness := (true, "9c271c93e43a4ea26c248f4cc393364d76ca2939c9f8c271c7fd22cd2fcbd6f1"), looks := true }, kinds := [], alts := [], laidByText := true, laidKinds := [.data, .pinned], laidTests := true, laidLooks := .later }
def MoveLinesUptoCardSaid : Prop := Claim7.holds Tryz.pinned (.plain (OpenSpec.upto moveLinesSpec)) moveLinesUptoCard

/-- THE SECOND FORM's CARD OF 'bodkinlaw16.MoveGoal'. -/
def moveGoalUptoCard : Claim7 := { stood := { row := moveGoalUptoRow, standIns := [], harness := (true, "9c271c93e43a4ea26c248f4cc393364d76ca2939c9f8c271c7fd22cd2fcbd6f1"), looks := true }, kinds := [], alts := [], laidByText := true, laidKinds := [.data, .pinned], laidTests := true, laidLooks := .later }
def MoveGoalUptoCardSaid : Prop := Claim7.holds Tryz.pinned (.plain (OpenSpec.upto moveGoalSpec)) moveGoalUptoCard

/-- THE SECOND FORM's CARD OF 'bodkinlaw11.LinesWalks'. -/
def linesWalksUptoCard : Claim7 := { stood := { row := linesWalksUptoRow, standIns := [], harness := (true, "9c271c93e43a4ea26c248f4cc393364d76ca2939c9f8c271c7fd22cd2fcbd6f1"), looks := true }, kinds := [], alts := [], laidByText := true, laidKinds := [.data, .pinned], laidTests := true, laidLooks := .later }
def LinesWalksUptoCardSaid : Prop := Claim7.holds Tryz.pinned (.plain (OpenSpec.upto linesWalksSpec)) linesWalksUptoCard
end Rows
end Go.Proofs.YtplieccalmkloaaGreatDoor
