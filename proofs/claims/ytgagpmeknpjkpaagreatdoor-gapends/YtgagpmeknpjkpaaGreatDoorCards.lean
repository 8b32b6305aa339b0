/-
  DERIVED. GIVEN WITH THE SEED: THE CARDS: each row of YtgagpmeknpjkpaaGreatDoorRows.lean that lists a variable, with what it lists TIED to the program's text (the seventh form; the later family's looks); each row that meets fmt, with fmt's text TOLD by the authors' own Lean function (tested against real Go, not proved from fmt's source: count such statements apart). THE CARD IS WHAT COUNTS. Prove the row's statement (the work); the ties are given (YtgagpmeknpjkpaaGreatDoorTie.lean); close each card by the builder's one call (the guide's Derived/Test/ToyasCard.lean, 'card_holds'). Laid BY PROGRAM, IN A SANDBOX (cutbox-door.mjs). By AI agents, Wed Nov 11 2026. No macro, syntax, notation, axiom, sorry.
-/
import Derived.Test.YtgagpmeknpjkpaaGreatDoorRows
import GoSem.ClaimSeven
namespace Go.Proofs.YtgagpmeknpjkpaaGreatDoor
namespace Rows

/-- THE TIED CARD OF 'bodkinlaw06.GapPlays'. -/
def gapPlaysCard : Claim7 := { stood := { row := gapPlaysRow, standIns := [], harness := (true, "0c2cbbb0ab60e3f2a980eff716e9eeb75e14fd76ef836b17479997dbb93b1961"), looks := false }, kinds := [], alts := [], laidByText := true, laidKinds := [.data, .pinned], laidTests := true, laidLooks := .later }
def GapPlaysCardSaid : Prop := Claim7.holds Tryz.pinned (.plain (OpenSpec.ofChange gapPlaysSpec)) gapPlaysCard

/-- THE TIED CARD OF 'bodkinlaw06.GapClones'. -/
def gapClonesCard : Claim7 := { stood := { row := gapClonesRow, standIns := [], harness := (true, "0c2cbbb0ab60e3f2a980eff716e9eeb75e14fd76ef836b17479997dbb93b1961"), looks := false }, kinds := [], alts := [], laidByText := true, laidKinds := [.data, .pinned], laidTests := true, laidLooks := .later }
def GapClonesCardSaid : Prop := Claim7.holds Tryz.pinned (.plain (OpenSpec.ofChange gapClonesSpec)) gapClonesCard

/-- THE TIED CARD OF 'bodkinlaw06.GapEnds'. -/
def gapEndsCard : Claim7 := { stood := { row := gapEndsRow, standIns := [], harness := (true, "0c2cbbb0ab60e3f2a980eff716e9eeb75e14fd76ef836b17479997dbb93b1961"), looks := false }, kinds := [], alts := [], laidByText := true, laidKinds := [.data, .pinned], laidTests := true, laidLooks := .later }
def GapEndsCardSaid : Prop := Claim7.holds Tryz.pinned (.plain (OpenSpec.ofChange gapEndsSpec)) gapEndsCard

/-- THE SECOND FORM's CARD OF 'bodkinlaw06.GapPlays'. -/
def gapPlaysUptoCard : Claim7 := { stood := { row := gapPlaysUptoRow, standIns := [], harness := (true, "0c2cbbb0ab60e3f2a980eff716e9eeb75e14fd76ef836b17479997dbb93b1961"), looks := false }, kinds := [], alts := [], laidByText := true, laidKinds := [.data, .pinned], laidTests := true, laidLooks := .later }
def GapPlaysUptoCardSaid : Prop := Claim7.holds Tryz.pinned (.plain (OpenSpec.upto gapPlaysSpec)) gapPlaysUptoCard

/-- THE SECOND FORM's CARD OF 'bodkinlaw06.GapClones'. -/
def gapClonesUptoCard : Claim7 := { stood := { row := gapClonesUptoRow, standIns := [], harness := (true, "0c2cbbb0ab60e3f2a980eff716e9eeb75e14fd76ef836b17479997dbb93b1961"), looks := false }, kinds := [], alts := [], laidByText := true, laidKinds := [.data, .pinned], laidTests := true, laidLooks := .later }
def GapClonesUptoCardSaid : Prop := Claim7.holds Tryz.pinned (.plain (OpenSpec.upto gapClonesSpec)) gapClonesUptoCard

/-- THE SECOND FORM's CARD OF 'bodkinlaw06.GapEnds'. -/
def gapEndsUptoCard : Claim7 := { stood := { row := gapEndsUptoRow, standIns := [], harness := (true, "0c2cbbb0ab60e3f2a980eff716e9eeb75e14fd76ef836b17479997dbb93b1961"), looks := false }, kinds := [], alts := [], laidByText := true, laidKinds := [.data, .pinned], laidTests := true, laidLooks := .later }
def GapEndsUptoCardSaid : Prop := Claim7.holds Tryz.pinned (.plain (OpenSpec.upto gapEndsSpec)) gapEndsUptoCard
end Rows
end Go.Proofs.YtgagpmeknpjkpaaGreatDoor
