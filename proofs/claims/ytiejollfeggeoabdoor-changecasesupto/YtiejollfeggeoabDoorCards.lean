/-
  DERIVED. GIVEN WITH THE SEED: THE CARDS: each row of YtiejollfeggeoabDoorRows.lean that lists a variable, with what it lists TIED to the program's text (the seventh form; the later family's looks); each row that meets fmt, with fmt's text TOLD by the authors' own Lean function (tested against real Go, not proved from fmt's source: count such statements apart). THE CARD IS WHAT COUNTS. Prove the row's statement (the work); the ties are given (YtiejollfeggeoabDoorTie.lean); close each card by the builder's one call (the guide's Derived/Test/ToyasCard.lean, 'card_holds'). Laid BY PROGRAM, IN A SANDBOX (cutbox-door.mjs). By AI agents, Wed Nov 11 2026. No macro, syntax, notation, axiom, sorry.
-/
import Derived.Test.YtiejollfeggeoabDoorRows
import GoSem.ClaimSeven
namespace Go.Proofs.YtiejollfeggeoabDoor
namespace Rows

/-- THE TIED CARD OF 'bodkinlaw17.ChangeCases'. -/
def changeCasesCard : Claim7 := { stood := { row := changeCasesRow, standIns := [], harness := (true, "16811b726a317523067c18e90da8e41b9c827d025d40bbe14ba23ea3de91d099"), looks := false }, kinds := [], alts := [], laidByText := true, laidKinds := [.data, .pinned], laidTests := true, laidLooks := .later }
def ChangeCasesCardSaid : Prop := Claim7.holds Tryd.pinned (.plain (OpenSpec.ofChange changeCasesSpec)) changeCasesCard

/-- THE SECOND FORM's CARD OF 'bodkinlaw17.ChangeCases'. -/
def changeCasesUptoCard : Claim7 := { stood := { row := changeCasesUptoRow, standIns := [], harness := (true, "16811b726a317523067c18e90da8e41b9c827d025d40bbe14ba23ea3de91d099"), looks := false }, kinds := [], alts := [], laidByText := true, laidKinds := [.data, .pinned], laidTests := true, laidLooks := .later }
def ChangeCasesUptoCardSaid : Prop := Claim7.holds Tryd.pinned (.plain (OpenSpec.upto changeCasesSpec)) changeCasesUptoCard
end Rows
end Go.Proofs.YtiejollfeggeoabDoor
