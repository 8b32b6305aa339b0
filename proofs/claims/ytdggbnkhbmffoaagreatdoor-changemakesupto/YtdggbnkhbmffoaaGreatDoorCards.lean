/-
  DERIVED. GIVEN WITH THE SEED: THE CARDS: each row of YtdggbnkhbmffoaaGreatDoorRows.lean that lists a variable, with what it lists TIED to the program's text (the seventh form; the later family's looks); each row that meets fmt, with fmt's text TOLD by the authors' own Lean function (tested against real Go, not proved from fmt's source: count such statements apart). THE CARD IS WHAT COUNTS. Prove the row's statement (the work); the ties are given (YtdggbnkhbmffoaaGreatDoorTie.lean); close each card by the builder's one call (the guide's Derived/Test/ToyasCard.lean, 'card_holds'). Laid BY PROGRAM, IN A SANDBOX (cutbox-door.mjs). By AI agents, Wed Nov 11 2026. No macro, syntax, notation, axiom, sorry.
-/
import Derived.Test.YtdggbnkhbmffoaaGreatDoorRows
import GoSem.ClaimSeven
namespace Go.Proofs.YtdggbnkhbmffoaaGreatDoor
namespace Rows

/-- THE TIED CARD OF 'bodkinlaw17.ChangeMakes'. -/
def changeMakesCard : Claim7 := { stood := { row := changeMakesRow, standIns := [], harness := (true, "4e8a507a7230efdcf50f99dc1c02cf6984e4b5730519c40cb0543c8d11e3e0d8"), looks := false }, kinds := [], alts := [], laidByText := true, laidKinds := [.data, .pinned], laidTests := true, laidLooks := .later }
def ChangeMakesCardSaid : Prop := Claim7.holds Tryz.pinned (.plain (OpenSpec.ofChange changeMakesSpec)) changeMakesCard

/-- THE TIED CARD OF 'bodkinlaw17.ChangeKinds'. -/
def changeKindsCard : Claim7 := { stood := { row := changeKindsRow, standIns := [], harness := (true, "4e8a507a7230efdcf50f99dc1c02cf6984e4b5730519c40cb0543c8d11e3e0d8"), looks := false }, kinds := [], alts := [], laidByText := true, laidKinds := [.data, .pinned], laidTests := true, laidLooks := .later }
def ChangeKindsCardSaid : Prop := Claim7.holds Tryz.pinned (.plain (OpenSpec.ofChange changeKindsSpec)) changeKindsCard

/-- THE SECOND FORM's CARD OF 'bodkinlaw17.ChangeMakes'. -/
def changeMakesUptoCard : Claim7 := { stood := { row := changeMakesUptoRow, standIns := [], harness := (true, "4e8a507a7230efdcf50f99dc1c02cf6984e4b5730519c40cb0543c8d11e3e0d8"), looks := false }, kinds := [], alts := [], laidByText := true, laidKinds := [.data, .pinned], laidTests := true, laidLooks := .later }
def ChangeMakesUptoCardSaid : Prop := Claim7.holds Tryz.pinned (.plain (OpenSpec.upto changeMakesSpec)) changeMakesUptoCard

/-- THE SECOND FORM's CARD OF 'bodkinlaw17.ChangeKinds'. -/
def changeKindsUptoCard : Claim7 := { stood := { row := changeKindsUptoRow, standIns := [], harness := (true, "4e8a507a7230efdcf50f99dc1c02cf6984e4b5730519c40cb0543c8d11e3e0d8"), looks := false }, kinds := [], alts := [], laidByText := true, laidKinds := [.data, .pinned], laidTests := true, laidLooks := .later }
def ChangeKindsUptoCardSaid : Prop := Claim7.holds Tryz.pinned (.plain (OpenSpec.upto changeKindsSpec)) changeKindsUptoCard
end Rows
end Go.Proofs.YtdggbnkhbmffoaaGreatDoor
