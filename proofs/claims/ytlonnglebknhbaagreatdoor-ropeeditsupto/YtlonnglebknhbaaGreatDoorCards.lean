/-
  DERIVED. GIVEN WITH THE SEED: THE CARDS: each row of YtlonnglebknhbaaGreatDoorRows.lean that lists a variable, with what it lists TIED to the program's text (the seventh form; the later family's looks); each row that meets fmt, with fmt's text TOLD by the authors' own Lean function (tested against real Go, not proved from fmt's source: count such statements apart). THE CARD IS WHAT COUNTS. Prove the row's statement (the work); the ties are given (YtlonnglebknhbaaGreatDoorTie.lean); close each card by the builder's one call (the guide's Derived/Test/ToyasCard.lean, 'card_holds'). Laid BY PROGRAM, IN A SANDBOX (cutbox-door.mjs). By AI agents, Wed Nov 11 2026. No macro, syntax, notation, axiom, sorry.
-/
import Derived.Test.YtlonnglebknhbaaGreatDoorRows
import GoSem.ClaimSeven
namespace Go.Proofs.YtlonnglebknhbaaGreatDoor
namespace Rows

/-- THE TIED CARD OF 'bodkinlaw07.RopeEdits'. -/
def ropeEditsCard : Claim7 := { stood := { row := ropeEditsRow, standIns := [], harness := (true, "084f9813876d95c7100a127a03e49a3a88d3cd27678b0f309041b2e9b6dc8e27"), looks := true }, kinds := [], alts := [], laidByText := true, laidKinds := [.data, .pinned], laidTests := true, laidLooks := .later }
def RopeEditsCardSaid : Prop := Claim7.holds Tryz.pinned (.plain (OpenSpec.ofChange ropeEditsSpec)) ropeEditsCard

/-- THE TIED CARD OF 'bodkinlaw07.RopeLooks'. -/
def ropeLooksCard : Claim7 := { stood := { row := ropeLooksRow, standIns := [], harness := (true, "084f9813876d95c7100a127a03e49a3a88d3cd27678b0f309041b2e9b6dc8e27"), looks := true }, kinds := [], alts := [], laidByText := true, laidKinds := [.data, .pinned], laidTests := true, laidLooks := .later }
def RopeLooksCardSaid : Prop := Claim7.holds Tryz.pinned (.plain (OpenSpec.ofChange ropeLooksSpec)) ropeLooksCard

/-- THE TIED CARD OF 'bodkinlaw07.RopeLeaves'. -/
def ropeLeavesCard : Claim7 := { stood := { row := ropeLeavesRow, standIns := [], harness := (true, "084f9813876d95c7100a127a03e49a3a88d3cd27678b0f309041b2e9b6dc8e27"), looks := true }, kinds := [], alts := [], laidByText := true, laidKinds := [.data, .pinned], laidTests := true, laidLooks := .later }
def RopeLeavesCardSaid : Prop := Claim7.holds Tryz.pinned (.plain (OpenSpec.ofChange ropeLeavesSpec)) ropeLeavesCard

/-- THE TIED CARD OF 'bodkinlaw07.RopeNone'. -/
def ropeNoneCard : Claim7 := { stood := { row := ropeNoneRow, standIns := [], harness := (true, "084f9813876d95c7100a127a03e49a3a88d3cd27678b0f309041b2e9b6dc8e27"), looks := true }, kinds := [], alts := [], laidByText := true, laidKinds := [.data, .pinned], laidTests := true, laidLooks := .later }
def RopeNoneCardSaid : Prop := Claim7.holds Tryz.pinned (.plain (OpenSpec.ofChange ropeNoneSpec)) ropeNoneCard

/-- THE TIED CARD OF 'bodkinlaw07.RopeWalks'. -/
def ropeWalksCard : Claim7 := { stood := { row := ropeWalksRow, standIns := [], harness := (true, "084f9813876d95c7100a127a03e49a3a88d3cd27678b0f309041b2e9b6dc8e27"), looks := true }, kinds := [], alts := [], laidByText := true, laidKinds := [.data, .pinned], laidTests := true, laidLooks := .later }
def RopeWalksCardSaid : Prop := Claim7.holds Tryz.pinned (.plain (OpenSpec.ofChange ropeWalksSpec)) ropeWalksCard

/-- THE TIED CARD OF 'bodkinlaw08.SeekTrees'. -/
def seekTreesCard : Claim7 := { stood := { row := seekTreesRow, standIns := [], harness := (true, "084f9813876d95c7100a127a03e49a3a88d3cd27678b0f309041b2e9b6dc8e27"), looks := true }, kinds := [], alts := [], laidByText := true, laidKinds := [.data, .pinned], laidTests := true, laidLooks := .later }
def SeekTreesCardSaid : Prop := Claim7.holds Tryz.pinned (.plain (OpenSpec.ofChange seekTreesSpec)) seekTreesCard

/-- THE SECOND FORM's CARD OF 'bodkinlaw07.RopeEdits'. -/
def ropeEditsUptoCard : Claim7 := { stood := { row := ropeEditsUptoRow, standIns := [], harness := (true, "084f9813876d95c7100a127a03e49a3a88d3cd27678b0f309041b2e9b6dc8e27"), looks := true }, kinds := [], alts := [], laidByText := true, laidKinds := [.data, .pinned], laidTests := true, laidLooks := .later }
def RopeEditsUptoCardSaid : Prop := Claim7.holds Tryz.pinned (.plain (OpenSpec.upto ropeEditsSpec)) ropeEditsUptoCard

/-- THE SECOND FORM's CARD OF 'bodkinlaw07.RopeLooks'. -/
def ropeLooksUptoCard : Claim7 := { stood := { row := ropeLooksUptoRow, standIns := [], harness := (true, "084f9813876d95c7100a127a03e49a3a88d3cd27678b0f309041b2e9b6dc8e27"), looks := true }, kinds := [], alts := [], laidByText := true, laidKinds := [.data, .pinned], laidTests := true, laidLooks := .later }
def RopeLooksUptoCardSaid : Prop := Claim7.holds Tryz.pinned (.plain (OpenSpec.upto ropeLooksSpec)) ropeLooksUptoCard

/-- THE SECOND FORM's CARD OF 'bodkinlaw07.RopeLeaves'. -/
def ropeLeavesUptoCard : Claim7 := { stood := { row := ropeLeavesUptoRow, standIns := [], harness := (true, "084f9813876d95c7100a127a03e49a3a88d3cd27678b0f309041b2e9b6dc8e27"), looks := true }, kinds := [], alts := [], laidByText := true, laidKinds := [.data, .pinned], laidTests := true, laidLooks := .later }
def RopeLeavesUptoCardSaid : Prop := Claim7.holds Tryz.pinned (.plain (OpenSpec.upto ropeLeavesSpec)) ropeLeavesUptoCard

/-- THE SECOND FORM's CARD OF 'bodkinlaw07.RopeNone'. -/
def ropeNoneUptoCard : Claim7 := { stood := { row := ropeNoneUptoRow, standIns := [], harness := (true, "084f9813876d95c7100a127a03e49a3a88d3cd27678b0f309041b2e9b6dc8e27"), looks := true }, kinds := [], alts := [], laidByText := true, laidKinds := [.data, .pinned], laidTests := true, laidLooks := .later }
def RopeNoneUptoCardSaid : Prop := Claim7.holds Tryz.pinned (.plain (OpenSpec.upto ropeNoneSpec)) ropeNoneUptoCard

/-- THE SECOND FORM's CARD OF 'bodkinlaw07.RopeWalks'. -/
def ropeWalksUptoCard : Claim7 := { stood := { row := ropeWalksUptoRow, standIns := [], harness := (true, "084f9813876d95c7100a127a03e49a3a88d3cd27678b0f309041b2e9b6dc8e27"), looks := true }, kinds := [], alts := [], laidByText := true, laidKinds := [.data, .pinned], laidTests := true, laidLooks := .later }
def RopeWalksUptoCardSaid : Prop := Claim7.holds Tryz.pinned (.plain (OpenSpec.upto ropeWalksSpec)) ropeWalksUptoCard

/-- THE SECOND FORM's CARD OF 'bodkinlaw08.SeekTrees'. -/
def seekTreesUptoCard : Claim7 := { stood := { row := seekTreesUptoRow, standIns := [], harness := (true, "084f9813876d95c7100a127a03e49a3a88d3cd27678b0f309041b2e9b6dc8e27"), looks := true }, kinds := [], alts := [], laidByText := true, laidKinds := [.data, .pinned], laidTests := true, laidLooks := .later }
def SeekTreesUptoCardSaid : Prop := Claim7.holds Tryz.pinned (.plain (OpenSpec.upto seekTreesSpec)) seekTreesUptoCard
end Rows
end Go.Proofs.YtlonnglebknhbaaGreatDoor
