/-
  DERIVED. GIVEN WITH THE SEED: THE CARDS: each row of YtbihilfnnonpnaaGreatDoorRows.lean that lists a variable, with what it lists TIED to the program's text (the seventh form; the later family's looks); each row that meets fmt, with fmt's text TOLD by the authors' own Lean function (tested against real Go, not proved from fmt's source: count such statements apart). THE CARD IS WHAT COUNTS. Prove the row's statement (the work); the ties are given (YtbihilfnnonpnaaGreatDoorTie.lean); close each card by the builder's one call (the guide's Derived/Test/ToyasCard.lean, 'card_holds'). Laid BY PROGRAM, IN A SANDBOX (cutbox-door.mjs). By AI agents, Wed Nov 11 2026. No macro, syntax, notation, axiom, sorry.
-/
import Derived.Test.YtbihilfnnonpnaaGreatDoorRows
import GoSem.ClaimSeven
namespace Go.Proofs.YtbihilfnnonpnaaGreatDoor
namespace Rows

/-- THE TIED CARD OF 'bodkinlaw07.RopeLeaves'. -/
def ropeLeavesCard : Claim7 := { stood := { row := ropeLeavesRow, standIns := [], harness := (true, "c7e8803843ff5f811ceb084786876425c4dcd94d008744e647d0cb8e3a4f0310"), looks := true }, kinds := [], alts := [], laidByText := true, laidKinds := [.data, .pinned], laidTests := true, laidLooks := .later }
def RopeLeavesCardSaid : Prop := Claim7.holds Tryz.pinned (.plain (OpenSpec.ofChange ropeLeavesSpec)) ropeLeavesCard

/-- THE TIED CARD OF 'bodkinlaw07.RopeWalks'. -/
def ropeWalksCard : Claim7 := { stood := { row := ropeWalksRow, standIns := [], harness := (true, "c7e8803843ff5f811ceb084786876425c4dcd94d008744e647d0cb8e3a4f0310"), looks := true }, kinds := [], alts := [], laidByText := true, laidKinds := [.data, .pinned], laidTests := true, laidLooks := .later }
def RopeWalksCardSaid : Prop := Claim7.holds Tryz.pinned (.plain (OpenSpec.ofChange ropeWalksSpec)) ropeWalksCard

/-- THE TIED CARD OF 'bodkinlaw08.SeekTrees'. -/
def seekTreesCard : Claim7 := { stood := { row := seekTreesRow, standIns := [], harness := (true, "c7e8803843ff5f811ceb084786876425c4dcd94d008744e647d0cb8e3a4f0310"), looks := true }, kinds := [], alts := [], laidByText := true, laidKinds := [.data, .pinned], laidTests := true, laidLooks := .later }
def SeekTreesCardSaid : Prop := Claim7.holds Tryz.pinned (.plain (OpenSpec.ofChange seekTreesSpec)) seekTreesCard

/-- THE TIED CARD OF 'bodkinlaw08.SeekRopes'. -/
def seekRopesCard : Claim7 := { stood := { row := seekRopesRow, standIns := [], harness := (true, "c7e8803843ff5f811ceb084786876425c4dcd94d008744e647d0cb8e3a4f0310"), looks := true }, kinds := [], alts := [], laidByText := true, laidKinds := [.data, .pinned], laidTests := true, laidLooks := .later }
def SeekRopesCardSaid : Prop := Claim7.holds Tryz.pinned (.plain (OpenSpec.ofChange seekRopesSpec)) seekRopesCard

/-- THE SECOND FORM's CARD OF 'bodkinlaw07.RopeLeaves'. -/
def ropeLeavesUptoCard : Claim7 := { stood := { row := ropeLeavesUptoRow, standIns := [], harness := (true, "c7e8803843ff5f811ceb084786876425c4dcd94d008744e647d0cb8e3a4f0310"), looks := true }, kinds := [], alts := [], laidByText := true, laidKinds := [.data, .pinned], laidTests := true, laidLooks := .later }
def RopeLeavesUptoCardSaid : Prop := Claim7.holds Tryz.pinned (.plain (OpenSpec.upto ropeLeavesSpec)) ropeLeavesUptoCard

/-- THE SECOND FORM's CARD OF 'bodkinlaw07.RopeWalks'. -/
def ropeWalksUptoCard : Claim7 := { stood := { row := ropeWalksUptoRow, standIns := [], harness := (true, "c7e8803843ff5f811ceb084786876425c4dcd94d008744e647d0cb8e3a4f0310"), looks := true }, kinds := [], alts := [], laidByText := true, laidKinds := [.data, .pinned], laidTests := true, laidLooks := .later }
def RopeWalksUptoCardSaid : Prop := Claim7.holds Tryz.pinned (.plain (OpenSpec.upto ropeWalksSpec)) ropeWalksUptoCard

/-- THE SECOND FORM's CARD OF 'bodkinlaw08.SeekTrees'. -/
def seekTreesUptoCard : Claim7 := { stood := { row := seekTreesUptoRow, standIns := [], harness := (true, "c7e8803843ff5f811ceb084786876425c4dcd94d008744e647d0cb8e3a4f0310"), looks := true }, kinds := [], alts := [], laidByText := true, laidKinds := [.data, .pinned], laidTests := true, laidLooks := .later }
def SeekTreesUptoCardSaid : Prop := Claim7.holds Tryz.pinned (.plain (OpenSpec.upto seekTreesSpec)) seekTreesUptoCard

/-- THE SECOND FORM's CARD OF 'bodkinlaw08.SeekRopes'. -/
def seekRopesUptoCard : Claim7 := { stood := { row := seekRopesUptoRow, standIns := [], harness := (true, "c7e8803843ff5f811ceb084786876425c4dcd94d008744e647d0cb8e3a4f0310"), looks := true }, kinds := [], alts := [], laidByText := true, laidKinds := [.data, .pinned], laidTests := true, laidLooks := .later }
def SeekRopesUptoCardSaid : Prop := Claim7.holds Tryz.pinned (.plain (OpenSpec.upto seekRopesSpec)) seekRopesUptoCard
end Rows
end Go.Proofs.YtbihilfnnonpnaaGreatDoor
