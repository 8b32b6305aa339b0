/-
  DERIVED. GIVEN WITH THE SEED: THE CARDS: each row of YtkmihnjmchfopaaGreatDoorRows.lean that lists a variable, with what it lists TIED to the program's text (the seventh form; the later family's looks); each row that meets fmt, with fmt's text TOLD by the authors' own Lean function (tested against real Go, not proved from fmt's source: count such statements apart). THE CARD IS WHAT COUNTS. Prove the row's statement (the work); the ties are given (YtkmihnjmchfopaaGreatDoorTie.lean); close each card by the builder's one call (the guide's Derived/Test/ToyasCard.lean, 'card_holds'). Laid BY PROGRAM, IN A SANDBOX (cutbox-door.mjs). By AI agents, Wed Nov 11 2026. No macro, syntax, notation, axiom, sorry.
-/
import Derived.Test.YtkmihnjmchfopaaGreatDoorRows
import GoSem.ClaimSeven
namespace Go.Proofs.YtkmihnjmchfopaaGreatDoor
namespace Rows

/-- THE TIED CARD OF 'bodkinlaw07.RopeLeaves'. -/
def ropeLeavesCard : Claim7 := { stood := { row := ropeLeavesRow, standIns := [], harness := (true, "03d233ebf53dc0345112ba947d70e6298f277337aa8507cc565df03dc86872ea"), looks := true }, kinds := [], alts := [], laidByText := true, laidKinds := [.data, .pinned], laidTests := true, laidLooks := .later }
def RopeLeavesCardSaid : Prop := Claim7.holds Tryz.pinned (.plain (OpenSpec.ofChange ropeLeavesSpec)) ropeLeavesCard

/-- THE TIED CARD OF 'bodkinlaw07.RopeWalks'. -/
def ropeWalksCard : Claim7 := { stood := { row := ropeWalksRow, standIns := [], harness := (true, "03d233ebf53dc0345112ba947d70e6298f277337aa8507cc565df03dc86872ea"), looks := true }, kinds := [], alts := [], laidByText := true, laidKinds := [.data, .pinned], laidTests := true, laidLooks := .later }
def RopeWalksCardSaid : Prop := Claim7.holds Tryz.pinned (.plain (OpenSpec.ofChange ropeWalksSpec)) ropeWalksCard

/-- THE TIED CARD OF 'bodkinlaw09.StorePlays'. -/
def storePlaysCard : Claim7 := { stood := { row := storePlaysRow, standIns := [], harness := (true, "03d233ebf53dc0345112ba947d70e6298f277337aa8507cc565df03dc86872ea"), looks := true }, kinds := [], alts := [], laidByText := true, laidKinds := [.data, .pinned], laidTests := true, laidLooks := .later }
def StorePlaysCardSaid : Prop := Claim7.holds Tryz.pinned (.plain (OpenSpec.ofChange storePlaysSpec)) storePlaysCard

/-- THE TIED CARD OF 'bodkinlaw09.StoreClones'. -/
def storeClonesCard : Claim7 := { stood := { row := storeClonesRow, standIns := [], harness := (true, "03d233ebf53dc0345112ba947d70e6298f277337aa8507cc565df03dc86872ea"), looks := true }, kinds := [], alts := [], laidByText := true, laidKinds := [.data, .pinned], laidTests := true, laidLooks := .later }
def StoreClonesCardSaid : Prop := Claim7.holds Tryz.pinned (.plain (OpenSpec.ofChange storeClonesSpec)) storeClonesCard

/-- THE TIED CARD OF 'bodkinlaw09.StoreUnseen'. -/
def storeUnseenCard : Claim7 := { stood := { row := storeUnseenRow, standIns := [], harness := (true, "03d233ebf53dc0345112ba947d70e6298f277337aa8507cc565df03dc86872ea"), looks := true }, kinds := [], alts := [], laidByText := true, laidKinds := [.data, .pinned], laidTests := true, laidLooks := .later }
def StoreUnseenCardSaid : Prop := Claim7.holds Tryz.pinned (.plain (OpenSpec.ofChange storeUnseenSpec)) storeUnseenCard

/-- THE TIED CARD OF 'bodkinlaw09.StoreTexts'. -/
def storeTextsCard : Claim7 := { stood := { row := storeTextsRow, standIns := [], harness := (true, "03d233ebf53dc0345112ba947d70e6298f277337aa8507cc565df03dc86872ea"), looks := true }, kinds := [], alts := [], laidByText := true, laidKinds := [.data, .pinned], laidTests := true, laidLooks := .later }
def StoreTextsCardSaid : Prop := Claim7.holds Tryz.pinned (.plain (OpenSpec.ofChange storeTextsSpec)) storeTextsCard

/-- THE SECOND FORM's CARD OF 'bodkinlaw07.RopeLeaves'. -/
def ropeLeavesUptoCard : Claim7 := { stood := { row := ropeLeavesUptoRow, standIns := [], harness := (true, "03d233ebf53dc0345112ba947d70e6298f277337aa8507cc565df03dc86872ea"), looks := true }, kinds := [], alts := [], laidByText := true, laidKinds := [.data, .pinned], laidTests := true, laidLooks := .later }
def RopeLeavesUptoCardSaid : Prop := Claim7.holds Tryz.pinned (.plain (OpenSpec.upto ropeLeavesSpec)) ropeLeavesUptoCard

/-- THE SECOND FORM's CARD OF 'bodkinlaw07.RopeWalks'. -/
def ropeWalksUptoCard : Claim7 := { stood := { row := ropeWalksUptoRow, standIns := [], harness := (true, "03d233ebf53dc0345112ba947d70e6298f277337aa8507cc565df03dc86872ea"), looks := true }, kinds := [], alts := [], laidByText := true, laidKinds := [.data, .pinned], laidTests := true, laidLooks := .later }
def RopeWalksUptoCardSaid : Prop := Claim7.holds Tryz.pinned (.plain (OpenSpec.upto ropeWalksSpec)) ropeWalksUptoCard

/-- THE SECOND FORM's CARD OF 'bodkinlaw09.StorePlays'. -/
def storePlaysUptoCard : Claim7 := { stood := { row := storePlaysUptoRow, standIns := [], harness := (true, "03d233ebf53dc0345112ba947d70e6298f277337aa8507cc565df03dc86872ea"), looks := true }, kinds := [], alts := [], laidByText := true, laidKinds := [.data, .pinned], laidTests := true, laidLooks := .later }
def StorePlaysUptoCardSaid : Prop := Claim7.holds Tryz.pinned (.plain (OpenSpec.upto storePlaysSpec)) storePlaysUptoCard

/-- THE SECOND FORM's CARD OF 'bodkinlaw09.StoreClones'. -/
def storeClonesUptoCard : Claim7 := { stood := { row := storeClonesUptoRow, standIns := [], harness := (true, "03d233ebf53dc0345112ba947d70e6298f277337aa8507cc565df03dc86872ea"), looks := true }, kinds := [], alts := [], laidByText := true, laidKinds := [.data, .pinned], laidTests := true, laidLooks := .later }
def StoreClonesUptoCardSaid : Prop := Claim7.holds Tryz.pinned (.plain (OpenSpec.upto storeClonesSpec)) storeClonesUptoCard

/-- THE SECOND FORM's CARD OF 'bodkinlaw09.StoreUnseen'. -/
def storeUnseenUptoCard : Claim7 := { stood := { row := storeUnseenUptoRow, standIns := [], harness := (true, "03d233ebf53dc0345112ba947d70e6298f277337aa8507cc565df03dc86872ea"), looks := true }, kinds := [], alts := [], laidByText := true, laidKinds := [.data, .pinned], laidTests := true, laidLooks := .later }
def StoreUnseenUptoCardSaid : Prop := Claim7.holds Tryz.pinned (.plain (OpenSpec.upto storeUnseenSpec)) storeUnseenUptoCard

/-- THE SECOND FORM's CARD OF 'bodkinlaw09.StoreTexts'. -/
def storeTextsUptoCard : Claim7 := { stood := { row := storeTextsUptoRow, standIns := [], harness := (true, "03d233ebf53dc0345112ba947d70e6298f277337aa8507cc565df03dc86872ea"), looks := true }, kinds := [], alts := [], laidByText := true, laidKinds := [.data, .pinned], laidTests := true, laidLooks := .later }
def StoreTextsUptoCardSaid : Prop := Claim7.holds Tryz.pinned (.plain (OpenSpec.upto storeTextsSpec)) storeTextsUptoCard
end Rows
end Go.Proofs.YtkmihnjmchfopaaGreatDoor
