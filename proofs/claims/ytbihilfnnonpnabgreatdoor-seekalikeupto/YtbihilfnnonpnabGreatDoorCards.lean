/-
  DERIVED. GIVEN WITH THE SEED: THE CARDS: each row of YtbihilfnnonpnabGreatDoorRows.lean that lists a variable, with what it lists TIED to the program's text (the seventh form; the later family's looks); each row that meets fmt, with fmt's text TOLD by the authors' own Lean function (tested against real Go, not proved from fmt's source: count such statements apart). THE CARD IS WHAT COUNTS. Prove the row's statement (the work); the ties are given (YtbihilfnnonpnabGreatDoorTie.lean); close each card by the builder's one call (the guide's Derived/Test/ToyasCard.lean, 'card_holds'). Laid BY PROGRAM, IN A SANDBOX (cutbox-door.mjs). By AI agents, Wed Nov 11 2026. No macro, syntax, notation, axiom, sorry.
-/
import Derived.Test.YtbihilfnnonpnabGreatDoorRows
import GoSem.ClaimSeven
namespace Go.Proofs.YtbihilfnnonpnabGreatDoor
namespace Rows

/-- THE TIED CARD OF 'bodkinlaw08.SeekAlike'. -/
def seekAlikeCard : Claim7 := { stood := { row := seekAlikeRow, standIns := [], harness := (true, "0d1d409b5bb52576cfc9012cab97a5ab36b9077930cf1931900b75d5b12b5518"), looks := true }, kinds := [], alts := [], laidByText := true, laidKinds := [.data, .pinned], laidTests := true, laidLooks := .later }
def SeekAlikeCardSaid : Prop := Claim7.holds Tryz.pinned (.plain (OpenSpec.ofChange seekAlikeSpec)) seekAlikeCard

/-- THE TIED CARD OF 'bodkinlaw09.StorePlays'. -/
def storePlaysCard : Claim7 := { stood := { row := storePlaysRow, standIns := [], harness := (true, "0d1d409b5bb52576cfc9012cab97a5ab36b9077930cf1931900b75d5b12b5518"), looks := true }, kinds := [], alts := [], laidByText := true, laidKinds := [.data, .pinned], laidTests := true, laidLooks := .later }
def StorePlaysCardSaid : Prop := Claim7.holds Tryz.pinned (.plain (OpenSpec.ofChange storePlaysSpec)) storePlaysCard

/-- THE TIED CARD OF 'bodkinlaw09.StoreClones'. -/
def storeClonesCard : Claim7 := { stood := { row := storeClonesRow, standIns := [], harness := (true, "0d1d409b5bb52576cfc9012cab97a5ab36b9077930cf1931900b75d5b12b5518"), looks := true }, kinds := [], alts := [], laidByText := true, laidKinds := [.data, .pinned], laidTests := true, laidLooks := .later }
def StoreClonesCardSaid : Prop := Claim7.holds Tryz.pinned (.plain (OpenSpec.ofChange storeClonesSpec)) storeClonesCard

/-- THE TIED CARD OF 'bodkinlaw09.StoreUnseen'. -/
def storeUnseenCard : Claim7 := { stood := { row := storeUnseenRow, standIns := [], harness := (true, "0d1d409b5bb52576cfc9012cab97a5ab36b9077930cf1931900b75d5b12b5518"), looks := true }, kinds := [], alts := [], laidByText := true, laidKinds := [.data, .pinned], laidTests := true, laidLooks := .later }
def StoreUnseenCardSaid : Prop := Claim7.holds Tryz.pinned (.plain (OpenSpec.ofChange storeUnseenSpec)) storeUnseenCard

/-- THE TIED CARD OF 'bodkinlaw09.StoreTexts'. -/
def storeTextsCard : Claim7 := { stood := { row := storeTextsRow, standIns := [], harness := (true, "0d1d409b5bb52576cfc9012cab97a5ab36b9077930cf1931900b75d5b12b5518"), looks := true }, kinds := [], alts := [], laidByText := true, laidKinds := [.data, .pinned], laidTests := true, laidLooks := .later }
def StoreTextsCardSaid : Prop := Claim7.holds Tryz.pinned (.plain (OpenSpec.ofChange storeTextsSpec)) storeTextsCard

/-- THE SECOND FORM's CARD OF 'bodkinlaw08.SeekAlike'. -/
def seekAlikeUptoCard : Claim7 := { stood := { row := seekAlikeUptoRow, standIns := [], harness := (true, "0d1d409b5bb52576cfc9012cab97a5ab36b9077930cf1931900b75d5b12b5518"), looks := true }, kinds := [], alts := [], laidByText := true, laidKinds := [.data, .pinned], laidTests := true, laidLooks := .later }
def SeekAlikeUptoCardSaid : Prop := Claim7.holds Tryz.pinned (.plain (OpenSpec.upto seekAlikeSpec)) seekAlikeUptoCard

/-- THE SECOND FORM's CARD OF 'bodkinlaw09.StorePlays'. -/
def storePlaysUptoCard : Claim7 := { stood := { row := storePlaysUptoRow, standIns := [], harness := (true, "0d1d409b5bb52576cfc9012cab97a5ab36b9077930cf1931900b75d5b12b5518"), looks := true }, kinds := [], alts := [], laidByText := true, laidKinds := [.data, .pinned], laidTests := true, laidLooks := .later }
def StorePlaysUptoCardSaid : Prop := Claim7.holds Tryz.pinned (.plain (OpenSpec.upto storePlaysSpec)) storePlaysUptoCard

/-- THE SECOND FORM's CARD OF 'bodkinlaw09.StoreClones'. -/
def storeClonesUptoCard : Claim7 := { stood := { row := storeClonesUptoRow, standIns := [], harness := (true, "0d1d409b5bb52576cfc9012cab97a5ab36b9077930cf1931900b75d5b12b5518"), looks := true }, kinds := [], alts := [], laidByText := true, laidKinds := [.data, .pinned], laidTests := true, laidLooks := .later }
def StoreClonesUptoCardSaid : Prop := Claim7.holds Tryz.pinned (.plain (OpenSpec.upto storeClonesSpec)) storeClonesUptoCard

/-- THE SECOND FORM's CARD OF 'bodkinlaw09.StoreUnseen'. -/
def storeUnseenUptoCard : Claim7 := { stood := { row := storeUnseenUptoRow, standIns := [], harness := (true, "0d1d409b5bb52576cfc9012cab97a5ab36b9077930cf1931900b75d5b12b5518"), looks := true }, kinds := [], alts := [], laidByText := true, laidKinds := [.data, .pinned], laidTests := true, laidLooks := .later }
def StoreUnseenUptoCardSaid : Prop := Claim7.holds Tryz.pinned (.plain (OpenSpec.upto storeUnseenSpec)) storeUnseenUptoCard

/-- THE SECOND FORM's CARD OF 'bodkinlaw09.StoreTexts'. -/
def storeTextsUptoCard : Claim7 := { stood := { row := storeTextsUptoRow, standIns := [], harness := (true, "0d1d409b5bb52576cfc9012cab97a5ab36b9077930cf1931900b75d5b12b5518"), looks := true }, kinds := [], alts := [], laidByText := true, laidKinds := [.data, .pinned], laidTests := true, laidLooks := .later }
def StoreTextsUptoCardSaid : Prop := Claim7.holds Tryz.pinned (.plain (OpenSpec.upto storeTextsSpec)) storeTextsUptoCard
end Rows
end Go.Proofs.YtbihilfnnonpnabGreatDoor
