/-
  DERIVED. GIVEN WITH THE SEED: THE CARDS: each row of YtoijjkbnmicadabDoorRows.lean that lists a variable, with what it lists TIED to the program's text (the seventh form; the later family's looks); each row that meets fmt, with fmt's text TOLD by the authors' own Lean function (tested against real Go, not proved from fmt's source: count such statements apart). THE CARD IS WHAT COUNTS. Prove the row's statement (the work); the ties are given (YtoijjkbnmicadabDoorTie.lean); close each card by the builder's one call (the guide's Derived/Test/ToyasCard.lean, 'card_holds'). Laid BY PROGRAM, IN A SANDBOX (cutbox-door.mjs). By AI agents, Wed Nov 11 2026. No macro, syntax, notation, axiom, sorry.
-/
import Derived.Test.YtoijjkbnmicadabDoorRows
import GoSem.ClaimSeven
namespace Go.Proofs.YtoijjkbnmicadabDoor
namespace Rows

/-- THE TIED CARD OF 'bodkinlaw05.WordForms'. -/
def wordFormsCard : Claim7 := { stood := { row := wordFormsRow, standIns := [], harness := (true, "13a92e20981f89c97f0d05d21705759332aef50b3231bd80e2f00fc4cdc91856"), looks := false }, kinds := [], alts := [], laidByText := true, laidKinds := [.data, .pinned], laidTests := true, laidLooks := .later }
def WordFormsCardSaid : Prop := Claim7.holds Tryd.pinned (.plain (OpenSpec.ofChange wordFormsSpec)) wordFormsCard

/-- THE TIED CARD OF 'bodkinlaw05.WordCased'. -/
def wordCasedCard : Claim7 := { stood := { row := wordCasedRow, standIns := [], harness := (true, "13a92e20981f89c97f0d05d21705759332aef50b3231bd80e2f00fc4cdc91856"), looks := false }, kinds := [], alts := [], laidByText := true, laidKinds := [.data, .pinned], laidTests := true, laidLooks := .later }
def WordCasedCardSaid : Prop := Claim7.holds Tryd.pinned (.plain (OpenSpec.ofChange wordCasedSpec)) wordCasedCard

/-- THE TIED CARD OF 'bodkinlaw05.WordJoins'. -/
def wordJoinsCard : Claim7 := { stood := { row := wordJoinsRow, standIns := [], harness := (true, "13a92e20981f89c97f0d05d21705759332aef50b3231bd80e2f00fc4cdc91856"), looks := false }, kinds := [], alts := [], laidByText := true, laidKinds := [.data, .pinned], laidTests := true, laidLooks := .later }
def WordJoinsCardSaid : Prop := Claim7.holds Tryd.pinned (.plain (OpenSpec.ofChange wordJoinsSpec)) wordJoinsCard

/-- THE SECOND FORM's CARD OF 'bodkinlaw05.WordForms'. -/
def wordFormsUptoCard : Claim7 := { stood := { row := wordFormsUptoRow, standIns := [], harness := (true, "13a92e20981f89c97f0d05d21705759332aef50b3231bd80e2f00fc4cdc91856"), looks := false }, kinds := [], alts := [], laidByText := true, laidKinds := [.data, .pinned], laidTests := true, laidLooks := .later }
def WordFormsUptoCardSaid : Prop := Claim7.holds Tryd.pinned (.plain (OpenSpec.upto wordFormsSpec)) wordFormsUptoCard

/-- THE SECOND FORM's CARD OF 'bodkinlaw05.WordCased'. -/
def wordCasedUptoCard : Claim7 := { stood := { row := wordCasedUptoRow, standIns := [], harness := (true, "13a92e20981f89c97f0d05d21705759332aef50b3231bd80e2f00fc4cdc91856"), looks := false }, kinds := [], alts := [], laidByText := true, laidKinds := [.data, .pinned], laidTests := true, laidLooks := .later }
def WordCasedUptoCardSaid : Prop := Claim7.holds Tryd.pinned (.plain (OpenSpec.upto wordCasedSpec)) wordCasedUptoCard

/-- THE SECOND FORM's CARD OF 'bodkinlaw05.WordJoins'. -/
def wordJoinsUptoCard : Claim7 := { stood := { row := wordJoinsUptoRow, standIns := [], harness := (true, "13a92e20981f89c97f0d05d21705759332aef50b3231bd80e2f00fc4cdc91856"), looks := false }, kinds := [], alts := [], laidByText := true, laidKinds := [.data, .pinned], laidTests := true, laidLooks := .later }
def WordJoinsUptoCardSaid : Prop := Claim7.holds Tryd.pinned (.plain (OpenSpec.upto wordJoinsSpec)) wordJoinsUptoCard
end Rows
end Go.Proofs.YtoijjkbnmicadabDoor
