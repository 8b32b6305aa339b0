/-
  DERIVED. GIVEN WITH THE SEED: THE CARDS: each row of YtadgbbnkhjapnabDoorRows.lean that lists a variable, with what it lists TIED to the program's text (the seventh form; the later family's looks); each row that meets fmt, with fmt's text TOLD by the authors' own Lean function (tested against real Go, not proved from fmt's source: count such statements apart). THE CARD IS WHAT COUNTS. Prove the row's statement (the work); the ties are given (YtadgbbnkhjapnabDoorTie.lean); close each card by the builder's one call (the guide's Derived/Test/ToyasCard.lean, 'card_holds'). Laid BY PROGRAM, IN A SANDBOX (cutbox-door.mjs). By AI agents, Wed Nov 11 2026. No macro, syntax, notation, axiom, sorry.
-/
import Derived.Test.YtadgbbnkhjapnabDoorRows
import GoSem.ClaimSeven
namespace Go.Proofs.YtadgbbnkhjapnabDoor
namespace Rows

/-- THE TIED CARD OF 'bodkinlaw01.UnitLocal'. -/
def unitLocalCard : Claim7 := { stood := { row := unitLocalRow, standIns := [], harness := (true, "84fb5ab8770c4b77c27f42fb616ccb215075aceae944e8f1d418d6206657c543"), looks := false }, kinds := [], alts := [], laidByText := true, laidKinds := [.data, .pinned], laidTests := true, laidLooks := .later }
def UnitLocalCardSaid : Prop := Claim7.holds Tryd.pinned (.plain (OpenSpec.ofChange unitLocalSpec)) unitLocalCard

/-- THE TIED CARD OF 'bodkinlaw01.UnitSeams'. -/
def unitSeamsCard : Claim7 := { stood := { row := unitSeamsRow, standIns := [], harness := (true, "84fb5ab8770c4b77c27f42fb616ccb215075aceae944e8f1d418d6206657c543"), looks := false }, kinds := [], alts := [], laidByText := true, laidKinds := [.data, .pinned], laidTests := true, laidLooks := .later }
def UnitSeamsCardSaid : Prop := Claim7.holds Tryd.pinned (.plain (OpenSpec.ofChange unitSeamsSpec)) unitSeamsCard

/-- THE TIED CARD OF 'bodkinlaw01.UnitSteps'. -/
def unitStepsCard : Claim7 := { stood := { row := unitStepsRow, standIns := [], harness := (true, "84fb5ab8770c4b77c27f42fb616ccb215075aceae944e8f1d418d6206657c543"), looks := false }, kinds := [], alts := [], laidByText := true, laidKinds := [.data, .pinned], laidTests := true, laidLooks := .later }
def UnitStepsCardSaid : Prop := Claim7.holds Tryd.pinned (.plain (OpenSpec.ofChange unitStepsSpec)) unitStepsCard

/-- THE TIED CARD OF 'bodkinlaw01.UnitFresh'. -/
def unitFreshCard : Claim7 := { stood := { row := unitFreshRow, standIns := [], harness := (true, "84fb5ab8770c4b77c27f42fb616ccb215075aceae944e8f1d418d6206657c543"), looks := false }, kinds := [], alts := [], laidByText := true, laidKinds := [.data, .pinned], laidTests := true, laidLooks := .later }
def UnitFreshCardSaid : Prop := Claim7.holds Tryd.pinned (.plain (OpenSpec.ofChange unitFreshSpec)) unitFreshCard

/-- THE TIED CARD OF 'bodkintop.WholeNames'. -/
def wholeNamesCard : Claim7 := { stood := { row := wholeNamesRow, standIns := [], harness := (true, "84fb5ab8770c4b77c27f42fb616ccb215075aceae944e8f1d418d6206657c543"), looks := false }, kinds := [], alts := [], laidByText := true, laidKinds := [.data, .data, .data], laidTests := true, laidLooks := .later }
def WholeNamesCardSaid : Prop := Claim7.holds Tryd.pinned (.plain (OpenSpec.ofChange wholeNamesSpec)) wholeNamesCard

/-- THE SECOND FORM's CARD OF 'bodkinlaw01.UnitLocal'. -/
def unitLocalUptoCard : Claim7 := { stood := { row := unitLocalUptoRow, standIns := [], harness := (true, "84fb5ab8770c4b77c27f42fb616ccb215075aceae944e8f1d418d6206657c543"), looks := false }, kinds := [], alts := [], laidByText := true, laidKinds := [.data, .pinned], laidTests := true, laidLooks := .later }
def UnitLocalUptoCardSaid : Prop := Claim7.holds Tryd.pinned (.plain (OpenSpec.upto unitLocalSpec)) unitLocalUptoCard

/-- THE SECOND FORM's CARD OF 'bodkinlaw01.UnitSeams'. -/
def unitSeamsUptoCard : Claim7 := { stood := { row := unitSeamsUptoRow, standIns := [], harness := (true, "84fb5ab8770c4b77c27f42fb616ccb215075aceae944e8f1d418d6206657c543"), looks := false }, kinds := [], alts := [], laidByText := true, laidKinds := [.data, .pinned], laidTests := true, laidLooks := .later }
def UnitSeamsUptoCardSaid : Prop := Claim7.holds Tryd.pinned (.plain (OpenSpec.upto unitSeamsSpec)) unitSeamsUptoCard

/-- THE SECOND FORM's CARD OF 'bodkinlaw01.UnitSteps'. -/
def unitStepsUptoCard : Claim7 := { stood := { row := unitStepsUptoRow, standIns := [], harness := (true, "84fb5ab8770c4b77c27f42fb616ccb215075aceae944e8f1d418d6206657c543"), looks := false }, kinds := [], alts := [], laidByText := true, laidKinds := [.data, .pinned], laidTests := true, laidLooks := .later }
def UnitStepsUptoCardSaid : Prop := Claim7.holds Tryd.pinned (.plain (OpenSpec.upto unitStepsSpec)) unitStepsUptoCard

/-- THE SECOND FORM's CARD OF 'bodkinlaw01.UnitFresh'. -/
def unitFreshUptoCard : Claim7 := { stood := { row := unitFreshUptoRow, standIns := [], harness := (true, "84fb5ab8770c4b77c27f42fb616ccb215075aceae944e8f1d418d6206657c543"), looks := false }, kinds := [], alts := [], laidByText := true, laidKinds := [.data, .pinned], laidTests := true, laidLooks := .later }
def UnitFreshUptoCardSaid : Prop := Claim7.holds Tryd.pinned (.plain (OpenSpec.upto unitFreshSpec)) unitFreshUptoCard

/-- THE SECOND FORM's CARD OF 'bodkintop.WholeNames'. -/
def wholeNamesUptoCard : Claim7 := { stood := { row := wholeNamesUptoRow, standIns := [], harness := (true, "84fb5ab8770c4b77c27f42fb616ccb215075aceae944e8f1d418d6206657c543"), looks := false }, kinds := [], alts := [], laidByText := true, laidKinds := [.data, .data, .data], laidTests := true, laidLooks := .later }
def WholeNamesUptoCardSaid : Prop := Claim7.holds Tryd.pinned (.plain (OpenSpec.upto wholeNamesSpec)) wholeNamesUptoCard
end Rows
end Go.Proofs.YtadgbbnkhjapnabDoor
