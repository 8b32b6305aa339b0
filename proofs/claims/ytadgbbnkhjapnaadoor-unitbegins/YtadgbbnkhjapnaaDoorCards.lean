/-
  DERIVED. GIVEN WITH THE SEED: THE CARDS: each row of YtadgbbnkhjapnaaDoorRows.lean that lists a variable, with what it lists TIED to the program's text (the seventh form; the later family's looks); each row that meets fmt, with fmt's text TOLD by the authors' own Lean function (tested against real Go, not proved from fmt's source: count such statements apart). THE CARD IS WHAT COUNTS. Prove the row's statement (the work); the ties are given (YtadgbbnkhjapnaaDoorTie.lean); close each card by the builder's one call (the guide's Derived/Test/ToyasCard.lean, 'card_holds'). Laid BY PROGRAM, IN A SANDBOX (cutbox-door.mjs). By AI agents, Wed Nov 11 2026. No macro, syntax, notation, axiom, sorry.
-/
import Derived.Test.YtadgbbnkhjapnaaDoorRows
import GoSem.ClaimSeven
namespace Go.Proofs.YtadgbbnkhjapnaaDoor
namespace Rows

/-- THE TIED CARD OF 'bodkinlaw01.UnitLists'. -/
def unitListsCard : Claim7 := { stood := { row := unitListsRow, standIns := [], harness := (true, "6a1eb6ecb0a87c903ce5a3ea4645788a030fafe73c0e081eec17ec94b6e7596b"), looks := false }, kinds := [], alts := [], laidByText := true, laidKinds := [.data, .pinned], laidTests := true, laidLooks := .later }
def UnitListsCardSaid : Prop := Claim7.holds Tryd.pinned (.plain (OpenSpec.ofChange unitListsSpec)) unitListsCard

/-- THE TIED CARD OF 'bodkinlaw01.UnitAsks'. -/
def unitAsksCard : Claim7 := { stood := { row := unitAsksRow, standIns := [], harness := (true, "6a1eb6ecb0a87c903ce5a3ea4645788a030fafe73c0e081eec17ec94b6e7596b"), looks := false }, kinds := [], alts := [], laidByText := true, laidKinds := [.data, .pinned], laidTests := true, laidLooks := .later }
def UnitAsksCardSaid : Prop := Claim7.holds Tryd.pinned (.plain (OpenSpec.ofChange unitAsksSpec)) unitAsksCard

/-- THE TIED CARD OF 'bodkinlaw01.UnitEncodes'. -/
def unitEncodesCard : Claim7 := { stood := { row := unitEncodesRow, standIns := [], harness := (true, "6a1eb6ecb0a87c903ce5a3ea4645788a030fafe73c0e081eec17ec94b6e7596b"), looks := false }, kinds := [], alts := [], laidByText := true, laidKinds := [.data, .pinned], laidTests := true, laidLooks := .later }
def UnitEncodesCardSaid : Prop := Claim7.holds Tryd.pinned (.plain (OpenSpec.ofChange unitEncodesSpec)) unitEncodesCard

/-- THE TIED CARD OF 'bodkinlaw01.UnitBegins'. -/
def unitBeginsCard : Claim7 := { stood := { row := unitBeginsRow, standIns := [], harness := (true, "6a1eb6ecb0a87c903ce5a3ea4645788a030fafe73c0e081eec17ec94b6e7596b"), looks := false }, kinds := [], alts := [], laidByText := true, laidKinds := [.data, .pinned], laidTests := true, laidLooks := .later }
def UnitBeginsCardSaid : Prop := Claim7.holds Tryd.pinned (.plain (OpenSpec.ofChange unitBeginsSpec)) unitBeginsCard

/-- THE TIED CARD OF 'bodkinlaw01.UnitTiles'. -/
def unitTilesCard : Claim7 := { stood := { row := unitTilesRow, standIns := [], harness := (true, "6a1eb6ecb0a87c903ce5a3ea4645788a030fafe73c0e081eec17ec94b6e7596b"), looks := false }, kinds := [], alts := [], laidByText := true, laidKinds := [.data, .pinned], laidTests := true, laidLooks := .later }
def UnitTilesCardSaid : Prop := Claim7.holds Tryd.pinned (.plain (OpenSpec.ofChange unitTilesSpec)) unitTilesCard

/-- THE TIED CARD OF 'bodkinlaw01.UnitBack'. -/
def unitBackCard : Claim7 := { stood := { row := unitBackRow, standIns := [], harness := (true, "6a1eb6ecb0a87c903ce5a3ea4645788a030fafe73c0e081eec17ec94b6e7596b"), looks := false }, kinds := [], alts := [], laidByText := true, laidKinds := [.data, .pinned], laidTests := true, laidLooks := .later }
def UnitBackCardSaid : Prop := Claim7.holds Tryd.pinned (.plain (OpenSpec.ofChange unitBackSpec)) unitBackCard

/-- THE SECOND FORM's CARD OF 'bodkinlaw01.UnitLists'. -/
def unitListsUptoCard : Claim7 := { stood := { row := unitListsUptoRow, standIns := [], harness := (true, "6a1eb6ecb0a87c903ce5a3ea4645788a030fafe73c0e081eec17ec94b6e7596b"), looks := false }, kinds := [], alts := [], laidByText := true, laidKinds := [.data, .pinned], laidTests := true, laidLooks := .later }
def UnitListsUptoCardSaid : Prop := Claim7.holds Tryd.pinned (.plain (OpenSpec.upto unitListsSpec)) unitListsUptoCard

/-- THE SECOND FORM's CARD OF 'bodkinlaw01.UnitAsks'. -/
def unitAsksUptoCard : Claim7 := { stood := { row := unitAsksUptoRow, standIns := [], harness := (true, "6a1eb6ecb0a87c903ce5a3ea4645788a030fafe73c0e081eec17ec94b6e7596b"), looks := false }, kinds := [], alts := [], laidByText := true, laidKinds := [.data, .pinned], laidTests := true, laidLooks := .later }
def UnitAsksUptoCardSaid : Prop := Claim7.holds Tryd.pinned (.plain (OpenSpec.upto unitAsksSpec)) unitAsksUptoCard

/-- THE SECOND FORM's CARD OF 'bodkinlaw01.UnitEncodes'. -/
def unitEncodesUptoCard : Claim7 := { stood := { row := unitEncodesUptoRow, standIns := [], harness := (true, "6a1eb6ecb0a87c903ce5a3ea4645788a030fafe73c0e081eec17ec94b6e7596b"), looks := false }, kinds := [], alts := [], laidByText := true, laidKinds := [.data, .pinned], laidTests := true, laidLooks := .later }
def UnitEncodesUptoCardSaid : Prop := Claim7.holds Tryd.pinned (.plain (OpenSpec.upto unitEncodesSpec)) unitEncodesUptoCard

/-- THE SECOND FORM's CARD OF 'bodkinlaw01.UnitBegins'. -/
def unitBeginsUptoCard : Claim7 := { stood := { row := unitBeginsUptoRow, standIns := [], harness := (true, "6a1eb6ecb0a87c903ce5a3ea4645788a030fafe73c0e081eec17ec94b6e7596b"), looks := false }, kinds := [], alts := [], laidByText := true, laidKinds := [.data, .pinned], laidTests := true, laidLooks := .later }
def UnitBeginsUptoCardSaid : Prop := Claim7.holds Tryd.pinned (.plain (OpenSpec.upto unitBeginsSpec)) unitBeginsUptoCard

/-- THE SECOND FORM's CARD OF 'bodkinlaw01.UnitTiles'. -/
def unitTilesUptoCard : Claim7 := { stood := { row := unitTilesUptoRow, standIns := [], harness := (true, "6a1eb6ecb0a87c903ce5a3ea4645788a030fafe73c0e081eec17ec94b6e7596b"), looks := false }, kinds := [], alts := [], laidByText := true, laidKinds := [.data, .pinned], laidTests := true, laidLooks := .later }
def UnitTilesUptoCardSaid : Prop := Claim7.holds Tryd.pinned (.plain (OpenSpec.upto unitTilesSpec)) unitTilesUptoCard

/-- THE SECOND FORM's CARD OF 'bodkinlaw01.UnitBack'. -/
def unitBackUptoCard : Claim7 := { stood := { row := unitBackUptoRow, standIns := [], harness := (true, "6a1eb6ecb0a87c903ce5a3ea4645788a030fafe73c0e081eec17ec94b6e7596b"), looks := false }, kinds := [], alts := [], laidByText := true, laidKinds := [.data, .pinned], laidTests := true, laidLooks := .later }
def UnitBackUptoCardSaid : Prop := Claim7.holds Tryd.pinned (.plain (OpenSpec.upto unitBackSpec)) unitBackUptoCard
end Rows
end Go.Proofs.YtadgbbnkhjapnaaDoor
