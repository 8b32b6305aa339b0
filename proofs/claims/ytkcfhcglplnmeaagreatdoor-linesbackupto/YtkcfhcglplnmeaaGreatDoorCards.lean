/-
  DERIVED. GIVEN WITH THE SEED: THE CARDS: each row of YtkcfhcglplnmeaaGreatDoorRows.lean that lists a variable, with what it lists TIED to the program's text (the seventh form; the later family's looks); each row that meets fmt, with fmt's text TOLD by the authors' own Lean function (tested against real Go, not proved from fmt's source: count such statements apart). THE CARD IS WHAT COUNTS. Prove the row's statement (the work); the ties are given (YtkcfhcglplnmeaaGreatDoorTie.lean); close each card by the builder's one call (the guide's Derived/Test/ToyasCard.lean, 'card_holds'). Laid BY PROGRAM, IN A SANDBOX (cutbox-door.mjs). By AI agents, Wed Nov 11 2026. No macro, syntax, notation, axiom, sorry.
-/
import Derived.Test.YtkcfhcglplnmeaaGreatDoorRows
import GoSem.ClaimSeven
namespace Go.Proofs.YtkcfhcglplnmeaaGreatDoor
namespace Rows

/-- THE TIED CARD OF 'bodkinlaw11.LinesWalks'. -/
def linesWalksCard : Claim7 := { stood := { row := linesWalksRow, standIns := [], harness := (true, "6ab68aab082cd160e6ef8269b1a675e5897371c2b9bda30a1aad81709c5abcd3"), looks := true }, kinds := [], alts := [], laidByText := true, laidKinds := [.data, .pinned], laidTests := true, laidLooks := .later }
def LinesWalksCardSaid : Prop := Claim7.holds Tryz.pinned (.plain (OpenSpec.ofChange linesWalksSpec)) linesWalksCard

/-- THE TIED CARD OF 'bodkinlaw11.LinesTile'. -/
def linesTileCard : Claim7 := { stood := { row := linesTileRow, standIns := [], harness := (true, "6ab68aab082cd160e6ef8269b1a675e5897371c2b9bda30a1aad81709c5abcd3"), looks := true }, kinds := [], alts := [], laidByText := true, laidKinds := [.data, .pinned], laidTests := true, laidLooks := .later }
def LinesTileCardSaid : Prop := Claim7.holds Tryz.pinned (.plain (OpenSpec.ofChange linesTileSpec)) linesTileCard

/-- THE TIED CARD OF 'bodkinlaw11.LinesBack'. -/
def linesBackCard : Claim7 := { stood := { row := linesBackRow, standIns := [], harness := (true, "6ab68aab082cd160e6ef8269b1a675e5897371c2b9bda30a1aad81709c5abcd3"), looks := true }, kinds := [], alts := [], laidByText := true, laidKinds := [.data, .pinned], laidTests := true, laidLooks := .later }
def LinesBackCardSaid : Prop := Claim7.holds Tryz.pinned (.plain (OpenSpec.ofChange linesBackSpec)) linesBackCard

/-- THE TIED CARD OF 'bodkinlaw11.LinesAlike'. -/
def linesAlikeCard : Claim7 := { stood := { row := linesAlikeRow, standIns := [], harness := (true, "6ab68aab082cd160e6ef8269b1a675e5897371c2b9bda30a1aad81709c5abcd3"), looks := true }, kinds := [], alts := [], laidByText := true, laidKinds := [.data, .pinned], laidTests := true, laidLooks := .later }
def LinesAlikeCardSaid : Prop := Claim7.holds Tryz.pinned (.plain (OpenSpec.ofChange linesAlikeSpec)) linesAlikeCard

/-- THE SECOND FORM's CARD OF 'bodkinlaw11.LinesWalks'. -/
def linesWalksUptoCard : Claim7 := { stood := { row := linesWalksUptoRow, standIns := [], harness := (true, "6ab68aab082cd160e6ef8269b1a675e5897371c2b9bda30a1aad81709c5abcd3"), looks := true }, kinds := [], alts := [], laidByText := true, laidKinds := [.data, .pinned], laidTests := true, laidLooks := .later }
def LinesWalksUptoCardSaid : Prop := Claim7.holds Tryz.pinned (.plain (OpenSpec.upto linesWalksSpec)) linesWalksUptoCard

/-- THE SECOND FORM's CARD OF 'bodkinlaw11.LinesTile'. -/
def linesTileUptoCard : Claim7 := { stood := { row := linesTileUptoRow, standIns := [], harness := (true, "6ab68aab082cd160e6ef8269b1a675e5897371c2b9bda30a1aad81709c5abcd3"), looks := true }, kinds := [], alts := [], laidByText := true, laidKinds := [.data, .pinned], laidTests := true, laidLooks := .later }
def LinesTileUptoCardSaid : Prop := Claim7.holds Tryz.pinned (.plain (OpenSpec.upto linesTileSpec)) linesTileUptoCard

/-- THE SECOND FORM's CARD OF 'bodkinlaw11.LinesBack'. -/
def linesBackUptoCard : Claim7 := { stood := { row := linesBackUptoRow, standIns := [], harness := (true, "6ab68aab082cd160e6ef8269b1a675e5897371c2b9bda30a1aad81709c5abcd3"), looks := true }, kinds := [], alts := [], laidByText := true, laidKinds := [.data, .pinned], laidTests := true, laidLooks := .later }
def LinesBackUptoCardSaid : Prop := Claim7.holds Tryz.pinned (.plain (OpenSpec.upto linesBackSpec)) linesBackUptoCard

/-- THE SECOND FORM's CARD OF 'bodkinlaw11.LinesAlike'. -/
def linesAlikeUptoCard : Claim7 := { stood := { row := linesAlikeUptoRow, standIns := [], harness := (true, "6ab68aab082cd160e6ef8269b1a675e5897371c2b9bda30a1aad81709c5abcd3"), looks := true }, kinds := [], alts := [], laidByText := true, laidKinds := [.data, .pinned], laidTests := true, laidLooks := .later }
def LinesAlikeUptoCardSaid : Prop := Claim7.holds Tryz.pinned (.plain (OpenSpec.upto linesAlikeSpec)) linesAlikeUptoCard
end Rows
end Go.Proofs.YtkcfhcglplnmeaaGreatDoor
