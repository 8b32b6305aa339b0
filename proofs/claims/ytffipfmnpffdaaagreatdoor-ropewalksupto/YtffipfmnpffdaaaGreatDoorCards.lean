/-
  DERIVED. GIVEN WITH THE SEED: THE CARDS: each row of YtffipfmnpffdaaaGreatDoorRows.lean that lists a variable, with what it lists TIED to the program's text (the seventh form; the later family's looks); each row that meets fmt, with fmt's text TOLD by the authors' own Lean function (tested against real Go, not proved from fmt's source: count such statements apart). THE CARD IS WHAT COUNTS. Prove the row's statement (the work); the ties are given (YtffipfmnpffdaaaGreatDoorTie.lean); close each card by the builder's one call (the guide's Derived/Test/ToyasCard.lean, 'card_holds'). Laid BY PROGRAM, IN A SANDBOX (cutbox-door.mjs). By AI agents, Wed Nov 11 2026. No macro, syntax, notation, axiom, sorry.
-/
import Derived.Test.YtffipfmnpffdaaaGreatDoorRows
import GoSem.ClaimSeven
namespace Go.Proofs.YtffipfmnpffdaaaGreatDoor
namespace Rows

/-- THE TIED CARD OF 'bodkinlaw07.RopeLeaves'. -/
def ropeLeavesCard : Claim7 := { stood := { row := ropeLeavesRow, standIns := [], harness := (true, "b8249339d40a4dbe00ae593e1f7a9dbe7c0416d00e797887d765ff2d547150d6"), looks := true }, kinds := [], alts := [], laidByText := true, laidKinds := [.data, .pinned], laidTests := true, laidLooks := .later }
def RopeLeavesCardSaid : Prop := Claim7.holds Tryz.pinned (.plain (OpenSpec.ofChange ropeLeavesSpec)) ropeLeavesCard

/-- THE TIED CARD OF 'bodkinlaw07.RopeWalks'. -/
def ropeWalksCard : Claim7 := { stood := { row := ropeWalksRow, standIns := [], harness := (true, "b8249339d40a4dbe00ae593e1f7a9dbe7c0416d00e797887d765ff2d547150d6"), looks := true }, kinds := [], alts := [], laidByText := true, laidKinds := [.data, .pinned], laidTests := true, laidLooks := .later }
def RopeWalksCardSaid : Prop := Claim7.holds Tryz.pinned (.plain (OpenSpec.ofChange ropeWalksSpec)) ropeWalksCard

/-- THE TIED CARD OF 'bodkinlaw09.StoreEnds'. -/
def storeEndsCard : Claim7 := { stood := { row := storeEndsRow, standIns := [], harness := (true, "b8249339d40a4dbe00ae593e1f7a9dbe7c0416d00e797887d765ff2d547150d6"), looks := true }, kinds := [], alts := [], laidByText := true, laidKinds := [.data, .pinned], laidTests := true, laidLooks := .later }
def StoreEndsCardSaid : Prop := Claim7.holds Tryz.pinned (.plain (OpenSpec.ofChange storeEndsSpec)) storeEndsCard

/-- THE TIED CARD OF 'bodkinlaw11.LinesSpans'. -/
def linesSpansCard : Claim7 := { stood := { row := linesSpansRow, standIns := [], harness := (true, "b8249339d40a4dbe00ae593e1f7a9dbe7c0416d00e797887d765ff2d547150d6"), looks := true }, kinds := [], alts := [], laidByText := true, laidKinds := [.data, .pinned], laidTests := true, laidLooks := .later }
def LinesSpansCardSaid : Prop := Claim7.holds Tryz.pinned (.plain (OpenSpec.ofChange linesSpansSpec)) linesSpansCard

/-- THE TIED CARD OF 'bodkinlaw11.LinesColumns'. -/
def linesColumnsCard : Claim7 := { stood := { row := linesColumnsRow, standIns := [], harness := (true, "b8249339d40a4dbe00ae593e1f7a9dbe7c0416d00e797887d765ff2d547150d6"), looks := true }, kinds := [], alts := [], laidByText := true, laidKinds := [.data, .pinned], laidTests := true, laidLooks := .later }
def LinesColumnsCardSaid : Prop := Claim7.holds Tryz.pinned (.plain (OpenSpec.ofChange linesColumnsSpec)) linesColumnsCard

/-- THE TIED CARD OF 'bodkinlaw11.LinesWalks'. -/
def linesWalksCard : Claim7 := { stood := { row := linesWalksRow, standIns := [], harness := (true, "b8249339d40a4dbe00ae593e1f7a9dbe7c0416d00e797887d765ff2d547150d6"), looks := true }, kinds := [], alts := [], laidByText := true, laidKinds := [.data, .pinned], laidTests := true, laidLooks := .later }
def LinesWalksCardSaid : Prop := Claim7.holds Tryz.pinned (.plain (OpenSpec.ofChange linesWalksSpec)) linesWalksCard

/-- THE SECOND FORM's CARD OF 'bodkinlaw07.RopeLeaves'. -/
def ropeLeavesUptoCard : Claim7 := { stood := { row := ropeLeavesUptoRow, standIns := [], harness := (true, "b8249339d40a4dbe00ae593e1f7a9dbe7c0416d00e797887d765ff2d547150d6"), looks := true }, kinds := [], alts := [], laidByText := true, laidKinds := [.data, .pinned], laidTests := true, laidLooks := .later }
def RopeLeavesUptoCardSaid : Prop := Claim7.holds Tryz.pinned (.plain (OpenSpec.upto ropeLeavesSpec)) ropeLeavesUptoCard

/-- THE SECOND FORM's CARD OF 'bodkinlaw07.RopeWalks'. -/
def ropeWalksUptoCard : Claim7 := { stood := { row := ropeWalksUptoRow, standIns := [], harness := (true, "b8249339d40a4dbe00ae593e1f7a9dbe7c0416d00e797887d765ff2d547150d6"), looks := true }, kinds := [], alts := [], laidByText := true, laidKinds := [.data, .pinned], laidTests := true, laidLooks := .later }
def RopeWalksUptoCardSaid : Prop := Claim7.holds Tryz.pinned (.plain (OpenSpec.upto ropeWalksSpec)) ropeWalksUptoCard

/-- THE SECOND FORM's CARD OF 'bodkinlaw09.StoreEnds'. -/
def storeEndsUptoCard : Claim7 := { stood := { row := storeEndsUptoRow, standIns := [], harness := (true, "b8249339d40a4dbe00ae593e1f7a9dbe7c0416d00e797887d765ff2d547150d6"), looks := true }, kinds := [], alts := [], laidByText := true, laidKinds := [.data, .pinned], laidTests := true, laidLooks := .later }
def StoreEndsUptoCardSaid : Prop := Claim7.holds Tryz.pinned (.plain (OpenSpec.upto storeEndsSpec)) storeEndsUptoCard

/-- THE SECOND FORM's CARD OF 'bodkinlaw11.LinesSpans'. -/
def linesSpansUptoCard : Claim7 := { stood := { row := linesSpansUptoRow, standIns := [], harness := (true, "b8249339d40a4dbe00ae593e1f7a9dbe7c0416d00e797887d765ff2d547150d6"), looks := true }, kinds := [], alts := [], laidByText := true, laidKinds := [.data, .pinned], laidTests := true, laidLooks := .later }
def LinesSpansUptoCardSaid : Prop := Claim7.holds Tryz.pinned (.plain (OpenSpec.upto linesSpansSpec)) linesSpansUptoCard

/-- THE SECOND FORM's CARD OF 'bodkinlaw11.LinesColumns'. -/
def linesColumnsUptoCard : Claim7 := { stood := { row := linesColumnsUptoRow, standIns := [], harness := (true, "b8249339d40a4dbe00ae593e1f7a9dbe7c0416d00e797887d765ff2d547150d6"), looks := true }, kinds := [], alts := [], laidByText := true, laidKinds := [.data, .pinned], laidTests := true, laidLooks := .later }
def LinesColumnsUptoCardSaid : Prop := Claim7.holds Tryz.pinned (.plain (OpenSpec.upto linesColumnsSpec)) linesColumnsUptoCard

/-- THE SECOND FORM's CARD OF 'bodkinlaw11.LinesWalks'. -/
def linesWalksUptoCard : Claim7 := { stood := { row := linesWalksUptoRow, standIns := [], harness := (true, "b8249339d40a4dbe00ae593e1f7a9dbe7c0416d00e797887d765ff2d547150d6"), looks := true }, kinds := [], alts := [], laidByText := true, laidKinds := [.data, .pinned], laidTests := true, laidLooks := .later }
def LinesWalksUptoCardSaid : Prop := Claim7.holds Tryz.pinned (.plain (OpenSpec.upto linesWalksSpec)) linesWalksUptoCard
end Rows
end Go.Proofs.YtffipfmnpffdaaaGreatDoor
