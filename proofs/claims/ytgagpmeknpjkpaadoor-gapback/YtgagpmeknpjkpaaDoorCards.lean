/-
  DERIVED. GIVEN WITH THE SEED: THE CARDS: each row of YtgagpmeknpjkpaaDoorRows.lean that lists a variable, with what it lists TIED to the program's text (the seventh form; the later family's looks); each row that meets fmt, with fmt's text TOLD by the authors' own Lean function (tested against real Go, not proved from fmt's source: count such statements apart). THE CARD IS WHAT COUNTS. Prove the row's statement (the work); the ties are given (YtgagpmeknpjkpaaDoorTie.lean); close each card by the builder's one call (the guide's Derived/Test/ToyasCard.lean, 'card_holds'). Laid BY PROGRAM, IN A SANDBOX (cutbox-door.mjs). By AI agents, Wed Nov 11 2026. No macro, syntax, notation, axiom, sorry.
-/
import Derived.Test.YtgagpmeknpjkpaaDoorRows
import GoSem.ClaimSeven
namespace Go.Proofs.YtgagpmeknpjkpaaDoor
namespace Rows

/-- THE TIED CARD OF 'bodkinlaw06.GapPlace'. -/
def gapPlaceCard : Claim7 := { stood := { row := gapPlaceRow, standIns := [], harness := (true, "5f56b28242bc765864532ce00ce84c59b27186f3dc37b5680fa0215d1e3304f7"), looks := false }, kinds := [], alts := [], laidByText := true, laidKinds := [.data, .pinned], laidTests := true, laidLooks := .later }
def GapPlaceCardSaid : Prop := Claim7.holds Tryd.pinned (.plain (OpenSpec.ofChange gapPlaceSpec)) gapPlaceCard

/-- THE TIED CARD OF 'bodkinlaw06.GapBack'. -/
def gapBackCard : Claim7 := { stood := { row := gapBackRow, standIns := [], harness := (true, "5f56b28242bc765864532ce00ce84c59b27186f3dc37b5680fa0215d1e3304f7"), looks := false }, kinds := [], alts := [], laidByText := true, laidKinds := [.data, .pinned], laidTests := true, laidLooks := .later }
def GapBackCardSaid : Prop := Claim7.holds Tryd.pinned (.plain (OpenSpec.ofChange gapBackSpec)) gapBackCard

/-- THE SECOND FORM's CARD OF 'bodkinlaw06.GapPlace'. -/
def gapPlaceUptoCard : Claim7 := { stood := { row := gapPlaceUptoRow, standIns := [], harness := (true, "5f56b28242bc765864532ce00ce84c59b27186f3dc37b5680fa0215d1e3304f7"), looks := false }, kinds := [], alts := [], laidByText := true, laidKinds := [.data, .pinned], laidTests := true, laidLooks := .later }
def GapPlaceUptoCardSaid : Prop := Claim7.holds Tryd.pinned (.plain (OpenSpec.upto gapPlaceSpec)) gapPlaceUptoCard

/-- THE SECOND FORM's CARD OF 'bodkinlaw06.GapBack'. -/
def gapBackUptoCard : Claim7 := { stood := { row := gapBackUptoRow, standIns := [], harness := (true, "5f56b28242bc765864532ce00ce84c59b27186f3dc37b5680fa0215d1e3304f7"), looks := false }, kinds := [], alts := [], laidByText := true, laidKinds := [.data, .pinned], laidTests := true, laidLooks := .later }
def GapBackUptoCardSaid : Prop := Claim7.holds Tryd.pinned (.plain (OpenSpec.upto gapBackSpec)) gapBackUptoCard
end Rows
end Go.Proofs.YtgagpmeknpjkpaaDoor
