/-
  DERIVED. GIVEN WITH THE SEED: THE CARDS: each row of YtcgnfjcbafmbgaaDoorRows.lean that lists a variable, with what it lists TIED to the program's text (the seventh form; the later family's looks); each row that meets fmt, with fmt's text TOLD by the authors' own Lean function (tested against real Go, not proved from fmt's source: count such statements apart). THE CARD IS WHAT COUNTS. Prove the row's statement (the work); the ties are given (YtcgnfjcbafmbgaaDoorTie.lean); close each card by the builder's one call (the guide's Derived/Test/ToyasCard.lean, 'card_holds'). Laid BY PROGRAM, IN A SANDBOX (cutbox-door.mjs). By AI agents, Wed Nov 11 2026. No macro, syntax, notation, axiom, sorry.
-/
import Derived.Test.YtcgnfjcbafmbgaaDoorRows
import GoSem.ClaimSeven
namespace Go.Proofs.YtcgnfjcbafmbgaaDoor
namespace Rows

/-- THE TIED CARD OF 'bodkinlaw21.PaintFits'. -/
def paintFitsCard : Claim7 := { stood := { row := paintFitsRow, standIns := [], harness := (true, "062ef0c210414a6aee19cf6e3be4b6be30a4dfdfda8d12d6e65847ad37c020ef"), looks := false }, kinds := [], alts := [], laidByText := true, laidKinds := [.data, .data, .data, .data, .pinned], laidTests := true, laidLooks := .later }
def PaintFitsCardSaid : Prop := Claim7.holds Tryd.pinned (.plain (OpenSpec.ofChange paintFitsSpec)) paintFitsCard

/-- THE TIED CARD OF 'bodkinlaw21.PaintPaints'. -/
def paintPaintsCard : Claim7 := { stood := { row := paintPaintsRow, standIns := [], harness := (true, "062ef0c210414a6aee19cf6e3be4b6be30a4dfdfda8d12d6e65847ad37c020ef"), looks := false }, kinds := [], alts := [], laidByText := true, laidKinds := [.data, .data, .data, .data, .pinned], laidTests := true, laidLooks := .later }
def PaintPaintsCardSaid : Prop := Claim7.holds Tryd.pinned (.plain (OpenSpec.ofChange paintPaintsSpec)) paintPaintsCard

/-- THE TIED CARD OF 'bodkinlaw21.PaintStill'. -/
def paintStillCard : Claim7 := { stood := { row := paintStillRow, standIns := [], harness := (true, "062ef0c210414a6aee19cf6e3be4b6be30a4dfdfda8d12d6e65847ad37c020ef"), looks := false }, kinds := [], alts := [], laidByText := true, laidKinds := [.data, .data, .data, .data, .pinned], laidTests := true, laidLooks := .later }
def PaintStillCardSaid : Prop := Claim7.holds Tryd.pinned (.plain (OpenSpec.ofChange paintStillSpec)) paintStillCard

/-- THE TIED CARD OF 'bodkinlaw21.PaintEnds'. -/
def paintEndsCard : Claim7 := { stood := { row := paintEndsRow, standIns := [], harness := (true, "062ef0c210414a6aee19cf6e3be4b6be30a4dfdfda8d12d6e65847ad37c020ef"), looks := false }, kinds := [], alts := [], laidByText := true, laidKinds := [.data, .data, .data, .data, .pinned], laidTests := true, laidLooks := .later }
def PaintEndsCardSaid : Prop := Claim7.holds Tryd.pinned (.plain (OpenSpec.ofChange paintEndsSpec)) paintEndsCard

/-- THE SECOND FORM's CARD OF 'bodkinlaw21.PaintFits'. -/
def paintFitsUptoCard : Claim7 := { stood := { row := paintFitsUptoRow, standIns := [], harness := (true, "062ef0c210414a6aee19cf6e3be4b6be30a4dfdfda8d12d6e65847ad37c020ef"), looks := false }, kinds := [], alts := [], laidByText := true, laidKinds := [.data, .data, .data, .data, .pinned], laidTests := true, laidLooks := .later }
def PaintFitsUptoCardSaid : Prop := Claim7.holds Tryd.pinned (.plain (OpenSpec.upto paintFitsSpec)) paintFitsUptoCard

/-- THE SECOND FORM's CARD OF 'bodkinlaw21.PaintPaints'. -/
def paintPaintsUptoCard : Claim7 := { stood := { row := paintPaintsUptoRow, standIns := [], harness := (true, "062ef0c210414a6aee19cf6e3be4b6be30a4dfdfda8d12d6e65847ad37c020ef"), looks := false }, kinds := [], alts := [], laidByText := true, laidKinds := [.data, .data, .data, .data, .pinned], laidTests := true, laidLooks := .later }
def PaintPaintsUptoCardSaid : Prop := Claim7.holds Tryd.pinned (.plain (OpenSpec.upto paintPaintsSpec)) paintPaintsUptoCard

/-- THE SECOND FORM's CARD OF 'bodkinlaw21.PaintStill'. -/
def paintStillUptoCard : Claim7 := { stood := { row := paintStillUptoRow, standIns := [], harness := (true, "062ef0c210414a6aee19cf6e3be4b6be30a4dfdfda8d12d6e65847ad37c020ef"), looks := false }, kinds := [], alts := [], laidByText := true, laidKinds := [.data, .data, .data, .data, .pinned], laidTests := true, laidLooks := .later }
def PaintStillUptoCardSaid : Prop := Claim7.holds Tryd.pinned (.plain (OpenSpec.upto paintStillSpec)) paintStillUptoCard

/-- THE SECOND FORM's CARD OF 'bodkinlaw21.PaintEnds'. -/
def paintEndsUptoCard : Claim7 := { stood := { row := paintEndsUptoRow, standIns := [], harness := (true, "062ef0c210414a6aee19cf6e3be4b6be30a4dfdfda8d12d6e65847ad37c020ef"), looks := false }, kinds := [], alts := [], laidByText := true, laidKinds := [.data, .data, .data, .data, .pinned], laidTests := true, laidLooks := .later }
def PaintEndsUptoCardSaid : Prop := Claim7.holds Tryd.pinned (.plain (OpenSpec.upto paintEndsSpec)) paintEndsUptoCard
end Rows
end Go.Proofs.YtcgnfjcbafmbgaaDoor
