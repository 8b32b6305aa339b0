/-
  DERIVED. GIVEN WITH THE SEED: THE CARDS: each row of YtoijjkbnmicadaaDoorRows.lean that lists a variable, with what it lists TIED to the program's text (the seventh form; the later family's looks); each row that meets fmt, with fmt's text TOLD by the authors' own Lean function (tested against real Go, not proved from fmt's source: count such statements apart). THE CARD IS WHAT COUNTS. Prove the row's statement (the work); the ties are given (YtoijjkbnmicadaaDoorTie.lean); close each card by the builder's one call (the guide's Derived/Test/ToyasCard.lean, 'card_holds'). Laid BY PROGRAM, IN A SANDBOX (cutbox-door.mjs). By AI agents, Wed Nov 11 2026. No macro, syntax, notation, axiom, sorry.
-/
import Derived.Test.YtoijjkbnmicadaaDoorRows
import GoSem.ClaimSeven
namespace Go.Proofs.YtoijjkbnmicadaaDoor
namespace Rows

/-- THE TIED CARD OF 'bodkinlaw05.WordChars'. -/
def wordCharsCard : Claim7 := { stood := { row := wordCharsRow, standIns := [], harness := (true, "473fd0891ac7a60d307fedeaf1b679673fa75954090a7d6f1bb1a23499b914b8"), looks := false }, kinds := [], alts := [], laidByText := true, laidKinds := [.data, .pinned], laidTests := true, laidLooks := .later }
def WordCharsCardSaid : Prop := Claim7.holds Tryd.pinned (.plain (OpenSpec.ofChange wordCharsSpec)) wordCharsCard

/-- THE TIED CARD OF 'bodkinlaw05.WordSpans'. -/
def wordSpansCard : Claim7 := { stood := { row := wordSpansRow, standIns := [], harness := (true, "473fd0891ac7a60d307fedeaf1b679673fa75954090a7d6f1bb1a23499b914b8"), looks := false }, kinds := [], alts := [], laidByText := true, laidKinds := [.data, .pinned], laidTests := true, laidLooks := .later }
def WordSpansCardSaid : Prop := Claim7.holds Tryd.pinned (.plain (OpenSpec.ofChange wordSpansSpec)) wordSpansCard

/-- THE TIED CARD OF 'bodkinlaw05.WordMoves'. -/
def wordMovesCard : Claim7 := { stood := { row := wordMovesRow, standIns := [], harness := (true, "473fd0891ac7a60d307fedeaf1b679673fa75954090a7d6f1bb1a23499b914b8"), looks := false }, kinds := [], alts := [], laidByText := true, laidKinds := [.data, .pinned], laidTests := true, laidLooks := .later }
def WordMovesCardSaid : Prop := Claim7.holds Tryd.pinned (.plain (OpenSpec.ofChange wordMovesSpec)) wordMovesCard

/-- THE TIED CARD OF 'bodkinlaw05.WordCases'. -/
def wordCasesCard : Claim7 := { stood := { row := wordCasesRow, standIns := [], harness := (true, "473fd0891ac7a60d307fedeaf1b679673fa75954090a7d6f1bb1a23499b914b8"), looks := false }, kinds := [], alts := [], laidByText := true, laidKinds := [.data, .pinned], laidTests := true, laidLooks := .later }
def WordCasesCardSaid : Prop := Claim7.holds Tryd.pinned (.plain (OpenSpec.ofChange wordCasesSpec)) wordCasesCard

/-- THE TIED CARD OF 'bodkinlaw05.WordTiles'. -/
def wordTilesCard : Claim7 := { stood := { row := wordTilesRow, standIns := [], harness := (true, "473fd0891ac7a60d307fedeaf1b679673fa75954090a7d6f1bb1a23499b914b8"), looks := false }, kinds := [], alts := [], laidByText := true, laidKinds := [.data, .pinned], laidTests := true, laidLooks := .later }
def WordTilesCardSaid : Prop := Claim7.holds Tryd.pinned (.plain (OpenSpec.ofChange wordTilesSpec)) wordTilesCard

/-- THE TIED CARD OF 'bodkinlaw05.WordSteps'. -/
def wordStepsCard : Claim7 := { stood := { row := wordStepsRow, standIns := [], harness := (true, "473fd0891ac7a60d307fedeaf1b679673fa75954090a7d6f1bb1a23499b914b8"), looks := false }, kinds := [], alts := [], laidByText := true, laidKinds := [.data, .pinned], laidTests := true, laidLooks := .later }
def WordStepsCardSaid : Prop := Claim7.holds Tryd.pinned (.plain (OpenSpec.ofChange wordStepsSpec)) wordStepsCard

/-- THE SECOND FORM's CARD OF 'bodkinlaw05.WordChars'. -/
def wordCharsUptoCard : Claim7 := { stood := { row := wordCharsUptoRow, standIns := [], harness := (true, "473fd0891ac7a60d307fedeaf1b679673fa75954090a7d6f1bb1a23499b914b8"), looks := false }, kinds := [], alts := [], laidByText := true, laidKinds := [.data, .pinned], laidTests := true, laidLooks := .later }
def WordCharsUptoCardSaid : Prop := Claim7.holds Tryd.pinned (.plain (OpenSpec.upto wordCharsSpec)) wordCharsUptoCard

/-- THE SECOND FORM's CARD OF 'bodkinlaw05.WordSpans'. -/
def wordSpansUptoCard : Claim7 := { stood := { row := wordSpansUptoRow, standIns := [], harness := (true, "473fd0891ac7a60d307fedeaf1b679673fa75954090a7d6f1bb1a23499b914b8"), looks := false }, kinds := [], alts := [], laidByText := true, laidKinds := [.data, .pinned], laidTests := true, laidLooks := .later }
def WordSpansUptoCardSaid : Prop := Claim7.holds Tryd.pinned (.plain (OpenSpec.upto wordSpansSpec)) wordSpansUptoCard

/-- THE SECOND FORM's CARD OF 'bodkinlaw05.WordMoves'. -/
def wordMovesUptoCard : Claim7 := { stood := { row := wordMovesUptoRow, standIns := [], harness := (true, "473fd0891ac7a60d307fedeaf1b679673fa75954090a7d6f1bb1a23499b914b8"), looks := false }, kinds := [], alts := [], laidByText := true, laidKinds := [.data, .pinned], laidTests := true, laidLooks := .later }
def WordMovesUptoCardSaid : Prop := Claim7.holds Tryd.pinned (.plain (OpenSpec.upto wordMovesSpec)) wordMovesUptoCard

/-- THE SECOND FORM's CARD OF 'bodkinlaw05.WordCases'. -/
def wordCasesUptoCard : Claim7 := { stood := { row := wordCasesUptoRow, standIns := [], harness := (true, "473fd0891ac7a60d307fedeaf1b679673fa75954090a7d6f1bb1a23499b914b8"), looks := false }, kinds := [], alts := [], laidByText := true, laidKinds := [.data, .pinned], laidTests := true, laidLooks := .later }
def WordCasesUptoCardSaid : Prop := Claim7.holds Tryd.pinned (.plain (OpenSpec.upto wordCasesSpec)) wordCasesUptoCard

/-- THE SECOND FORM's CARD OF 'bodkinlaw05.WordTiles'. -/
def wordTilesUptoCard : Claim7 := { stood := { row := wordTilesUptoRow, standIns := [], harness := (true, "473fd0891ac7a60d307fedeaf1b679673fa75954090a7d6f1bb1a23499b914b8"), looks := false }, kinds := [], alts := [], laidByText := true, laidKinds := [.data, .pinned], laidTests := true, laidLooks := .later }
def WordTilesUptoCardSaid : Prop := Claim7.holds Tryd.pinned (.plain (OpenSpec.upto wordTilesSpec)) wordTilesUptoCard

/-- THE SECOND FORM's CARD OF 'bodkinlaw05.WordSteps'. -/
def wordStepsUptoCard : Claim7 := { stood := { row := wordStepsUptoRow, standIns := [], harness := (true, "473fd0891ac7a60d307fedeaf1b679673fa75954090a7d6f1bb1a23499b914b8"), looks := false }, kinds := [], alts := [], laidByText := true, laidKinds := [.data, .pinned], laidTests := true, laidLooks := .later }
def WordStepsUptoCardSaid : Prop := Claim7.holds Tryd.pinned (.plain (OpenSpec.upto wordStepsSpec)) wordStepsUptoCard
end Rows
end Go.Proofs.YtoijjkbnmicadaaDoor
