/-
  DERIVED. GIVEN WITH THE SEED: THE CARDS: each row of YtdfemihjnempfaaDoorRows.lean that lists a variable, with what it lists TIED to the program's text (the seventh form; the later family's looks); each row that meets fmt, with fmt's text TOLD by the authors' own Lean function (tested against real Go, not proved from fmt's source: count such statements apart). THE CARD IS WHAT COUNTS. Prove the row's statement (the work); the ties are given (YtdfemihjnempfaaDoorTie.lean); close each card by the builder's one call (the guide's Derived/Test/ToyasCard.lean, 'card_holds'). Laid BY PROGRAM, IN A SANDBOX (cutbox-door.mjs). By AI agents, Wed Nov 11 2026. No macro, syntax, notation, axiom, sorry.
-/
import Derived.Test.YtdfemihjnempfaaDoorRows
import GoSem.ClaimSeven
namespace Go.Proofs.YtdfemihjnempfaaDoor
namespace Rows

/-- THE TIED CARD OF 'bodkinlaw04.MetricMeasures'. -/
def metricMeasuresCard : Claim7 := { stood := { row := metricMeasuresRow, standIns := [], harness := (true, "bd9b68f2477c215571359666b78587387d043a210997c6ebd43a48017245d47c"), looks := false }, kinds := [], alts := [], laidByText := true, laidKinds := [.data, .pinned], laidTests := true, laidLooks := .later }
def MetricMeasuresCardSaid : Prop := Claim7.holds Tryd.pinned (.plain (OpenSpec.ofChange metricMeasuresSpec)) metricMeasuresCard

/-- THE TIED CARD OF 'bodkinlaw04.MetricRanges'. -/
def metricRangesCard : Claim7 := { stood := { row := metricRangesRow, standIns := [], harness := (true, "bd9b68f2477c215571359666b78587387d043a210997c6ebd43a48017245d47c"), looks := false }, kinds := [], alts := [], laidByText := true, laidKinds := [.data, .pinned], laidTests := true, laidLooks := .later }
def MetricRangesCardSaid : Prop := Claim7.holds Tryd.pinned (.plain (OpenSpec.ofChange metricRangesSpec)) metricRangesCard

/-- THE TIED CARD OF 'bodkinlaw04.MetricJoins'. -/
def metricJoinsCard : Claim7 := { stood := { row := metricJoinsRow, standIns := [], harness := (true, "bd9b68f2477c215571359666b78587387d043a210997c6ebd43a48017245d47c"), looks := false }, kinds := [], alts := [], laidByText := true, laidKinds := [.data, .pinned], laidTests := true, laidLooks := .later }
def MetricJoinsCardSaid : Prop := Claim7.holds Tryd.pinned (.plain (OpenSpec.ofChange metricJoinsSpec)) metricJoinsCard

/-- THE TIED CARD OF 'bodkinlaw04.MetricHomes'. -/
def metricHomesCard : Claim7 := { stood := { row := metricHomesRow, standIns := [], harness := (true, "bd9b68f2477c215571359666b78587387d043a210997c6ebd43a48017245d47c"), looks := false }, kinds := [], alts := [], laidByText := true, laidKinds := [.data, .pinned], laidTests := true, laidLooks := .later }
def MetricHomesCardSaid : Prop := Claim7.holds Tryd.pinned (.plain (OpenSpec.ofChange metricHomesSpec)) metricHomesCard

/-- THE TIED CARD OF 'bodkinlaw04.MetricCuts'. -/
def metricCutsCard : Claim7 := { stood := { row := metricCutsRow, standIns := [], harness := (true, "bd9b68f2477c215571359666b78587387d043a210997c6ebd43a48017245d47c"), looks := false }, kinds := [], alts := [], laidByText := true, laidKinds := [.data, .pinned], laidTests := true, laidLooks := .later }
def MetricCutsCardSaid : Prop := Claim7.holds Tryd.pinned (.plain (OpenSpec.ofChange metricCutsSpec)) metricCutsCard

/-- THE TIED CARD OF 'bodkinlaw04.MetricTells'. -/
def metricTellsCard : Claim7 := { stood := { row := metricTellsRow, standIns := [], harness := (true, "bd9b68f2477c215571359666b78587387d043a210997c6ebd43a48017245d47c"), looks := false }, kinds := [], alts := [], laidByText := true, laidKinds := [.data, .pinned], laidTests := true, laidLooks := .later }
def MetricTellsCardSaid : Prop := Claim7.holds Tryd.pinned (.plain (OpenSpec.ofChange metricTellsSpec)) metricTellsCard

/-- THE SECOND FORM's CARD OF 'bodkinlaw04.MetricMeasures'. -/
def metricMeasuresUptoCard : Claim7 := { stood := { row := metricMeasuresUptoRow, standIns := [], harness := (true, "bd9b68f2477c215571359666b78587387d043a210997c6ebd43a48017245d47c"), looks := false }, kinds := [], alts := [], laidByText := true, laidKinds := [.data, .pinned], laidTests := true, laidLooks := .later }
def MetricMeasuresUptoCardSaid : Prop := Claim7.holds Tryd.pinned (.plain (OpenSpec.upto metricMeasuresSpec)) metricMeasuresUptoCard

/-- THE SECOND FORM's CARD OF 'bodkinlaw04.MetricRanges'. -/
def metricRangesUptoCard : Claim7 := { stood := { row := metricRangesUptoRow, standIns := [], harness := (true, "bd9b68f2477c215571359666b78587387d043a210997c6ebd43a48017245d47c"), looks := false }, kinds := [], alts := [], laidByText := true, laidKinds := [.data, .pinned], laidTests := true, laidLooks := .later }
def MetricRangesUptoCardSaid : Prop := Claim7.holds Tryd.pinned (.plain (OpenSpec.upto metricRangesSpec)) metricRangesUptoCard

/-- THE SECOND FORM's CARD OF 'bodkinlaw04.MetricJoins'. -/
def metricJoinsUptoCard : Claim7 := { stood := { row := metricJoinsUptoRow, standIns := [], harness := (true, "bd9b68f2477c215571359666b78587387d043a210997c6ebd43a48017245d47c"), looks := false }, kinds := [], alts := [], laidByText := true, laidKinds := [.data, .pinned], laidTests := true, laidLooks := .later }
def MetricJoinsUptoCardSaid : Prop := Claim7.holds Tryd.pinned (.plain (OpenSpec.upto metricJoinsSpec)) metricJoinsUptoCard

/-- THE SECOND FORM's CARD OF 'bodkinlaw04.MetricHomes'. -/
def metricHomesUptoCard : Claim7 := { stood := { row := metricHomesUptoRow, standIns := [], harness := (true, "bd9b68f2477c215571359666b78587387d043a210997c6ebd43a48017245d47c"), looks := false }, kinds := [], alts := [], laidByText := true, laidKinds := [.data, .pinned], laidTests := true, laidLooks := .later }
def MetricHomesUptoCardSaid : Prop := Claim7.holds Tryd.pinned (.plain (OpenSpec.upto metricHomesSpec)) metricHomesUptoCard

/-- THE SECOND FORM's CARD OF 'bodkinlaw04.MetricCuts'. -/
def metricCutsUptoCard : Claim7 := { stood := { row := metricCutsUptoRow, standIns := [], harness := (true, "bd9b68f2477c215571359666b78587387d043a210997c6ebd43a48017245d47c"), looks := false }, kinds := [], alts := [], laidByText := true, laidKinds := [.data, .pinned], laidTests := true, laidLooks := .later }
def MetricCutsUptoCardSaid : Prop := Claim7.holds Tryd.pinned (.plain (OpenSpec.upto metricCutsSpec)) metricCutsUptoCard

/-- THE SECOND FORM's CARD OF 'bodkinlaw04.MetricTells'. -/
def metricTellsUptoCard : Claim7 := { stood := { row := metricTellsUptoRow, standIns := [], harness := (true, "bd9b68f2477c215571359666b78587387d043a210997c6ebd43a48017245d47c"), looks := false }, kinds := [], alts := [], laidByText := true, laidKinds := [.data, .pinned], laidTests := true, laidLooks := .later }
def MetricTellsUptoCardSaid : Prop := Claim7.holds Tryd.pinned (.plain (OpenSpec.upto metricTellsSpec)) metricTellsUptoCard
end Rows
end Go.Proofs.YtdfemihjnempfaaDoor
