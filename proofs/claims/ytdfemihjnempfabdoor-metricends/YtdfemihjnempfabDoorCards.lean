/-
  DERIVED. GIVEN WITH THE SEED: THE CARDS: each row of YtdfemihjnempfabDoorRows.lean that lists a variable, with what it lists TIED to the program's text (the seventh form; the later family's looks); each row that meets fmt, with fmt's text TOLD by the authors' own Lean function (tested against real Go, not proved from fmt's source: count such statements apart). THE CARD IS WHAT COUNTS. Prove the row's statement (the work); the ties are given (YtdfemihjnempfabDoorTie.lean); close each card by the builder's one call (the guide's Derived/Test/ToyasCard.lean, 'card_holds'). Laid BY PROGRAM, IN A SANDBOX (cutbox-door.mjs). By AI agents, Wed Nov 11 2026. No macro, syntax, notation, axiom, sorry.
-/
import Derived.Test.YtdfemihjnempfabDoorRows
import GoSem.ClaimSeven
namespace Go.Proofs.YtdfemihjnempfabDoor
namespace Rows

/-- THE TIED CARD OF 'bodkinlaw04.MetricSeams'. -/
def metricSeamsCard : Claim7 := { stood := { row := metricSeamsRow, standIns := [], harness := (true, "9fac60150a072e98f04000107fd0d7f90f5f97286ee71ec45b603c2dce42d527"), looks := false }, kinds := [], alts := [], laidByText := true, laidKinds := [.data, .pinned], laidTests := true, laidLooks := .later }
def MetricSeamsCardSaid : Prop := Claim7.holds Tryd.pinned (.plain (OpenSpec.ofChange metricSeamsSpec)) metricSeamsCard

/-- THE TIED CARD OF 'bodkinlaw04.MetricEnds'. -/
def metricEndsCard : Claim7 := { stood := { row := metricEndsRow, standIns := [], harness := (true, "9fac60150a072e98f04000107fd0d7f90f5f97286ee71ec45b603c2dce42d527"), looks := false }, kinds := [], alts := [], laidByText := true, laidKinds := [.data, .pinned], laidTests := true, laidLooks := .later }
def MetricEndsCardSaid : Prop := Claim7.holds Tryd.pinned (.plain (OpenSpec.ofChange metricEndsSpec)) metricEndsCard

/-- THE SECOND FORM's CARD OF 'bodkinlaw04.MetricSeams'. -/
def metricSeamsUptoCard : Claim7 := { stood := { row := metricSeamsUptoRow, standIns := [], harness := (true, "9fac60150a072e98f04000107fd0d7f90f5f97286ee71ec45b603c2dce42d527"), looks := false }, kinds := [], alts := [], laidByText := true, laidKinds := [.data, .pinned], laidTests := true, laidLooks := .later }
def MetricSeamsUptoCardSaid : Prop := Claim7.holds Tryd.pinned (.plain (OpenSpec.upto metricSeamsSpec)) metricSeamsUptoCard

/-- THE SECOND FORM's CARD OF 'bodkinlaw04.MetricEnds'. -/
def metricEndsUptoCard : Claim7 := { stood := { row := metricEndsUptoRow, standIns := [], harness := (true, "9fac60150a072e98f04000107fd0d7f90f5f97286ee71ec45b603c2dce42d527"), looks := false }, kinds := [], alts := [], laidByText := true, laidKinds := [.data, .pinned], laidTests := true, laidLooks := .later }
def MetricEndsUptoCardSaid : Prop := Claim7.holds Tryd.pinned (.plain (OpenSpec.upto metricEndsSpec)) metricEndsUptoCard
end Rows
end Go.Proofs.YtdfemihjnempfabDoor
