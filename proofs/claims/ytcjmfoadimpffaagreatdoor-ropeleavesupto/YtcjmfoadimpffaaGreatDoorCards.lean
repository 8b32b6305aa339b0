/-
  DERIVED. GIVEN WITH THE SEED: THE CARDS: each row of YtcjmfoadimpffaaGreatDoorRows.lean that lists a variable, with what it lists TIED to the program's text (the seventh form; the later family's looks); each row that meets fmt, with fmt's text TOLD by the authors' own Lean function (tested against real Go, not proved from fmt's source: count such statements apart). THE CARD IS WHAT COUNTS. Prove the row's statement (the work); the ties are given (YtcjmfoadimpffaaGreatDoorTie.lean); close each card by the builder's one call (the guide's Derived/Test/ToyasCard.lean, 'card_holds'). Laid BY PROGRAM, IN A SANDBOX (cutbox-door.mjs). By AI agents, Wed Nov 11 2026. No macro, syntax, notation, axiom, sorry.
-/
import Derived.Test.YtcjmfoadimpffaaGreatDoorRows
import GoSem.ClaimSeven
namespace Go.Proofs.YtcjmfoadimpffaaGreatDoor
namespace Rows

/-- THE TIED CARD OF 'bodkinlaw07.RopeLeaves'. -/
def ropeLeavesCard : Claim7 := { stood := { row := ropeLeavesRow, standIns := [], harness := (true, "a7aea7d931fc6258badd5dd94a093b60a476674fa8e8cc6be1d14f50d735b4e7"), looks := true }, kinds := [], alts := [], laidByText := true, laidKinds := [.data, .pinned], laidTests := true, laidLooks := .later }
def RopeLeavesCardSaid : Prop := Claim7.holds Tryz.pinned (.plain (OpenSpec.ofChange ropeLeavesSpec)) ropeLeavesCard

/-- THE TIED CARD OF 'bodkinlaw11.LinesSpans'. -/
def linesSpansCard : Claim7 := { stood := { row := linesSpansRow, standIns := [], harness := (true, "a7aea7d931fc6258badd5dd94a093b60a476674fa8e8cc6be1d14f50d735b4e7"), looks := true }, kinds := [], alts := [], laidByText := true, laidKinds := [.data, .pinned], laidTests := true, laidLooks := .later }
def LinesSpansCardSaid : Prop := Claim7.holds Tryz.pinned (.plain (OpenSpec.ofChange linesSpansSpec)) linesSpansCard

/-- THE TIED CARD OF 'bodkinlaw11.LinesColumns'. -/
def linesColumnsCard : Claim7 := { stood := { row := linesColumnsRow, standIns := [], harness := (true, "a7aea7d931fc6258badd5dd94a093b60a476674fa8e8cc6be1d14f50d735b4e7"), looks := true }, kinds := [], alts := [], laidByText := true, laidKinds := [.data, .pinned], laidTests := true, laidLooks := .later }
def LinesColumnsCardSaid : Prop := Claim7.holds Tryz.pinned (.plain (OpenSpec.ofChange linesColumnsSpec)) linesColumnsCard

/-- THE TIED CARD OF 'bodkinlaw11.LinesWalks'. -/
def linesWalksCard : Claim7 := { stood := { row := linesWalksRow, standIns := [], harness := (true, "a7aea7d931fc6258badd5dd94a093b60a476674fa8e8cc6be1d14f50d735b4e7"), looks := true }, kinds := [], alts := [], laidByText := true, laidKinds := [.data, .pinned], laidTests := true, laidLooks := .later }
def LinesWalksCardSaid : Prop := Claim7.holds Tryz.pinned (.plain (OpenSpec.ofChange linesWalksSpec)) linesWalksCard

/-- THE TIED CARD OF 'bodkinlaw11.LinesKeeps'. -/
def linesKeepsCard : Claim7 := { stood := { row := linesKeepsRow, standIns := [], harness := (true, "a7aea7d931fc6258badd5dd94a093b60a476674fa8e8cc6be1d14f50d735b4e7"), looks := true }, kinds := [], alts := [], laidByText := true, laidKinds := [.data, .pinned], laidTests := true, laidLooks := .later }
def LinesKeepsCardSaid : Prop := Claim7.holds Tryz.pinned (.plain (OpenSpec.ofChange linesKeepsSpec)) linesKeepsCard

/-- THE TIED CARD OF 'bodkinlaw11.LinesNil'. -/
def linesNilCard : Claim7 := { stood := { row := linesNilRow, standIns := [], harness := (true, "a7aea7d931fc6258badd5dd94a093b60a476674fa8e8cc6be1d14f50d735b4e7"), looks := true }, kinds := [], alts := [], laidByText := true, laidKinds := [.data, .pinned], laidTests := true, laidLooks := .later }
def LinesNilCardSaid : Prop := Claim7.holds Tryz.pinned (.plain (OpenSpec.ofChange linesNilSpec)) linesNilCard

/-- THE SECOND FORM's CARD OF 'bodkinlaw07.RopeLeaves'. -/
def ropeLeavesUptoCard : Claim7 := { stood := { row := ropeLeavesUptoRow, standIns := [], harness := (true, "a7aea7d931fc6258badd5dd94a093b60a476674fa8e8cc6be1d14f50d735b4e7"), looks := true }, kinds := [], alts := [], laidByText := true, laidKinds := [.data, .pinned], laidTests := true, laidLooks := .later }
def RopeLeavesUptoCardSaid : Prop := Claim7.holds Tryz.pinned (.plain (OpenSpec.upto ropeLeavesSpec)) ropeLeavesUptoCard

/-- THE SECOND FORM's CARD OF 'bodkinlaw11.LinesSpans'. -/
def linesSpansUptoCard : Claim7 := { stood := { row := linesSpansUptoRow, standIns := [], harness := (true, "a7aea7d931fc6258badd5dd94a093b60a476674fa8e8cc6be1d14f50d735b4e7"), looks := true }, kinds := [], alts := [], laidByText := true, laidKinds := [.data, .pinned], laidTests := true, laidLooks := .later }
def LinesSpansUptoCardSaid : Prop := Claim7.holds Tryz.pinned (.plain (OpenSpec.upto linesSpansSpec)) linesSpansUptoCard

/-- THE SECOND FORM's CARD OF 'bodkinlaw11.LinesColumns'. -/
def linesColumnsUptoCard : Claim7 := { stood := { row := linesColumnsUptoRow, standIns := [], harness := (true, "a7aea7d931fc6258badd5dd94a093b60a476674fa8e8cc6be1d14f50d735b4e7"), looks := true }, kinds := [], alts := [], laidByText := true, laidKinds := [.data, .pinned], laidTests := true, laidLooks := .later }
def LinesColumnsUptoCardSaid : Prop := Claim7.holds Tryz.pinned (.plain (OpenSpec.upto linesColumnsSpec)) linesColumnsUptoCard

/-- THE SECOND FORM's CARD OF 'bodkinlaw11.LinesWalks'. -/
def linesWalksUptoCard : Claim7 := { stood := { row := linesWalksUptoRow, standIns := [], harness := (true, "a7aea7d931fc6258badd5dd94a093b60a476674fa8e8cc6be1d14f50d735b4e7"), looks := true }, kinds := [], alts := [], laidByText := true, laidKinds := [.data, .pinned], laidTests := true, laidLooks := .later }
def LinesWalksUptoCardSaid : Prop := Claim7.holds Tryz.pinned (.plain (OpenSpec.upto linesWalksSpec)) linesWalksUptoCard

/-- THE SECOND FORM's CARD OF 'bodkinlaw11.LinesKeeps'. -/
def linesKeepsUptoCard : Claim7 := { stood := { row := linesKeepsUptoRow, standIns := [], harness := (true, "a7aea7d931fc6258badd5dd94a093b60a476674fa8e8cc6be1d14f50d735b4e7"), looks := true }, kinds := [], alts := [], laidByText := true, laidKinds := [.data, .pinned], laidTests := true, laidLooks := .later }
def LinesKeepsUptoCardSaid : Prop := Claim7.holds Tryz.pinned (.plain (OpenSpec.upto linesKeepsSpec)) linesKeepsUptoCard

/-- THE SECOND FORM's CARD OF 'bodkinlaw11.LinesNil'. -/
def linesNilUptoCard : Claim7 := { stood := { row := linesNilUptoRow, standIns := [], harness := (true, "a7aea7d931fc6258badd5dd94a093b60a476674fa8e8cc6be1d14f50d735b4e7"), looks := true }, kinds := [], alts := [], laidByText := true, laidKinds := [.data, .pinned], laidTests := true, laidLooks := .later }
def LinesNilUptoCardSaid : Prop := Claim7.holds Tryz.pinned (.plain (OpenSpec.upto linesNilSpec)) linesNilUptoCard
end Rows
end Go.Proofs.YtcjmfoadimpffaaGreatDoor
