/-
  DERIVED. GIVEN WITH THE SEED: THE CARDS: each row of YtmaolbibbjngcaaDoorRows.lean that lists a variable, with what it lists TIED to the program's text (the seventh form; the later family's looks); each row that meets fmt, with fmt's text TOLD by the authors' own Lean function (tested against real Go, not proved from fmt's source: count such statements apart). THE CARD IS WHAT COUNTS. Prove the row's statement (the work); the ties are given (YtmaolbibbjngcaaDoorTie.lean); close each card by the builder's one call (the guide's Derived/Test/ToyasCard.lean, 'card_holds'). Laid BY PROGRAM, IN A SANDBOX (cutbox-door.mjs). By AI agents, Wed Nov 11 2026. No macro, syntax, notation, axiom, sorry.
-/
import Derived.Test.YtmaolbibbjngcaaDoorRows
import GoSem.ClaimSeven
namespace Go.Proofs.YtmaolbibbjngcaaDoor
namespace Rows

/-- THE TIED CARD OF 'bodkinlaw19.BindKeys'. -/
def bindKeysCard : Claim7 := { stood := { row := bindKeysRow, standIns := [], harness := (true, "702797356ace7fec4669dd9784479ecceee8c44d5bf74188eb16674878eb74de"), looks := false }, kinds := [], alts := [], laidByText := true, laidKinds := [.data, .data, .data, .data], laidTests := true, laidLooks := .later }
def BindKeysCardSaid : Prop := Claim7.holds Tryd.pinned (.plain (OpenSpec.ofChange bindKeysSpec)) bindKeysCard

/-- THE TIED CARD OF 'bodkinlaw19.BindCommands'. -/
def bindCommandsCard : Claim7 := { stood := { row := bindCommandsRow, standIns := [], harness := (true, "702797356ace7fec4669dd9784479ecceee8c44d5bf74188eb16674878eb74de"), looks := false }, kinds := [], alts := [], laidByText := true, laidKinds := [.data, .data, .data, .data], laidTests := true, laidLooks := .later }
def BindCommandsCardSaid : Prop := Claim7.holds Tryd.pinned (.plain (OpenSpec.ofChange bindCommandsSpec)) bindCommandsCard

/-- THE TIED CARD OF 'bodkinlaw19.BindTable'. -/
def bindTableCard : Claim7 := { stood := { row := bindTableRow, standIns := [], harness := (true, "702797356ace7fec4669dd9784479ecceee8c44d5bf74188eb16674878eb74de"), looks := false }, kinds := [], alts := [], laidByText := true, laidKinds := [.data, .data, .data, .data], laidTests := true, laidLooks := .later }
def BindTableCardSaid : Prop := Claim7.holds Tryd.pinned (.plain (OpenSpec.ofChange bindTableSpec)) bindTableCard

/-- THE TIED CARD OF 'bodkinlaw19.BindCounts'. -/
def bindCountsCard : Claim7 := { stood := { row := bindCountsRow, standIns := [], harness := (true, "702797356ace7fec4669dd9784479ecceee8c44d5bf74188eb16674878eb74de"), looks := false }, kinds := [], alts := [], laidByText := true, laidKinds := [.data, .data, .data, .data], laidTests := true, laidLooks := .later }
def BindCountsCardSaid : Prop := Claim7.holds Tryd.pinned (.plain (OpenSpec.ofChange bindCountsSpec)) bindCountsCard

/-- THE TIED CARD OF 'bodkinlaw19.BindOne'. -/
def bindOneCard : Claim7 := { stood := { row := bindOneRow, standIns := [], harness := (true, "702797356ace7fec4669dd9784479ecceee8c44d5bf74188eb16674878eb74de"), looks := false }, kinds := [], alts := [], laidByText := true, laidKinds := [.data, .data, .data, .data], laidTests := true, laidLooks := .later }
def BindOneCardSaid : Prop := Claim7.holds Tryd.pinned (.plain (OpenSpec.ofChange bindOneSpec)) bindOneCard

/-- THE TIED CARD OF 'bodkinlaw19.BindNone'. -/
def bindNoneCard : Claim7 := { stood := { row := bindNoneRow, standIns := [], harness := (true, "702797356ace7fec4669dd9784479ecceee8c44d5bf74188eb16674878eb74de"), looks := false }, kinds := [], alts := [], laidByText := true, laidKinds := [.data, .data, .data, .data], laidTests := true, laidLooks := .later }
def BindNoneCardSaid : Prop := Claim7.holds Tryd.pinned (.plain (OpenSpec.ofChange bindNoneSpec)) bindNoneCard

/-- THE SECOND FORM's CARD OF 'bodkinlaw19.BindKeys'. -/
def bindKeysUptoCard : Claim7 := { stood := { row := bindKeysUptoRow, standIns := [], harness := (true, "702797356ace7fec4669dd9784479ecceee8c44d5bf74188eb16674878eb74de"), looks := false }, kinds := [], alts := [], laidByText := true, laidKinds := [.data, .data, .data, .data], laidTests := true, laidLooks := .later }
def BindKeysUptoCardSaid : Prop := Claim7.holds Tryd.pinned (.plain (OpenSpec.upto bindKeysSpec)) bindKeysUptoCard

/-- THE SECOND FORM's CARD OF 'bodkinlaw19.BindCommands'. -/
def bindCommandsUptoCard : Claim7 := { stood := { row := bindCommandsUptoRow, standIns := [], harness := (true, "702797356ace7fec4669dd9784479ecceee8c44d5bf74188eb16674878eb74de"), looks := false }, kinds := [], alts := [], laidByText := true, laidKinds := [.data, .data, .data, .data], laidTests := true, laidLooks := .later }
def BindCommandsUptoCardSaid : Prop := Claim7.holds Tryd.pinned (.plain (OpenSpec.upto bindCommandsSpec)) bindCommandsUptoCard

/-- THE SECOND FORM's CARD OF 'bodkinlaw19.BindTable'. -/
def bindTableUptoCard : Claim7 := { stood := { row := bindTableUptoRow, standIns := [], harness := (true, "702797356ace7fec4669dd9784479ecceee8c44d5bf74188eb16674878eb74de"), looks := false }, kinds := [], alts := [], laidByText := true, laidKinds := [.data, .data, .data, .data], laidTests := true, laidLooks := .later }
def BindTableUptoCardSaid : Prop := Claim7.holds Tryd.pinned (.plain (OpenSpec.upto bindTableSpec)) bindTableUptoCard

/-- THE SECOND FORM's CARD OF 'bodkinlaw19.BindCounts'. -/
def bindCountsUptoCard : Claim7 := { stood := { row := bindCountsUptoRow, standIns := [], harness := (true, "702797356ace7fec4669dd9784479ecceee8c44d5bf74188eb16674878eb74de"), looks := false }, kinds := [], alts := [], laidByText := true, laidKinds := [.data, .data, .data, .data], laidTests := true, laidLooks := .later }
def BindCountsUptoCardSaid : Prop := Claim7.holds Tryd.pinned (.plain (OpenSpec.upto bindCountsSpec)) bindCountsUptoCard

/-- THE SECOND FORM's CARD OF 'bodkinlaw19.BindOne'. -/
def bindOneUptoCard : Claim7 := { stood := { row := bindOneUptoRow, standIns := [], harness := (true, "702797356ace7fec4669dd9784479ecceee8c44d5bf74188eb16674878eb74de"), looks := false }, kinds := [], alts := [], laidByText := true, laidKinds := [.data, .data, .data, .data], laidTests := true, laidLooks := .later }
def BindOneUptoCardSaid : Prop := Claim7.holds Tryd.pinned (.plain (OpenSpec.upto bindOneSpec)) bindOneUptoCard

/-- THE SECOND FORM's CARD OF 'bodkinlaw19.BindNone'. -/
def bindNoneUptoCard : Claim7 := { stood := { row := bindNoneUptoRow, standIns := [], harness := (true, "702797356ace7fec4669dd9784479ecceee8c44d5bf74188eb16674878eb74de"), looks := false }, kinds := [], alts := [], laidByText := true, laidKinds := [.data, .data, .data, .data], laidTests := true, laidLooks := .later }
def BindNoneUptoCardSaid : Prop := Claim7.holds Tryd.pinned (.plain (OpenSpec.upto bindNoneSpec)) bindNoneUptoCard
end Rows
end Go.Proofs.YtmaolbibbjngcaaDoor
