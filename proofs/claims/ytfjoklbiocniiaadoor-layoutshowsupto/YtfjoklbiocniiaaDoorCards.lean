/-
  DERIVED. GIVEN WITH THE SEED: THE CARDS: each row of YtfjoklbiocniiaaDoorRows.lean that lists a variable, with what it lists TIED to the program's text (the seventh form; the later family's looks); each row that meets fmt, with fmt's text TOLD by the authors' own Lean function (tested against real Go, not proved from fmt's source: count such statements apart). THE CARD IS WHAT COUNTS. Prove the row's statement (the work); the ties are given (YtfjoklbiocniiaaDoorTie.lean); close each card by the builder's one call (the guide's Derived/Test/ToyasCard.lean, 'card_holds'). Laid BY PROGRAM, IN A SANDBOX (cutbox-door.mjs). By AI agents, Wed Nov 11 2026. No macro, syntax, notation, axiom, sorry.
-/
import Derived.Test.YtfjoklbiocniiaaDoorRows
import GoSem.ClaimSeven
namespace Go.Proofs.YtfjoklbiocniiaaDoor
namespace Rows

/-- THE TIED CARD OF 'bodkinlaw20.LayoutLays'. -/
def layoutLaysCard : Claim7 := { stood := { row := layoutLaysRow, standIns := [], harness := (true, "00aba21a2185e3288cc8b02f1cfb492c4f4e8a2aace597e7e6a5c6aa84f18cab"), looks := false }, kinds := [], alts := [], laidByText := true, laidKinds := [.data, .pinned], laidTests := true, laidLooks := .later }
def LayoutLaysCardSaid : Prop := Claim7.holds Tryd.pinned (.plain (OpenSpec.ofChange layoutLaysSpec)) layoutLaysCard

/-- THE TIED CARD OF 'bodkinlaw20.LayoutPlaces'. -/
def layoutPlacesCard : Claim7 := { stood := { row := layoutPlacesRow, standIns := [], harness := (true, "00aba21a2185e3288cc8b02f1cfb492c4f4e8a2aace597e7e6a5c6aa84f18cab"), looks := false }, kinds := [], alts := [], laidByText := true, laidKinds := [.data, .pinned], laidTests := true, laidLooks := .later }
def LayoutPlacesCardSaid : Prop := Claim7.holds Tryd.pinned (.plain (OpenSpec.ofChange layoutPlacesSpec)) layoutPlacesCard

/-- THE TIED CARD OF 'bodkinlaw20.LayoutKeeps'. -/
def layoutKeepsCard : Claim7 := { stood := { row := layoutKeepsRow, standIns := [], harness := (true, "00aba21a2185e3288cc8b02f1cfb492c4f4e8a2aace597e7e6a5c6aa84f18cab"), looks := false }, kinds := [], alts := [], laidByText := true, laidKinds := [.data, .pinned], laidTests := true, laidLooks := .later }
def LayoutKeepsCardSaid : Prop := Claim7.holds Tryd.pinned (.plain (OpenSpec.ofChange layoutKeepsSpec)) layoutKeepsCard

/-- THE TIED CARD OF 'bodkinlaw20.LayoutShows'. -/
def layoutShowsCard : Claim7 := { stood := { row := layoutShowsRow, standIns := [], harness := (true, "00aba21a2185e3288cc8b02f1cfb492c4f4e8a2aace597e7e6a5c6aa84f18cab"), looks := false }, kinds := [], alts := [], laidByText := true, laidKinds := [.data, .pinned], laidTests := true, laidLooks := .later }
def LayoutShowsCardSaid : Prop := Claim7.holds Tryd.pinned (.plain (OpenSpec.ofChange layoutShowsSpec)) layoutShowsCard

/-- THE SECOND FORM's CARD OF 'bodkinlaw20.LayoutLays'. -/
def layoutLaysUptoCard : Claim7 := { stood := { row := layoutLaysUptoRow, standIns := [], harness := (true, "00aba21a2185e3288cc8b02f1cfb492c4f4e8a2aace597e7e6a5c6aa84f18cab"), looks := false }, kinds := [], alts := [], laidByText := true, laidKinds := [.data, .pinned], laidTests := true, laidLooks := .later }
def LayoutLaysUptoCardSaid : Prop := Claim7.holds Tryd.pinned (.plain (OpenSpec.upto layoutLaysSpec)) layoutLaysUptoCard

/-- THE SECOND FORM's CARD OF 'bodkinlaw20.LayoutPlaces'. -/
def layoutPlacesUptoCard : Claim7 := { stood := { row := layoutPlacesUptoRow, standIns := [], harness := (true, "00aba21a2185e3288cc8b02f1cfb492c4f4e8a2aace597e7e6a5c6aa84f18cab"), looks := false }, kinds := [], alts := [], laidByText := true, laidKinds := [.data, .pinned], laidTests := true, laidLooks := .later }
def LayoutPlacesUptoCardSaid : Prop := Claim7.holds Tryd.pinned (.plain (OpenSpec.upto layoutPlacesSpec)) layoutPlacesUptoCard

/-- THE SECOND FORM's CARD OF 'bodkinlaw20.LayoutKeeps'. -/
def layoutKeepsUptoCard : Claim7 := { stood := { row := layoutKeepsUptoRow, standIns := [], harness := (true, "00aba21a2185e3288cc8b02f1cfb492c4f4e8a2aace597e7e6a5c6aa84f18cab"), looks := false }, kinds := [], alts := [], laidByText := true, laidKinds := [.data, .pinned], laidTests := true, laidLooks := .later }
def LayoutKeepsUptoCardSaid : Prop := Claim7.holds Tryd.pinned (.plain (OpenSpec.upto layoutKeepsSpec)) layoutKeepsUptoCard

/-- THE SECOND FORM's CARD OF 'bodkinlaw20.LayoutShows'. -/
def layoutShowsUptoCard : Claim7 := { stood := { row := layoutShowsUptoRow, standIns := [], harness := (true, "00aba21a2185e3288cc8b02f1cfb492c4f4e8a2aace597e7e6a5c6aa84f18cab"), looks := false }, kinds := [], alts := [], laidByText := true, laidKinds := [.data, .pinned], laidTests := true, laidLooks := .later }
def LayoutShowsUptoCardSaid : Prop := Claim7.holds Tryd.pinned (.plain (OpenSpec.upto layoutShowsSpec)) layoutShowsUptoCard
end Rows
end Go.Proofs.YtfjoklbiocniiaaDoor
