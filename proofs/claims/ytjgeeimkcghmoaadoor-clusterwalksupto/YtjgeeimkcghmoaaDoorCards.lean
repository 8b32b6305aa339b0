/-
  DERIVED. GIVEN WITH THE SEED: THE CARDS: each row of YtjgeeimkcghmoaaDoorRows.lean that lists a variable, with what it lists TIED to the program's text (the seventh form; the later family's looks); each row that meets fmt, with fmt's text TOLD by the authors' own Lean function (tested against real Go, not proved from fmt's source: count such statements apart). THE CARD IS WHAT COUNTS. Prove the row's statement (the work); the ties are given (YtjgeeimkcghmoaaDoorTie.lean); close each card by the builder's one call (the guide's Derived/Test/ToyasCard.lean, 'card_holds'). Laid BY PROGRAM, IN A SANDBOX (cutbox-door.mjs). By AI agents, Wed Nov 11 2026. No macro, syntax, notation, axiom, sorry.
-/
import Derived.Test.YtjgeeimkcghmoaaDoorRows
import GoSem.ClaimSeven
namespace Go.Proofs.YtjgeeimkcghmoaaDoor
namespace Rows

/-- THE TIED CARD OF 'bodkinlaw03.ClusterPlaces'. -/
def clusterPlacesCard : Claim7 := { stood := { row := clusterPlacesRow, standIns := [], harness := (true, "57040e6c1d11b1aad0d4c4e0b9800402179f7a24eb0d2489eb4081a00eb909cb"), looks := false }, kinds := [], alts := [], laidByText := true, laidKinds := [.data, .pinned], laidTests := true, laidLooks := .later }
def ClusterPlacesCardSaid : Prop := Claim7.holds Tryd.pinned (.plain (OpenSpec.ofChange clusterPlacesSpec)) clusterPlacesCard

/-- THE TIED CARD OF 'bodkinlaw03.ClusterLists'. -/
def clusterListsCard : Claim7 := { stood := { row := clusterListsRow, standIns := [], harness := (true, "57040e6c1d11b1aad0d4c4e0b9800402179f7a24eb0d2489eb4081a00eb909cb"), looks := false }, kinds := [], alts := [], laidByText := true, laidKinds := [.data, .pinned], laidTests := true, laidLooks := .later }
def ClusterListsCardSaid : Prop := Claim7.holds Tryd.pinned (.plain (OpenSpec.ofChange clusterListsSpec)) clusterListsCard

/-- THE TIED CARD OF 'bodkinlaw03.ClusterWalks'. -/
def clusterWalksCard : Claim7 := { stood := { row := clusterWalksRow, standIns := [], harness := (true, "57040e6c1d11b1aad0d4c4e0b9800402179f7a24eb0d2489eb4081a00eb909cb"), looks := false }, kinds := [], alts := [], laidByText := true, laidKinds := [.data, .pinned], laidTests := true, laidLooks := .later }
def ClusterWalksCardSaid : Prop := Claim7.holds Tryd.pinned (.plain (OpenSpec.ofChange clusterWalksSpec)) clusterWalksCard

/-- THE TIED CARD OF 'bodkinlaw03.ClusterSteps'. -/
def clusterStepsCard : Claim7 := { stood := { row := clusterStepsRow, standIns := [], harness := (true, "57040e6c1d11b1aad0d4c4e0b9800402179f7a24eb0d2489eb4081a00eb909cb"), looks := false }, kinds := [], alts := [], laidByText := true, laidKinds := [.data, .pinned], laidTests := true, laidLooks := .later }
def ClusterStepsCardSaid : Prop := Claim7.holds Tryd.pinned (.plain (OpenSpec.ofChange clusterStepsSpec)) clusterStepsCard

/-- THE TIED CARD OF 'bodkinlaw03.ClusterNear'. -/
def clusterNearCard : Claim7 := { stood := { row := clusterNearRow, standIns := [], harness := (true, "57040e6c1d11b1aad0d4c4e0b9800402179f7a24eb0d2489eb4081a00eb909cb"), looks := false }, kinds := [], alts := [], laidByText := true, laidKinds := [.data, .pinned], laidTests := true, laidLooks := .later }
def ClusterNearCardSaid : Prop := Claim7.holds Tryd.pinned (.plain (OpenSpec.ofChange clusterNearSpec)) clusterNearCard

/-- THE TIED CARD OF 'bodkinlaw03.ClusterSums'. -/
def clusterSumsCard : Claim7 := { stood := { row := clusterSumsRow, standIns := [], harness := (true, "57040e6c1d11b1aad0d4c4e0b9800402179f7a24eb0d2489eb4081a00eb909cb"), looks := false }, kinds := [], alts := [], laidByText := true, laidKinds := [.data, .pinned], laidTests := true, laidLooks := .later }
def ClusterSumsCardSaid : Prop := Claim7.holds Tryd.pinned (.plain (OpenSpec.ofChange clusterSumsSpec)) clusterSumsCard

/-- THE SECOND FORM's CARD OF 'bodkinlaw03.ClusterPlaces'. -/
def clusterPlacesUptoCard : Claim7 := { stood := { row := clusterPlacesUptoRow, standIns := [], harness := (true, "57040e6c1d11b1aad0d4c4e0b9800402179f7a24eb0d2489eb4081a00eb909cb"), looks := false }, kinds := [], alts := [], laidByText := true, laidKinds := [.data, .pinned], laidTests := true, laidLooks := .later }
def ClusterPlacesUptoCardSaid : Prop := Claim7.holds Tryd.pinned (.plain (OpenSpec.upto clusterPlacesSpec)) clusterPlacesUptoCard

/-- THE SECOND FORM's CARD OF 'bodkinlaw03.ClusterLists'. -/
def clusterListsUptoCard : Claim7 := { stood := { row := clusterListsUptoRow, standIns := [], harness := (true, "57040e6c1d11b1aad0d4c4e0b9800402179f7a24eb0d2489eb4081a00eb909cb"), looks := false }, kinds := [], alts := [], laidByText := true, laidKinds := [.data, .pinned], laidTests := true, laidLooks := .later }
def ClusterListsUptoCardSaid : Prop := Claim7.holds Tryd.pinned (.plain (OpenSpec.upto clusterListsSpec)) clusterListsUptoCard

/-- THE SECOND FORM's CARD OF 'bodkinlaw03.ClusterWalks'. -/
def clusterWalksUptoCard : Claim7 := { stood := { row := clusterWalksUptoRow, standIns := [], harness := (true, "57040e6c1d11b1aad0d4c4e0b9800402179f7a24eb0d2489eb4081a00eb909cb"), looks := false }, kinds := [], alts := [], laidByText := true, laidKinds := [.data, .pinned], laidTests := true, laidLooks := .later }
def ClusterWalksUptoCardSaid : Prop := Claim7.holds Tryd.pinned (.plain (OpenSpec.upto clusterWalksSpec)) clusterWalksUptoCard

/-- THE SECOND FORM's CARD OF 'bodkinlaw03.ClusterSteps'. -/
def clusterStepsUptoCard : Claim7 := { stood := { row := clusterStepsUptoRow, standIns := [], harness := (true, "57040e6c1d11b1aad0d4c4e0b9800402179f7a24eb0d2489eb4081a00eb909cb"), looks := false }, kinds := [], alts := [], laidByText := true, laidKinds := [.data, .pinned], laidTests := true, laidLooks := .later }
def ClusterStepsUptoCardSaid : Prop := Claim7.holds Tryd.pinned (.plain (OpenSpec.upto clusterStepsSpec)) clusterStepsUptoCard

/-- THE SECOND FORM's CARD OF 'bodkinlaw03.ClusterNear'. -/
def clusterNearUptoCard : Claim7 := { stood := { row := clusterNearUptoRow, standIns := [], harness := (true, "57040e6c1d11b1aad0d4c4e0b9800402179f7a24eb0d2489eb4081a00eb909cb"), looks := false }, kinds := [], alts := [], laidByText := true, laidKinds := [.data, .pinned], laidTests := true, laidLooks := .later }
def ClusterNearUptoCardSaid : Prop := Claim7.holds Tryd.pinned (.plain (OpenSpec.upto clusterNearSpec)) clusterNearUptoCard

/-- THE SECOND FORM's CARD OF 'bodkinlaw03.ClusterSums'. -/
def clusterSumsUptoCard : Claim7 := { stood := { row := clusterSumsUptoRow, standIns := [], harness := (true, "57040e6c1d11b1aad0d4c4e0b9800402179f7a24eb0d2489eb4081a00eb909cb"), looks := false }, kinds := [], alts := [], laidByText := true, laidKinds := [.data, .pinned], laidTests := true, laidLooks := .later }
def ClusterSumsUptoCardSaid : Prop := Claim7.holds Tryd.pinned (.plain (OpenSpec.upto clusterSumsSpec)) clusterSumsUptoCard
end Rows
end Go.Proofs.YtjgeeimkcghmoaaDoor
