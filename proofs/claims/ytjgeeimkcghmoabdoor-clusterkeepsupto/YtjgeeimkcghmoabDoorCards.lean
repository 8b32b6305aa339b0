/-
  DERIVED. GIVEN WITH THE SEED: THE CARDS: each row of YtjgeeimkcghmoabDoorRows.lean that lists a variable, with what it lists TIED to the program's text (the seventh form; the later family's looks); each row that meets fmt, with fmt's text TOLD by the authors' own Lean function (tested against real Go, not proved from fmt's source: count such statements apart). THE CARD IS WHAT COUNTS. Prove the row's statement (the work); the ties are given (YtjgeeimkcghmoabDoorTie.lean); close each card by the builder's one call (the guide's Derived/Test/ToyasCard.lean, 'card_holds'). Laid BY PROGRAM, IN A SANDBOX (cutbox-door.mjs). By AI agents, Wed Nov 11 2026. No macro, syntax, notation, axiom, sorry.
-/
import Derived.Test.YtjgeeimkcghmoabDoorRows
import GoSem.ClaimSeven
namespace Go.Proofs.YtjgeeimkcghmoabDoor
namespace Rows

/-- THE TIED CARD OF 'bodkinlaw03.ClusterShows'. -/
def clusterShowsCard : Claim7 := { stood := { row := clusterShowsRow, standIns := [], harness := (true, "41d9f5ad8c785b7edb409635fc2b476671a1412bf9bd61c0eb5998ad2f9b1f97"), looks := false }, kinds := [], alts := [], laidByText := true, laidKinds := [.data, .pinned], laidTests := true, laidLooks := .later }
def ClusterShowsCardSaid : Prop := Claim7.holds Tryd.pinned (.plain (OpenSpec.ofChange clusterShowsSpec)) clusterShowsCard

/-- THE TIED CARD OF 'bodkinlaw03.ClusterKeeps'. -/
def clusterKeepsCard : Claim7 := { stood := { row := clusterKeepsRow, standIns := [], harness := (true, "41d9f5ad8c785b7edb409635fc2b476671a1412bf9bd61c0eb5998ad2f9b1f97"), looks := false }, kinds := [], alts := [], laidByText := true, laidKinds := [.data, .pinned], laidTests := true, laidLooks := .later }
def ClusterKeepsCardSaid : Prop := Claim7.holds Tryd.pinned (.plain (OpenSpec.ofChange clusterKeepsSpec)) clusterKeepsCard

/-- THE SECOND FORM's CARD OF 'bodkinlaw03.ClusterShows'. -/
def clusterShowsUptoCard : Claim7 := { stood := { row := clusterShowsUptoRow, standIns := [], harness := (true, "41d9f5ad8c785b7edb409635fc2b476671a1412bf9bd61c0eb5998ad2f9b1f97"), looks := false }, kinds := [], alts := [], laidByText := true, laidKinds := [.data, .pinned], laidTests := true, laidLooks := .later }
def ClusterShowsUptoCardSaid : Prop := Claim7.holds Tryd.pinned (.plain (OpenSpec.upto clusterShowsSpec)) clusterShowsUptoCard

/-- THE SECOND FORM's CARD OF 'bodkinlaw03.ClusterKeeps'. -/
def clusterKeepsUptoCard : Claim7 := { stood := { row := clusterKeepsUptoRow, standIns := [], harness := (true, "41d9f5ad8c785b7edb409635fc2b476671a1412bf9bd61c0eb5998ad2f9b1f97"), looks := false }, kinds := [], alts := [], laidByText := true, laidKinds := [.data, .pinned], laidTests := true, laidLooks := .later }
def ClusterKeepsUptoCardSaid : Prop := Claim7.holds Tryd.pinned (.plain (OpenSpec.upto clusterKeepsSpec)) clusterKeepsUptoCard
end Rows
end Go.Proofs.YtjgeeimkcghmoabDoor
