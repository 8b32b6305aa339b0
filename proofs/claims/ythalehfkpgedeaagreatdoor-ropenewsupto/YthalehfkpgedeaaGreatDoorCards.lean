/-
  DERIVED. GIVEN WITH THE SEED: THE CARDS: each row of YthalehfkpgedeaaGreatDoorRows.lean that lists a variable, with what it lists TIED to the program's text (the seventh form; the later family's looks); each row that meets fmt, with fmt's text TOLD by the authors' own Lean function (tested against real Go, not proved from fmt's source: count such statements apart). THE CARD IS WHAT COUNTS. Prove the row's statement (the work); the ties are given (YthalehfkpgedeaaGreatDoorTie.lean); close each card by the builder's one call (the guide's Derived/Test/ToyasCard.lean, 'card_holds'). Laid BY PROGRAM, IN A SANDBOX (cutbox-door.mjs). By AI agents, Wed Nov 11 2026. No macro, syntax, notation, axiom, sorry.
-/
import Derived.Test.YthalehfkpgedeaaGreatDoorRows
import GoSem.ClaimSeven
namespace Go.Proofs.YthalehfkpgedeaaGreatDoor
namespace Rows

/-- THE TIED CARD OF 'bodkinlaw07.RopeNews'. -/
def ropeNewsCard : Claim7 := { stood := { row := ropeNewsRow, standIns := [], harness := (true, "db9fed97d92a9b229e29a44f5e827d80e9b87195638d6553439d7cd451f94a39"), looks := true }, kinds := [], alts := [], laidByText := true, laidKinds := [.data, .pinned], laidTests := true, laidLooks := .later }
def RopeNewsCardSaid : Prop := Claim7.holds Tryz.pinned (.plain (OpenSpec.ofChange ropeNewsSpec)) ropeNewsCard

/-- THE TIED CARD OF 'bodkinlaw07.RopeEdits'. -/
def ropeEditsCard : Claim7 := { stood := { row := ropeEditsRow, standIns := [], harness := (true, "db9fed97d92a9b229e29a44f5e827d80e9b87195638d6553439d7cd451f94a39"), looks := true }, kinds := [], alts := [], laidByText := true, laidKinds := [.data, .pinned], laidTests := true, laidLooks := .later }
def RopeEditsCardSaid : Prop := Claim7.holds Tryz.pinned (.plain (OpenSpec.ofChange ropeEditsSpec)) ropeEditsCard

/-- THE TIED CARD OF 'bodkinlaw07.RopeLooks'. -/
def ropeLooksCard : Claim7 := { stood := { row := ropeLooksRow, standIns := [], harness := (true, "db9fed97d92a9b229e29a44f5e827d80e9b87195638d6553439d7cd451f94a39"), looks := true }, kinds := [], alts := [], laidByText := true, laidKinds := [.data, .pinned], laidTests := true, laidLooks := .later }
def RopeLooksCardSaid : Prop := Claim7.holds Tryz.pinned (.plain (OpenSpec.ofChange ropeLooksSpec)) ropeLooksCard

/-- THE TIED CARD OF 'bodkinlaw07.RopeTears'. -/
def ropeTearsCard : Claim7 := { stood := { row := ropeTearsRow, standIns := [], harness := (true, "db9fed97d92a9b229e29a44f5e827d80e9b87195638d6553439d7cd451f94a39"), looks := true }, kinds := [], alts := [], laidByText := true, laidKinds := [.data, .pinned], laidTests := true, laidLooks := .later }
def RopeTearsCardSaid : Prop := Claim7.holds Tryz.pinned (.plain (OpenSpec.ofChange ropeTearsSpec)) ropeTearsCard

/-- THE TIED CARD OF 'bodkinlaw07.RopeBack'. -/
def ropeBackCard : Claim7 := { stood := { row := ropeBackRow, standIns := [], harness := (true, "db9fed97d92a9b229e29a44f5e827d80e9b87195638d6553439d7cd451f94a39"), looks := true }, kinds := [], alts := [], laidByText := true, laidKinds := [.data, .pinned], laidTests := true, laidLooks := .later }
def RopeBackCardSaid : Prop := Claim7.holds Tryz.pinned (.plain (OpenSpec.ofChange ropeBackSpec)) ropeBackCard

/-- THE TIED CARD OF 'bodkinlaw07.RopeLeaves'. -/
def ropeLeavesCard : Claim7 := { stood := { row := ropeLeavesRow, standIns := [], harness := (true, "db9fed97d92a9b229e29a44f5e827d80e9b87195638d6553439d7cd451f94a39"), looks := true }, kinds := [], alts := [], laidByText := true, laidKinds := [.data, .pinned], laidTests := true, laidLooks := .later }
def RopeLeavesCardSaid : Prop := Claim7.holds Tryz.pinned (.plain (OpenSpec.ofChange ropeLeavesSpec)) ropeLeavesCard

/-- THE SECOND FORM's CARD OF 'bodkinlaw07.RopeNews'. -/
def ropeNewsUptoCard : Claim7 := { stood := { row := ropeNewsUptoRow, standIns := [], harness := (true, "db9fed97d92a9b229e29a44f5e827d80e9b87195638d6553439d7cd451f94a39"), looks := true }, kinds := [], alts := [], laidByText := true, laidKinds := [.data, .pinned], laidTests := true, laidLooks := .later }
def RopeNewsUptoCardSaid : Prop := Claim7.holds Tryz.pinned (.plain (OpenSpec.upto ropeNewsSpec)) ropeNewsUptoCard

/-- THE SECOND FORM's CARD OF 'bodkinlaw07.RopeEdits'. -/
def ropeEditsUptoCard : Claim7 := { stood := { row := ropeEditsUptoRow, standIns := [], harness := (true, "db9fed97d92a9b229e29a44f5e827d80e9b87195638d6553439d7cd451f94a39"), looks := true }, kinds := [], alts := [], laidByText := true, laidKinds := [.data, .pinned], laidTests := true, laidLooks := .later }
def RopeEditsUptoCardSaid : Prop := Claim7.holds Tryz.pinned (.plain (OpenSpec.upto ropeEditsSpec)) ropeEditsUptoCard

/-- THE SECOND FORM's CARD OF 'bodkinlaw07.RopeLooks'. -/
def ropeLooksUptoCard : Claim7 := { stood := { row := ropeLooksUptoRow, standIns := [], harness := (true, "db9fed97d92a9b229e29a44f5e827d80e9b87195638d6553439d7cd451f94a39"), looks := true }, kinds := [], alts := [], laidByText := true, laidKinds := [.data, .pinned], laidTests := true, laidLooks := .later }
def RopeLooksUptoCardSaid : Prop := Claim7.holds Tryz.pinned (.plain (OpenSpec.upto ropeLooksSpec)) ropeLooksUptoCard

/-- THE SECOND FORM's CARD OF 'bodkinlaw07.RopeTears'. -/
def ropeTearsUptoCard : Claim7 := { stood := { row := ropeTearsUptoRow, standIns := [], harness := (true, "db9fed97d92a9b229e29a44f5e827d80e9b87195638d6553439d7cd451f94a39"), looks := true }, kinds := [], alts := [], laidByText := true, laidKinds := [.data, .pinned], laidTests := true, laidLooks := .later }
def RopeTearsUptoCardSaid : Prop := Claim7.holds Tryz.pinned (.plain (OpenSpec.upto ropeTearsSpec)) ropeTearsUptoCard

/-- THE SECOND FORM's CARD OF 'bodkinlaw07.RopeBack'. -/
def ropeBackUptoCard : Claim7 := { stood := { row := ropeBackUptoRow, standIns := [], harness := (true, "db9fed97d92a9b229e29a44f5e827d80e9b87195638d6553439d7cd451f94a39"), looks := true }, kinds := [], alts := [], laidByText := true, laidKinds := [.data, .pinned], laidTests := true, laidLooks := .later }
def RopeBackUptoCardSaid : Prop := Claim7.holds Tryz.pinned (.plain (OpenSpec.upto ropeBackSpec)) ropeBackUptoCard

/-- THE SECOND FORM's CARD OF 'bodkinlaw07.RopeLeaves'. -/
def ropeLeavesUptoCard : Claim7 := { stood := { row := ropeLeavesUptoRow, standIns := [], harness := (true, "db9fed97d92a9b229e29a44f5e827d80e9b87195638d6553439d7cd451f94a39"), looks := true }, kinds := [], alts := [], laidByText := true, laidKinds := [.data, .pinned], laidTests := true, laidLooks := .later }
def RopeLeavesUptoCardSaid : Prop := Claim7.holds Tryz.pinned (.plain (OpenSpec.upto ropeLeavesSpec)) ropeLeavesUptoCard
end Rows
end Go.Proofs.YthalehfkpgedeaaGreatDoor
