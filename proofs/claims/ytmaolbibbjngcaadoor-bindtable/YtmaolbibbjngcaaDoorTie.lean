/-
  DERIVED. GIVEN WITH THE SEED: THE PROGRAM's TIES (one call each: nine closed facts by the kernel) AND EACH ROW's TIE, after the 31st guide's Derived/Test/Toyas{Tie, Card}.lean. No idea stands in it: it is a product of the set-up. Laid BY PROGRAM, IN A SANDBOX (cutbox-door.mjs). By AI agents, Wed Nov 11 2026. No macro, syntax, notation, axiom, sorry.
-/
import Derived.Test.YtmaolbibbjngcaaDoorRows
import Derived.LaidByTextLater
import Derived.SevenTiedAt
import Derived.LaidSub
import Derived.LaidOnce
namespace Go.Proofs.YtmaolbibbjngcaaDoor
open Go
set_option maxRecDepth 100000
theorem seatTie1 : Tryd.prog.laidByTextLater [("bodkin/bind.bounds", Rows.laid_bodkin_bind_bounds), ("bodkin/bind.nameds", Rows.laid_bodkin_bind_nameds), ("bodkin/bind.prefixes", Rows.laid_bodkin_bind_prefixes), ("bodkin/bind.extendeds", Rows.laid_bodkin_bind_extendeds)] [.data, .data, .data, .data] true :=
  Program.laidByTextLater_by_one 83 8 153 (by kernel_rfl) (by kernel_rfl) (by kernel_rfl) (by kernel_rfl) (by kernel_rfl) (by kernel_rfl) (fun _ _ => by kernel_rfl)
theorem noOwnUnsafe : Tryd.pinned.checked.prog.headLifts.contains "ownunsafe" = false := by kernel_rfl
theorem tie : Tryd.prog.laidByTextLater [("bodkin/bind.bounds", Rows.laid_bodkin_bind_bounds), ("bodkin/bind.nameds", Rows.laid_bodkin_bind_nameds), ("bodkin/bind.prefixes", Rows.laid_bodkin_bind_prefixes), ("bodkin/bind.extendeds", Rows.laid_bodkin_bind_extendeds)] [.data, .data, .data, .data] true :=
  Program.laidByTextLater.sub seatTie1 ["bodkin/bind.bounds", "bodkin/bind.nameds", "bodkin/bind.prefixes", "bodkin/bind.extendeds"] (by kernel_rfl) (by kernel_rfl)
theorem bindKeys_row_tie : Rows.bindKeysRow.laidByTextAt .later Tryd.pinned [.data, .data, .data, .data] true :=
  OpenClaim.laidByTextAt_later rfl rfl tie noOwnUnsafe
theorem bindCommands_row_tie : Rows.bindCommandsRow.laidByTextAt .later Tryd.pinned [.data, .data, .data, .data] true :=
  OpenClaim.laidByTextAt_later rfl rfl tie noOwnUnsafe
theorem bindTable_row_tie : Rows.bindTableRow.laidByTextAt .later Tryd.pinned [.data, .data, .data, .data] true :=
  OpenClaim.laidByTextAt_later rfl rfl tie noOwnUnsafe
theorem bindCounts_row_tie : Rows.bindCountsRow.laidByTextAt .later Tryd.pinned [.data, .data, .data, .data] true :=
  OpenClaim.laidByTextAt_later rfl rfl tie noOwnUnsafe
theorem bindOne_row_tie : Rows.bindOneRow.laidByTextAt .later Tryd.pinned [.data, .data, .data, .data] true :=
  OpenClaim.laidByTextAt_later rfl rfl tie noOwnUnsafe
theorem bindNone_row_tie : Rows.bindNoneRow.laidByTextAt .later Tryd.pinned [.data, .data, .data, .data] true :=
  OpenClaim.laidByTextAt_later rfl rfl tie noOwnUnsafe
theorem bindKeysUpto_row_tie : Rows.bindKeysUptoRow.laidByTextAt .later Tryd.pinned [.data, .data, .data, .data] true :=
  OpenClaim.laidByTextAt_later rfl rfl tie noOwnUnsafe
theorem bindCommandsUpto_row_tie : Rows.bindCommandsUptoRow.laidByTextAt .later Tryd.pinned [.data, .data, .data, .data] true :=
  OpenClaim.laidByTextAt_later rfl rfl tie noOwnUnsafe
theorem bindTableUpto_row_tie : Rows.bindTableUptoRow.laidByTextAt .later Tryd.pinned [.data, .data, .data, .data] true :=
  OpenClaim.laidByTextAt_later rfl rfl tie noOwnUnsafe
theorem bindCountsUpto_row_tie : Rows.bindCountsUptoRow.laidByTextAt .later Tryd.pinned [.data, .data, .data, .data] true :=
  OpenClaim.laidByTextAt_later rfl rfl tie noOwnUnsafe
theorem bindOneUpto_row_tie : Rows.bindOneUptoRow.laidByTextAt .later Tryd.pinned [.data, .data, .data, .data] true :=
  OpenClaim.laidByTextAt_later rfl rfl tie noOwnUnsafe
theorem bindNoneUpto_row_tie : Rows.bindNoneUptoRow.laidByTextAt .later Tryd.pinned [.data, .data, .data, .data] true :=
  OpenClaim.laidByTextAt_later rfl rfl tie noOwnUnsafe
end Go.Proofs.YtmaolbibbjngcaaDoor
