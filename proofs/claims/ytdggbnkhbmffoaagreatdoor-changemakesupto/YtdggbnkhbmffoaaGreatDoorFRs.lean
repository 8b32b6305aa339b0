/-
  The law's same: a change of the program's beside one of the document's. No conditions.
-/
import Derived.Test.YtdggbnkhbmffoaaGreatDoorFRg
namespace Go.Proofs.YtdggbnkhbmffoaaGreatDoor
open Go.RowKit Go.Shelf Go.Sort Bod Wid

set_option maxRecDepth 100000 in
set_option maxHeartbeats 1000000 in
theorem csame_any (w : World) (q0 q1 : Nat) (q2 : ByteArray) (q3 : Nat) (q4 : ByteArray) (q5 : Bool) :
    Calls Tryz.prog 9 #[.agg #[.int .i64 q0, .int .i64 q1, .string q2, .int .i64 q3, .string q4, .bool q5], .agg #[.int .i64 q0, .int .i64 q1, .string q2, .int .i64 q3, .string q4, .bool q5]] w fun e W' => e = .returned (.bool true) ∧ Below w.heap.size w W' := by
  have HB : Hid (∀ o o', Below w.heap.size w ((w.alloc o).alloc o')) := fun o o' => ((Below.refl _ w).alloc (Nat.le_refl _) o).alloc (by simp) o'
  go_enter Tryz.func9, Tryz.ntmps9
  go_wp2
  go_ret
  exact ⟨rfl, HB.out _ _⟩
/-- two changes in boxes -/
structure K2 (w : World) (b7 b9 : Nat) (d : Chg) (W : World) : Prop where
  bel : Below w.heap.size w W
  b7 : W.heap[b7]? = some (.cells (chc d) 29 (0, 0))
  b9 : W.heap[b9]? = some (.cells (chc d) 37 (0, 0))
theorem K2.get {w W : World} {b7 b9 q0 q1 q3 : Nat} {q2 q4 : ByteArray} {q5 : Bool} (h : K2 w b7 b9 ⟨q0, q1, q2, q3, q4, q5⟩ W) : (W.cell? ⟨b7, 0, none⟩ = some (.int .i64 q0) ∧ W.cell? ⟨b7, 1, none⟩ = some (.int .i64 q1) ∧ W.cell? ⟨b7, 2, none⟩ = some (.string q2) ∧ W.cell? ⟨b7, 3, none⟩ = some (.int .i64 q3) ∧ W.cell? ⟨b7, 4, none⟩ = some (.string q4) ∧ W.cell? ⟨b7, 5, none⟩ = some (.bool q5)) ∧ (W.cell? ⟨b9, 0, none⟩ = some (.int .i64 q0) ∧ W.cell? ⟨b9, 1, none⟩ = some (.int .i64 q1) ∧ W.cell? ⟨b9, 2, none⟩ = some (.string q2) ∧ W.cell? ⟨b9, 3, none⟩ = some (.int .i64 q3) ∧ W.cell? ⟨b9, 4, none⟩ = some (.string q4) ∧ W.cell? ⟨b9, 5, none⟩ = some (.bool q5)) :=
  ⟨(cbox h.b7).1, (cbox h.b9).1⟩
end Go.Proofs.YtdggbnkhbmffoaaGreatDoor
