/-
  What the laws keep in memory: what is asked, and changes in boxes. No program is walked in this text; no conditions.
-/
import Derived.Test.YtdggbnkhbmffoaaGreatDoorFAwk
import Derived.Test.YtdggbnkhbmffoaaGreatDoorFGood
import Derived.Test.YtdggbnkhbmffoaaGreatDoorUAsk4
namespace Go.Proofs.YtdggbnkhbmffoaaGreatDoor
open Go.RowKit Go.Shelf Bod Wid

/-- what is asked lies right behind w, changes in their boxes -/
structure Bx (w : World) (x : Ak) (L : List (Nat × Chg)) (W : World) : Prop where
  bel : Below w.heap.size w W
  ask : W.heap[w.heap.size]? = some (.cells #[.int .i64 x.k, .int .i64 x.c, .int .i64 x.i, .int .i64 x.r] 25 (0, 0))
  bs : ∀ p ∈ L, W.heap[p.1]? = some (.cells (chc p.2) 29 (0, 0))
section
variable {w W X : World} {x : Ak} {L : List (Nat × Chg)}
theorem Bx.below (h : Bx w x L W) (hb : Below W.heap.size W X) : Bx w x L X :=
  ⟨below_on h.bel hb, (hb.block _ (Array.getElem?_eq_some_iff.1 h.ask).1).trans h.ask, fun p hp => (hb.block _ (Array.getElem?_eq_some_iff.1 (h.bs p hp)).1).trans (h.bs p hp)⟩
theorem bx0 (w : World) (x : Ak) : Bx w x [] (w.alloc (.cells #[.int .i64 x.k, .int .i64 x.c, .int .i64 x.i, .int .i64 x.r] 25)) := ⟨(Below.refl _ w).alloc (Nat.le_refl _) _, World.alloc_heap_new _ _, fun p hp => by cases hp⟩
theorem Bx.new (h : Bx w x L W) (c : Chg) : Bx w x (L ++ [(W.heap.size, c)]) (W.alloc (.cells (chc c) 29)) := by
  have hb := h.below ((Below.refl _ W).alloc (Nat.le_refl _) (.cells (chc c) 29))
  refine ⟨hb.bel, hb.ask, fun p hp => ?_⟩
  rcases List.mem_append.1 hp with e | e
  · exact hb.bs p e
  · simp at e
    subst e
    exact World.alloc_heap_new _ _
theorem Bx.get (h : Bx w x L W) : W.cell? ⟨w.heap.size, 0, none⟩ = some (.int .i64 x.k) ∧ W.cell? ⟨w.heap.size, 1, none⟩ = some (.int .i64 x.c) ∧ W.cell? ⟨w.heap.size, 2, none⟩ = some (.int .i64 x.i) ∧ W.cell? ⟨w.heap.size, 3, none⟩ = some (.int .i64 x.r) := (box4 h.ask).1
theorem Bx.at' (h : Bx w x L W) {b : Nat} {c : Chg} (hp : (b, c) ∈ L) : W.cell? ⟨b, 0, none⟩ = some (.int .i64 c.at') ∧ W.cell? ⟨b, 1, none⟩ = some (.int .i64 c.cut) ∧ W.cell? ⟨b, 2, none⟩ = some (.string c.put) ∧ W.cell? ⟨b, 3, none⟩ = some (.int .i64 c.cur) ∧ W.cell? ⟨b, 4, none⟩ = some (.string c.kill) ∧ W.cell? ⟨b, 5, none⟩ = some (.bool c.ahead) := (cbox (h.bs _ hp)).1
end
end Go.Proofs.YtdggbnkhbmffoaaGreatDoor
