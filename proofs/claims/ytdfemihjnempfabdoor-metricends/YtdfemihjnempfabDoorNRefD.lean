/-
  Slices of summaries, and the walk of the document's own Join of package metric: what MMath tells. Conditions: the summaries are those of texts, so short that their lists can be made.
-/
import Derived.Test.YtdfemihjnempfabDoorNRefC
import Derived.Deep.RegionWith
namespace Go.Proofs.YtdfemihjnempfabDoor
open Go.RowKit Bod Wid

/-- the texts one behind the other -/
def cat (ss : List ByteArray) : ByteArray := ss.foldl (· ++ ·) ByteArray.empty
theorem cat_snoc (ss : List ByteArray) (s : ByteArray) : cat (ss ++ [s]) = cat ss ++ s := by simp [cat]
theorem cat_take {ss : List ByteArray} {k : Nat} {s : ByteArray} (h : ss[k]? = some s) : cat (ss.take (k + 1)) = cat (ss.take k) ++ s := by
  rw [List.take_add_one, h]
  exact cat_snoc _ _
theorem cat_app (a b : List ByteArray) : (cat (a ++ b)).size = (cat a).size + (cat b).size := by
  have h : ∀ (b : List ByteArray) (x y : ByteArray), (b.foldl (· ++ ·) (x ++ y)).size = x.size + (b.foldl (· ++ ·) y).size := fun b => by
    induction b with
    | nil => intro x y; exact size_app x y
    | cons c r ih => intro x y; simp only [List.foldl_cons]; rw [app_assoc]; exact ih x (y ++ c)
  have := h b (cat a) ByteArray.empty
  simpa [cat] using this
theorem cat_le (ss : List ByteArray) (k : Nat) : (cat (ss.take k)).size ≤ (cat ss).size := by
  have := cat_app (ss.take k) (ss.drop k)
  rw [List.take_append_drop] at this
  omega
theorem smr_zero : smr ByteArray.empty = sm0 := rfl
theorem smr_cat0 (ss : List ByteArray) : smr (cat (ss.take 0)) = sm0 := rfl

/-- a slice that reads as the summaries of texts -/
def RdS (W : World) (v : Value) (ss : List ByteArray) : Prop :=
  ∃ a cap, v = .slice a ss.length cap ∧ (ss ≠ [] → ∃ g o, a = some ⟨g, o, none⟩ ∧ g < W.heap.size ∧ ∀ k s, ss[k]? = some s →
    W.cell? ⟨g, o + k * 7, none⟩ = some (.int .i64 (smr s).by') ∧ W.cell? ⟨g, o + k * 7 + 1, none⟩ = some (.int .i64 (smr s).un) ∧ W.cell? ⟨g, o + k * 7 + 2, none⟩ = some (.int .i64 (smr s).cl) ∧ W.cell? ⟨g, o + k * 7 + 3, none⟩ = some (.int .i64 (smr s).ce) ∧
    W.cell? ⟨g, o + k * 7 + 4, none⟩ = some (.int .i64 (smr s).nl) ∧ W.cell? ⟨g, o + k * 7 + 5, none⟩ = some (.string (smr s).hd) ∧ W.cell? ⟨g, o + k * 7 + 6, none⟩ = some (.string (smr s).tl))
/-- what lies where: the result's box and the sum under way -/
structure JS (w : World) (m : Sum) (W : World) : Prop where
  res : W.heap[w.heap.size]? = some (.cells (scs sm0) 24 (0, 0))
  box : W.heap[w.heap.size + 1]? = some (.cells (scs m) 24 (0, 0))
  bel : Below w.heap.size w W
theorem JS.below {w : World} {m : Sum} {W W' : World} (h : JS w m W) (hb : Below W.heap.size W W') : JS w m W' := by
  have kp : ∀ {k : Nat} {o : Obj}, W.heap[k]? = some o → W'.heap[k]? = some o := fun ho => (hb.block _ (Array.getElem?_eq_some_iff.1 ho).1).trans ho
  exact ⟨kp h.res, kp h.box, h.bel.trans (hb.mono h.bel.size)⟩
theorem JS.set {w : World} {m : Sum} {W : World} (h : JS w m W) (x : Sum) : JS w x (((((((W.setCell ⟨w.heap.size + 1, 0, none⟩ (.int .i64 x.by')).setCell ⟨w.heap.size + 1, 1, none⟩ (.int .i64 x.un)).setCell ⟨w.heap.size + 1, 2, none⟩ (.int .i64 x.cl)).setCell ⟨w.heap.size + 1, 3, none⟩ (.int .i64 x.ce)).setCell ⟨w.heap.size + 1, 4, none⟩ (.int .i64 x.nl)).setCell ⟨w.heap.size + 1, 5, none⟩ (.string x.hd)).setCell ⟨w.heap.size + 1, 6, none⟩ (.string x.tl)) := by
  have g := grown2 (grown2 (grown2 (grown2 (grown2 (grown2 (gcell W (w.heap.size + 1) 0 (.int .i64 x.by')) (gcell _ _ 1 (.int .i64 x.un))) (gcell _ _ 2 (.int .i64 x.cl))) (gcell _ _ 3 (.int .i64 x.ce))) (gcell _ _ 4 (.int .i64 x.nl))) (gcell _ _ 5 (.string x.hd))) (gcell _ _ 6 (.string x.tl))
  exact ⟨(g.block _ (Array.getElem?_eq_some_iff.1 h.res).1 (fun e => by have := Option.some.inj e; omega)).trans h.res, set7_box h.box _ _ _ _ _ _ _, h.bel.grown g h.bel.size (fun j e => by have := Option.some.inj e; omega)⟩
theorem JS.drew1 {w : World} {m : Sum} {W : World} (h : JS w m W) : JS w m W.drew := ⟨h.res, h.box, ⟨h.bel.os, h.bel.tape, h.bel.output, h.bel.size, h.bel.block⟩⟩

end Go.Proofs.YtdfemihjnempfabDoor
