/-
  The kit's own texts that walks want, under one name. No program is walked in this text; no conditions.
-/
import Derived.Test.YtfjoklbiocniiaaDoorRows
import Derived.WalkKit
import Derived.WalkLawsBesides
import Derived.WalkSpells
import Derived.OwnWalk
import Derived.RangeFuncBox
import Derived.Deep.AppendLies
import Derived.Lib.Strings
import Derived.Lib.IndexBytes
import Derived.Lib.RuneCountTail
import Derived.Lib.QuietBelow
import Derived.Lib.BufferRead
import Derived.Shelf.Unicode.DecodeSlow
namespace Go.Proofs.YtfjoklbiocniiaaDoor
open Go.RowKit
theorem ret_bool {a b : Bool} (h : a = b) : Ending.returned (.bool a) = .returned (.bool b) := by rw [h]
theorem ret_int {k : IntKind} {a b : Int} (h : a = b) : Ending.returned (.int k a) = .returned (.int k b) := by rw [h]
theorem tabs_below {g h : Nat} {W W' : World} (t : Lib.Utf8Tabs g h W) (hb : Below W.heap.size W W') : Lib.Utf8Tabs g h W' := by
  have hl : ∀ (a : Addr) (v : Value), W.cell? a = some v → W'.cell? a = some v := fun a v h => by
    have hlt : a.block < W.heap.size := by
      unfold World.cell? at h
      cases ho : W.heap[a.block]? with
      | none => simp [ho] at h
      | some o => exact (Array.getElem?_eq_some_iff.1 ho).1
    exact (hb.cell (p := a) hlt).trans h
  exact ⟨fun c hc => hl _ _ (t.1 c hc), fun i hi => ⟨hl _ _ (t.2 i hi).1, hl _ _ (t.2 i hi).2⟩⟩
/-- the four cells of a block -/
theorem box4 {W : World} {b : Nat} {v0 v1 v2 v3 : Value} {t : TypeId} (h : W.heap[b]? = some (.cells #[v0, v1, v2, v3] t (0, 0))) :
    (W.cell? ⟨b, 0, none⟩ = some v0 ∧ W.cell? ⟨b, 1, none⟩ = some v1 ∧ W.cell? ⟨b, 2, none⟩ = some v2 ∧ W.cell? ⟨b, 3, none⟩ = some v3) ∧
    W.frozen? ⟨b, 0, none⟩ = false ∧ W.frozen? ⟨b, 1, none⟩ = false ∧ W.frozen? ⟨b, 2, none⟩ = false ∧ W.frozen? ⟨b, 3, none⟩ = false := by
  simp [World.cell?, World.frozen?, h]
theorem set1 {W : World} {b i : Nat} {vs : Array Value} {t : TypeId} {fz : Nat × Nat} (u : Value) (h : W.heap[b]? = some (.cells vs t fz)) : (W.setCell ⟨b, i, none⟩ u).heap[b]? = some (.cells (vs.setIfInBounds i u) t fz) := by
  unfold World.setCell
  show (W.heap.modify b _)[b]? = _
  rw [Array.getElem?_modify, if_pos rfl, h]
  rfl
theorem set4 {W : World} {b : Nat} {v0 v1 v2 v3 u0 u1 u2 u3 : Value} {t : TypeId} (h : W.heap[b]? = some (.cells #[v0, v1, v2, v3] t (0, 0))) :
    ((((W.setCell ⟨b, 0, none⟩ u0).setCell ⟨b, 1, none⟩ u1).setCell ⟨b, 2, none⟩ u2).setCell ⟨b, 3, none⟩ u3).heap[b]? = some (.cells #[u0, u1, u2, u3] t (0, 0)) := set1 u3 (set1 u2 (set1 u1 (set1 u0 h)))
theorem grown2 {A B C : World} {b : Nat} (h : A.grownBy B (some b)) (g : B.grownBy C (some b)) : A.grownBy C (some b) :=
  ⟨g.os.trans h.os, g.tape.trans h.tape, g.output.trans h.output, Nat.le_trans h.size g.size, fun k hk hne => (g.block k (Nat.lt_of_lt_of_le hk h.size) hne).trans (h.block k hk hne)⟩
theorem gcell (W : World) (b i : Nat) (u : Value) : W.grownBy (W.setCell ⟨b, i, none⟩ u) (some b) :=
  ⟨rfl, rfl, rfl, by simp [World.setCell], fun k _ hne => by unfold World.setCell; simp only; rw [Array.getElem?_modify, if_neg (fun e => hne (by rw [e]))]⟩
theorem grown4 (W : World) (b : Nat) (u0 u1 u2 u3 : Value) : W.grownBy ((((W.setCell ⟨b, 0, none⟩ u0).setCell ⟨b, 1, none⟩ u1).setCell ⟨b, 2, none⟩ u2).setCell ⟨b, 3, none⟩ u3) (some b) :=
  grown2 (grown2 (grown2 (gcell _ _ _ _) (gcell _ _ _ _)) (gcell _ _ _ _)) (gcell _ _ _ _)

theorem push4 (a : Array Obj) (o0 o1 o2 o3 : Obj) : ((((a.push o0).push o1).push o2).push o3)[a.size]? = some o0 ∧ ((((a.push o0).push o1).push o2).push o3)[a.size + 1]? = some o1 ∧ ((((a.push o0).push o1).push o2).push o3)[a.size + 1 + 1]? = some o2 ∧ ((((a.push o0).push o1).push o2).push o3)[a.size + 1 + 1 + 1]? = some o3 := by
  refine ⟨?_, ?_, ?_, ?_⟩
  · rw [Array.getElem?_push, if_neg (by simp only [Array.size_push]; omega), Array.getElem?_push, if_neg (by simp only [Array.size_push]; omega), Array.getElem?_push, if_neg (by simp only [Array.size_push]; omega), Array.getElem?_push_size]
  · rw [Array.getElem?_push, if_neg (by simp only [Array.size_push]; omega), Array.getElem?_push, if_neg (by simp only [Array.size_push]; omega), ← Array.size_push o0, Array.getElem?_push_size]
  · rw [Array.getElem?_push, if_neg (by simp only [Array.size_push]; omega), ← Array.size_push o0, ← Array.size_push o1, Array.getElem?_push_size]
  · rw [← Array.size_push o0, ← Array.size_push o1, ← Array.size_push o2, Array.getElem?_push_size]
end Go.Proofs.YtfjoklbiocniiaaDoor
