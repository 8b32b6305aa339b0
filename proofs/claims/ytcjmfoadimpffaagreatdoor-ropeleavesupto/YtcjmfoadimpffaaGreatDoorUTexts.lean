/-
  A slice of texts that came in, as the walks take it: its texts, where they lie. No conditions.
-/
import Derived.Test.YtcjmfoadimpffaaGreatDoorRows
import Derived.OpenShut
import Derived.SliceStrings
import Derived.Lib.Strings
namespace Go.Proofs.YtcjmfoadimpffaaGreatDoor
open Go.RowKit Go.ChangeShapes

def Texts (W : World) (a : Option Addr) (len : Nat) (ss : List ByteArray) : Prop :=
  ss.length = len ∧ (len ≠ 0 → ∃ b o, a = some ⟨b, o, none⟩ ∧ b < W.heap.size ∧ ∀ j, j < len → W.cell? ⟨b, o + j, none⟩ = some (.string (ss.getD j ByteArray.empty)))

theorem texts_nil (W : World) (a : Option Addr) : Texts W a 0 [] := ⟨rfl, fun h => absurd rfl h⟩
theorem texts_of {W : World} {x : Addr} {l : Nat} {ss : List ByteArray} (hl : l ≤ ss.length) (hcell : ∀ i, i < ss.length → W.cell? (x.add i) = some (.string (ss.getD i ByteArray.empty))) : Texts W (some x) l (ss.take l) := by
  refine ⟨by simp; omega, fun h0 => ?_⟩
  obtain ⟨b, off, spot⟩ := x
  have h00 := hcell 0 (by omega)
  have hspot : spot = none := by simpa [Addr.add] using World.cell?_spot h00
  subst hspot
  refine ⟨b, off, rfl, ?_, fun j hj => ?_⟩
  · rw [Go.WideShapes.add_plain] at h00
    unfold World.cell? at h00
    cases ho : W.heap[b]? with
    | none => simp [ho] at h00
    | some o => exact (Array.getElem?_eq_some_iff.1 ho).1
  · have := hcell j (by omega)
    rw [Go.WideShapes.add_plain] at this
    rw [this, List.getD, List.getD, List.getElem?_take_of_lt hj]
theorem bulk_texts {H : Type} (ss : List ByteArray) (sp : List (DataW H)) : ss.length ≤ Rows.uptoBulk (.slice (strs ss) sp) ∧ ∀ s ∈ ss, s.size ≤ Rows.uptoBulk (.slice (strs (H := H) ss) sp) := by
  have h : ∀ l : List ByteArray, l.length ≤ Rows.uptoBulkAll (strs (H := H) l) ∧ ∀ s ∈ l, s.size ≤ Rows.uptoBulkAll (strs (H := H) l) := fun l => by
    induction l with
    | nil => exact ⟨by simp, fun s h => by cases h⟩
    | cons x r ih =>
      simp only [strs, List.map_cons, Rows.uptoBulkAll, Rows.uptoBulk, List.length_cons] at ih ⊢
      refine ⟨by omega, fun s hs => ?_⟩
      rcases List.mem_cons.1 hs with rfl | hs
      · rw [Lib.size_eq]; omega
      · have := ih.2 s hs; omega
  obtain ⟨h1, h2⟩ := h ss
  simp only [Rows.uptoBulk]
  exact ⟨by omega, fun s hs => by have := h2 s hs; omega⟩
end Go.Proofs.YtcjmfoadimpffaaGreatDoor
