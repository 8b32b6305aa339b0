/-
  A slice of numbers that came in, as the walks take it: its numbers, their bounds, where they lie. No conditions.
-/
import Derived.Test.YtoijjkbnmicadabDoorRows
import Derived.OpenShut
namespace Go.Proofs.YtoijjkbnmicadabDoor
open Go.RowKit

def Runes (W : World) (a : Option Addr) (len : Nat) (rs : List Int) : Prop :=
  rs.length = len ∧ (∀ r ∈ rs, -2147483648 ≤ r ∧ r ≤ 2147483647) ∧ (len ≠ 0 → ∃ b o, a = some ⟨b, o, none⟩ ∧ b < W.heap.size ∧ ∀ j, j < rs.length → W.cell? ⟨b, o + j, none⟩ = some (.int .i32 (rs[j]?.getD 0)))

theorem runes_nil (W : World) (a : Option Addr) : Runes W a 0 [] := ⟨rfl, fun r h => (by cases h), fun h => absurd rfl h⟩
theorem runes_of {W : World} {x : Addr} {l : Nat} {zs : List Int} (hl : l ≤ zs.length) (hcell : ∀ i, i < zs.length → W.cell? (x.add i) = some (.int .i32 (zs.getD i 0))) (hwz : ∀ n ∈ zs, (Lit.int .i32 n).wf = true) : Runes W (some x) l (zs.take l) := by
  refine ⟨by simp; omega, fun r hr => bounds_i32 (hwz r (List.mem_of_mem_take hr)), fun h0 => ?_⟩
  obtain ⟨b, off, rfl, hc⟩ := ints_at hcell (by omega)
  have hl0 := hc 0 (by omega)
  refine ⟨b, off, rfl, ?_, fun j hj => ?_⟩
  · unfold World.cell? at hl0
    cases ho : W.heap[b]? with
    | none => simp [ho] at hl0
    | some o => exact (Array.getElem?_eq_some_iff.1 ho).1
  · have hj' : j < l := by simp at hj; omega
    have := hc j (by omega)
    rw [List.getElem?_take_of_lt hj']
    simpa using this
theorem bulk_slice {H : Type} (k : IntKind) (zs : List Int) (sp : List (DataW H)) : zs.length ≤ Rows.uptoBulk (.slice (ChangeShapes.lits k zs) sp) := by
  have h : ∀ l : List Int, l.length ≤ Rows.uptoBulkAll (ChangeShapes.lits (H := H) k l) := fun l => by
    induction l with
    | nil => simp
    | cons x r ih => simp only [ChangeShapes.lits, List.map_cons, Rows.uptoBulkAll, Rows.uptoBulk, List.length_cons] at ih ⊢; omega
  have := h zs
  simp only [Rows.uptoBulk]
  omega
end Go.Proofs.YtoijjkbnmicadabDoor
