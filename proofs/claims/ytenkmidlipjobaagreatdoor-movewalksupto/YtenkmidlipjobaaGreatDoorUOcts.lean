/-
  A slice of bytes that came in, as the walks take it: its numbers, their bounds, where they lie. No conditions.
-/
import Derived.Test.YtenkmidlipjobaaGreatDoorRows
import Derived.Test.YtenkmidlipjobaaGreatDoorKBase
import Derived.OpenShut
import Derived.ChangeSlices
import Derived.ProofKit
namespace Go.Proofs.YtenkmidlipjobaaGreatDoor
open Go.ChangeShapes Go.WideShapes Go.ChangeAt Go.RowKit

def Octs (W : World) (a : Option Addr) (len : Nat) (rs : List Int) : Prop :=
  rs.length = len ∧ (∀ r ∈ rs, 0 ≤ r ∧ r ≤ 255) ∧ (len ≠ 0 → ∃ b o, a = some ⟨b, o, none⟩ ∧ b < W.heap.size ∧ ∀ j, j < rs.length → W.cell? ⟨b, o + j, none⟩ = some (.int .u8 (rs[j]?.getD 0)))
theorem bulk_octs {H : Type} (k : IntKind) (zs : List Int) (sp : List (DataW H)) : zs.length ≤ Rows.uptoBulk (.slice (ChangeShapes.lits k zs) sp) := by
  have h : ∀ l : List Int, l.length ≤ Rows.uptoBulkAll (ChangeShapes.lits (H := H) k l) := fun l => by
    induction l with
    | nil => simp
    | cons x r ih => simp only [ChangeShapes.lits, List.map_cons, Rows.uptoBulkAll, Rows.uptoBulk, List.length_cons] at ih ⊢; omega
  have := h zs
  simp only [Rows.uptoBulk]
  omega
theorem octs_open {H : Type} {enc : TypeId × Value → H} {W : World} {base : Nat} {sp : Nat → Bool} {hd : Bool} {fuel : Nat} {a : Option Addr} {len cap : Nat} {d : DataW H} {p : List MemPlace}
    (h : DataW.trod enc Tryz.prog W base sp hd fuel 38 [.slice a len cap] = some (d, p)) : ∃ l : List Int, Octs W a len l ∧ len ≤ Rows.uptoBulk d := by
  rcases open_ints Tryz.underlying38 Tryz.underlying5 (by kernel_rfl) h with ⟨hcs, _⟩ | ⟨x, l, c, zs, hcs, _, hl, hm, hz, hx, hcell, hwz⟩
  · simp at hcs
    obtain ⟨rfl, rfl, rfl⟩ := hcs
    exact ⟨[], ⟨rfl, fun r h => (by cases h), fun h => absurd rfl h⟩, Nat.zero_le _⟩
  · simp at hcs
    obtain ⟨rfl, rfl, rfl⟩ := hcs
    have hz' : len ≤ zs.length := by rw [hz]; split <;> omega
    refine ⟨zs.take len, ⟨by simp; omega, fun r hr => bounds_u8 (hwz r (List.mem_of_mem_take hr)), fun h0 => ?_⟩, ?_⟩
    · obtain ⟨b, off, rfl, hc⟩ := ints_at hcell (by omega)
      have hl0 := hc 0 (by omega)
      refine ⟨b, off, rfl, ?_, fun j hj => ?_⟩
      · unfold World.cell? at hl0
        cases ho : W.heap[b]? with
        | none => simp [ho] at hl0
        | some o => exact (Array.getElem?_eq_some_iff.1 ho).1
      · have hj' : j < len := by simp at hj; omega
        have := hc j (by omega)
        rw [List.getElem?_take_of_lt hj']
        simpa using this
    · have hd : d = .slice (lits .u8 (zs.take len)) (lits .u8 (zs.drop len)) := congrArg Prod.fst hx
      rw [hd]
      have := bulk_octs (H := H) .u8 (zs.take len) (lits .u8 (zs.drop len))
      simp at this
      omega
end Go.Proofs.YtenkmidlipjobaaGreatDoor
