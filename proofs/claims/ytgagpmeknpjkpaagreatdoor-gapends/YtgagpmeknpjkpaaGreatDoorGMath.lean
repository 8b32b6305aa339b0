/-
  A buffer in plain words: a text, the gap's place, the limit; what each call of chapter 6 makes of them and answers. No program in this text; no conditions.
-/
import Derived.Test.YtgagpmeknpjkpaaGreatDoorPkA
namespace Go.Proofs.YtgagpmeknpjkpaaGreatDoor
open Bod

structure Gp where
  s : ByteArray
  p : Nat
  l : Nat
/-- what holds of every buffer -/
def Gp.ok (g : Gp) : Prop := g.p ≤ g.s.size ∧ g.s.size ≤ g.l ∧ g.l ≤ 1073741824
def eBA : ByteArray := ⟨#[]⟩
/-- a limit as it counts -/
def lim (n : Int) : Nat := (min (max n 0) 1073741824).toNat
theorem lim_le (n : Int) : lim n ≤ 1073741824 := by unfold lim; omega
theorem lim_eq (n : Int) : ((lim n : Nat) : Int) = min (max n 0) 1073741824 := by unfold lim; omega
def gNew (s : ByteArray) (n : Int) : Option Gp := if s.size ≤ lim n then some ⟨s, s.size, lim n⟩ else none
/-- not 0 <= from <= to <= n -/
def gRng (f t : Int) (n : Nat) : Bool := decide (f < 0 ∨ t < f ∨ (n : Int) < t)
def gSlice (s : ByteArray) (f t : Int) : ByteArray × Int := if gRng f t s.size then (eBA, 1) else (s.extract f.toNat t.toNat, 0)
def gByte (s : ByteArray) (a : Int) : Int × Int := if a < 0 ∨ (s.size : Int) ≤ a then (0, 1) else ((bt s a.toNat : Int), 0)
/-- does part lie at i? -/
def gAt (s part : ByteArray) (i : Nat) : Bool := decide (i + part.size ≤ s.size) && decide (s.extract i (i + part.size) = part)
def gIdx (s part : ByteArray) (f : Int) : Int := match (List.range (s.size + 1)).find? (fun (i : Nat) => decide (f ≤ (i : Int)) && gAt s part i) with
  | some i => i
  | none => -1
def gMove (g : Gp) (a : Int) : Gp × Int := if a < 0 ∨ (g.s.size : Int) < a then (g, 1) else ({ g with p := a.toNat }, 0)
/-- is the cut out of range? -/
def gOut (g : Gp) (a c : Int) : Prop := a < 0 ∨ c < 0 ∨ (g.s.size : Int) < a ∨ (g.s.size : Int) - a < c
instance (g : Gp) (a c : Int) : Decidable (gOut g a c) := by unfold gOut; infer_instance
def gRep (g : Gp) (a c : Int) (put : ByteArray) : Gp × ByteArray × Int :=
  if gOut g a c then (g, eBA, 1) else if (g.l : Int) < (g.s.size : Int) - c + put.size then (g, eBA, 2)
  else (⟨g.s.extract 0 a.toNat ++ put ++ g.s.extract (a.toNat + c.toNat) g.s.size, a.toNat + put.size, g.l⟩, g.s.extract a.toNat (a.toNat + c.toNat), 0)
def gReset (g : Gp) (s : ByteArray) : Gp × Int := if s.size ≤ g.l then (⟨s, s.size, g.l⟩, 0) else (g, 2)

theorem size_ext {s : ByteArray} {a b : Nat} (h : b ≤ s.size) : (s.extract a b).size = b - a := by simp; omega
theorem gNew_ok {s : ByteArray} {n : Int} {g : Gp} (h : gNew s n = some g) : g.ok := by
  unfold gNew at h
  split at h
  · rename_i hl
    cases h
    exact ⟨Nat.le_refl _, hl, lim_le n⟩
  · cases h
theorem gMove_ok {g : Gp} (h : g.ok) (a : Int) : (gMove g a).1.ok := by
  unfold gMove
  split
  · exact h
  · exact ⟨by simp only; omega, h.2⟩
theorem gRep_ok {g : Gp} (h : g.ok) (a c : Int) (put : ByteArray) : (gRep g a c put).1.ok := by
  obtain ⟨h1, h2, h3⟩ := h
  unfold gRep
  split
  · exact ⟨h1, h2, h3⟩
  · rename_i hr
    unfold gOut at hr
    split
    · exact ⟨h1, h2, h3⟩
    · rename_i hf
      have e : (g.s.extract 0 a.toNat ++ put ++ g.s.extract (a.toNat + c.toNat) g.s.size).size = a.toNat + put.size + (g.s.size - (a.toNat + c.toNat)) := by
        rw [ByteArray.size_append, ByteArray.size_append, size_ext (by omega), size_ext (Nat.le_refl _)]
        omega
      refine ⟨?_, ?_, h3⟩
      · show a.toNat + put.size ≤ _
        rw [e]; omega
      · show _ ≤ g.l
        rw [e]; omega
theorem gReset_ok {g : Gp} (h : g.ok) (s : ByteArray) : (gReset g s).1.ok := by
  unfold gReset
  split
  · rename_i hl
    exact ⟨Nat.le_refl _, hl, h.2.2⟩
  · exact h
end Go.Proofs.YtgagpmeknpjkpaaGreatDoor
