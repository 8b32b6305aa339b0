/-
  Arguments of the laws: numbers, texts with what keeps them, lines and columns. Conditions: those of each theorem.
-/
import Derived.Test.YtcjmfoadimpffaaGreatDoorRows
import Derived.Test.YtcjmfoadimpffaaGreatDoorKBase
import Derived.OpenShut
import Derived.ChangeSlices
import Derived.ProofKit
import Derived.Deep.Slices
import Derived.Lib.SmallJoins
import Derived.SizedLaws
namespace Go.Proofs.YtcjmfoadimpffaaGreatDoor
open Go.ChangeShapes Go.WideShapes Go.ChangeAt Go.RowKit

def Wholes (W : World) (a : Option Addr) (len : Nat) (rs : List Int) : Prop :=
  rs.length = len ∧ (∀ r ∈ rs, -9223372036854775808 ≤ r ∧ r ≤ 9223372036854775807) ∧ (len ≠ 0 → ∃ b o, a = some ⟨b, o, none⟩ ∧ b < W.heap.size ∧ ∀ j, j < rs.length → W.cell? ⟨b, o + j, none⟩ = some (.int .i64 (rs[j]?.getD 0)))
theorem bulk_wholes {H : Type} (k : IntKind) (zs : List Int) (sp : List (DataW H)) : zs.length ≤ Rows.uptoBulk (.slice (ChangeShapes.lits k zs) sp) := by
  have h : ∀ l : List Int, l.length ≤ Rows.uptoBulkAll (ChangeShapes.lits (H := H) k l) := fun l => by
    induction l with
    | nil => simp
    | cons x r ih => simp only [ChangeShapes.lits, List.map_cons, Rows.uptoBulkAll, Rows.uptoBulk, List.length_cons] at ih ⊢; omega
  have := h zs
  simp only [Rows.uptoBulk]
  omega
theorem wholes_open {H : Type} {enc : TypeId × Value → H} {W : World} {base : Nat} {sp : Nat → Bool} {hd : Bool} {fuel : Nat} {a : Option Addr} {len cap : Nat} {d : DataW H} {p : List MemPlace}
    (h : DataW.trod enc Tryz.prog W base sp hd fuel 42 [.slice a len cap] = some (d, p)) : ∃ l : List Int, Wholes W a len l ∧ len ≤ Rows.uptoBulk d := by
  rcases open_ints Tryz.underlying42 Tryz.underlying3 (by kernel_rfl) h with ⟨hcs, _⟩ | ⟨x, l, c, zs, hcs, _, hl, hm, hz, hx, hcell, hwz⟩
  · simp at hcs
    obtain ⟨rfl, rfl, rfl⟩ := hcs
    exact ⟨[], ⟨rfl, fun r h => (by cases h), fun h => absurd rfl h⟩, Nat.zero_le _⟩
  · simp at hcs
    obtain ⟨rfl, rfl, rfl⟩ := hcs
    have hz' : len ≤ zs.length := by rw [hz]; split <;> omega
    refine ⟨zs.take len, ⟨by simp; omega, fun r hr => bounds_i64 (hwz r (List.mem_of_mem_take hr)), fun h0 => ?_⟩, ?_⟩
    · obtain ⟨b, off, rfl, hc⟩ := ints_at hcell (by omega)
      have hl0 := hc 0 (by omega)
      refine ⟨b, off, rfl, ?_, fun j hj => ?_⟩
      · unfold World.cell? at hl0
        cases ho : W.heap[b]? with
        | none => simp [ho] at hl0
        | some o => exact (Array.getElem?_eq_some_iff.1 ho).1
      · have hj' : j < len := by simp at hj; omega
        have := hc j (by omega)
        rw [List.getElem?_take_of_lt hj']
        simpa using this
    · have hd : d = .slice (lits .i64 (zs.take len)) (lits .i64 (zs.drop len)) := congrArg Prod.fst hx
      rw [hd]
      have := bulk_wholes (H := H) .i64 (zs.take len) (lits .i64 (zs.drop len))
      simp at this
      omega
end Go.Proofs.YtcjmfoadimpffaaGreatDoor
namespace Go.Proofs.YtcjmfoadimpffaaGreatDoor.Sto
open Go.ChangeShapes Go.WideShapes Go.ChangeAt Go.RowKit Go.Deep

set_option maxRecDepth 100000 in
theorem kept_open {H : Type} {enc : TypeId × Value → H} {W : World} {base b0 : Nat} {sp : Nat → Bool} {hd : Bool} {r : Reach} {v : Value} {d : DataW H} {p : List MemPlace}
    (hv : Value.okWide Tryz.prog W r b0 41 v) (h : DataW.Trod enc Tryz.prog W base sp hd 41 v d p) : ∃ (s : ByteArray) (kd : Int), v = .agg #[.string s, .int .i64 kd] ∧ s.size ≤ Rows.uptoBulk d ∧ (-9223372036854775808 ≤ kd ∧ kd ≤ 9223372036854775807) := by
  obtain ⟨cs, rfl, hsz⟩ := okWide_struct Tryz.underlying41 hv
  obtain ⟨n, h⟩ := h
  have ce : Tryz.prog.cellsOf 41 = 2 := by kernel_rfl
  have c3 : Tryz.prog.cellsOf 3 = 1 := by kernel_rfl
  have c9 : Tryz.prog.cellsOf 9 = 1 := by kernel_rfl
  rw [ce] at hsz
  obtain ⟨xs, k, hk, hxy, _, hxl, hf⟩ := DataW.trod_struct Tryz.underlying41 h
  have hl : cs.toList.length = 2 := by simpa using hsz
  obtain ⟨v0, v1, rfl⟩ : ∃ v0 v1, cs = #[v0, v1] := by
    obtain ⟨l⟩ := cs
    match l, hl with
    | [v0, v1], _ => exact ⟨v0, v1, rfl⟩
  match xs, hxl with
  | [y0, y1], _ =>
    have g0 := hf 0 _ rfl
    have g1 := hf 1 _ rfl
    simp [c9, Value.cells] at g0
    simp [c3, Value.cells] at g1
    obtain ⟨s0, e0, q0, _⟩ := DataW.trod_string Tryz.underlying9 g0
    obtain ⟨k1, e1, _, b1⟩ := DataW.trod_int Tryz.underlying3 g1
    simp at e0 e1
    subst e0 e1
    refine ⟨s0, k1, rfl, ?_, bounds_i64 b1⟩
    have hd1 : d = .agg [y0.1, y1.1] := congrArg Prod.fst hxy
    have q5 : y0.1 = .lit (.string s0.data.toList) := congrArg Prod.fst q0
    rw [hd1]
    simp only [Rows.uptoBulk, Rows.uptoBulkAll, q5]
    rw [Lib.size_eq]
    omega
set_option maxRecDepth 100000 in
theorem spot_cells {H : Type} {enc : TypeId × Value → H} {W : World} {base : Nat} {sp : Nat → Bool} {hd : Bool} {n : Nat} {cs : List Value} {d : DataW H × List MemPlace} (hl : cs.length = 2)
    (h : DataW.trod enc Tryz.prog W base sp hd n 64 cs = some d) : ∃ x y : Int, cs = [.int .i64 x, .int .i64 y] ∧ (-9223372036854775808 ≤ x ∧ x ≤ 9223372036854775807) ∧ (-9223372036854775808 ≤ y ∧ y ≤ 9223372036854775807) := by
  obtain ⟨xs, k, hk, hxy, _, hxl, hf⟩ := DataW.trod_struct Tryz.underlying64 h
  have c3 : Tryz.prog.cellsOf 3 = 1 := by kernel_rfl
  match xs, hxl, cs, hl with
  | [y0, y1], _, [v0, v1], _ =>
    have g0 := hf 0 _ rfl
    have g1 := hf 1 _ rfl
    simp [c3] at g0 g1
    obtain ⟨k0, e0, _, b0⟩ := DataW.trod_int Tryz.underlying3 g0
    obtain ⟨k1, e1, _, b1⟩ := DataW.trod_int Tryz.underlying3 g1
    simp at e0 e1
    subst e0 e1
    exact ⟨k0, k1, rfl, bounds_i64 b0, bounds_i64 b1⟩
set_option maxRecDepth 100000 in
theorem spot_open {H : Type} {enc : TypeId × Value → H} {W : World} {base b0 : Nat} {sp : Nat → Bool} {hd : Bool} {r : Reach} {v : Value} {d : DataW H} {p : List MemPlace}
    (hv : Value.okWide Tryz.prog W r b0 64 v) (h : DataW.Trod enc Tryz.prog W base sp hd 64 v d p) : ∃ x y : Int, v = .agg #[.int .i64 x, .int .i64 y] ∧ (-9223372036854775808 ≤ x ∧ x ≤ 9223372036854775807) ∧ (-9223372036854775808 ≤ y ∧ y ≤ 9223372036854775807) := by
  obtain ⟨cs, rfl, hsz⟩ := okWide_struct Tryz.underlying64 hv
  obtain ⟨n, h⟩ := h
  have ce : Tryz.prog.cellsOf 64 = 2 := by kernel_rfl
  rw [ce] at hsz
  obtain ⟨x, y, e, h1, h2⟩ := spot_cells (by simpa [Value.cells] using hsz) h
  refine ⟨x, y, ?_, h1, h2⟩
  obtain ⟨l⟩ := cs
  simp [Value.cells] at e
  rw [e]
end Go.Proofs.YtcjmfoadimpffaaGreatDoor.Sto
