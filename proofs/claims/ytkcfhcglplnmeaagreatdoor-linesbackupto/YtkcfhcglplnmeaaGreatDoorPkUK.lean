/-
  Arguments of the laws: numbers, texts with what keeps them, lines and columns. Conditions: those of each theorem.
-/
import Derived.Test.YtkcfhcglplnmeaaGreatDoorRows
import Derived.Test.YtkcfhcglplnmeaaGreatDoorKBase
import Derived.OpenShut
import Derived.ChangeSlices
import Derived.ProofKit
import Derived.Deep.Slices
import Derived.Lib.SmallJoins
import Derived.SizedLaws
namespace Go.Proofs.YtkcfhcglplnmeaaGreatDoor
open Go.ChangeShapes Go.WideShapes Go.ChangeAt Go.RowKit

end Go.Proofs.YtkcfhcglplnmeaaGreatDoor
namespace Go.Proofs.YtkcfhcglplnmeaaGreatDoor.Sto
open Go.ChangeShapes Go.WideShapes Go.ChangeAt Go.RowKit Go.Deep

set_option maxRecDepth 100000 in
theorem kept_open {H : Type} {enc : TypeId × Value → H} {W : World} {base b0 : Nat} {sp : Nat → Bool} {hd : Bool} {r : Reach} {v : Value} {d : DataW H} {p : List MemPlace}
    (hv : Value.okWide Tryz.prog W r b0 23 v) (h : DataW.Trod enc Tryz.prog W base sp hd 23 v d p) : ∃ (s : ByteArray) (kd : Int), v = .agg #[.string s, .int .i64 kd] ∧ s.size ≤ Rows.uptoBulk d ∧ (-9223372036854775808 ≤ kd ∧ kd ≤ 9223372036854775807) := by
  obtain ⟨cs, rfl, hsz⟩ := okWide_struct Tryz.underlying23 hv
  obtain ⟨n, h⟩ := h
  have ce : Tryz.prog.cellsOf 23 = 2 := by kernel_rfl
  have c3 : Tryz.prog.cellsOf 3 = 1 := by kernel_rfl
  have c9 : Tryz.prog.cellsOf 9 = 1 := by kernel_rfl
  rw [ce] at hsz
  obtain ⟨xs, k, hk, hxy, _, hxl, hf⟩ := DataW.trod_struct Tryz.underlying23 h
  have hl : cs.toList.length = 2 := by simpa using hsz
  obtain ⟨v0, v1, rfl⟩ : ∃ v0 v1, cs = #[v0, v1] := by
    obtain ⟨l⟩ := cs
    match l, hl with
    | [v0, v1], _ => exact ⟨v0, v1, rfl⟩
  match xs, hxl with
  | [y0, y1], _ =>
    have g0 := hf 0 _ rfl
    have g1 := hf 1 _ rfl
    simp [c9, Value.cells] at g0
    simp [c3, Value.cells] at g1
    obtain ⟨s0, e0, q0, _⟩ := DataW.trod_string Tryz.underlying9 g0
    obtain ⟨k1, e1, _, b1⟩ := DataW.trod_int Tryz.underlying3 g1
    simp at e0 e1
    subst e0 e1
    refine ⟨s0, k1, rfl, ?_, bounds_i64 b1⟩
    have hd1 : d = .agg [y0.1, y1.1] := congrArg Prod.fst hxy
    have q5 : y0.1 = .lit (.string s0.data.toList) := congrArg Prod.fst q0
    rw [hd1]
    simp only [Rows.uptoBulk, Rows.uptoBulkAll, q5]
    rw [Lib.size_eq]
    omega
set_option maxRecDepth 100000 in
theorem spot_cells {H : Type} {enc : TypeId × Value → H} {W : World} {base : Nat} {sp : Nat → Bool} {hd : Bool} {n : Nat} {cs : List Value} {d : DataW H × List MemPlace} (hl : cs.length = 2)
    (h : DataW.trod enc Tryz.prog W base sp hd n 52 cs = some d) : ∃ x y : Int, cs = [.int .i64 x, .int .i64 y] ∧ (-9223372036854775808 ≤ x ∧ x ≤ 9223372036854775807) ∧ (-9223372036854775808 ≤ y ∧ y ≤ 9223372036854775807) := by
  obtain ⟨xs, k, hk, hxy, _, hxl, hf⟩ := DataW.trod_struct Tryz.underlying52 h
  have c3 : Tryz.prog.cellsOf 3 = 1 := by kernel_rfl
  match xs, hxl, cs, hl with
  | [y0, y1], _, [v0, v1], _ =>
    have g0 := hf 0 _ rfl
    have g1 := hf 1 _ rfl
    simp [c3] at g0 g1
    obtain ⟨k0, e0, _, b0⟩ := DataW.trod_int Tryz.underlying3 g0
    obtain ⟨k1, e1, _, b1⟩ := DataW.trod_int Tryz.underlying3 g1
    simp at e0 e1
    subst e0 e1
    exact ⟨k0, k1, rfl, bounds_i64 b0, bounds_i64 b1⟩
set_option maxRecDepth 100000 in
theorem spot_open {H : Type} {enc : TypeId × Value → H} {W : World} {base b0 : Nat} {sp : Nat → Bool} {hd : Bool} {r : Reach} {v : Value} {d : DataW H} {p : List MemPlace}
    (hv : Value.okWide Tryz.prog W r b0 52 v) (h : DataW.Trod enc Tryz.prog W base sp hd 52 v d p) : ∃ x y : Int, v = .agg #[.int .i64 x, .int .i64 y] ∧ (-9223372036854775808 ≤ x ∧ x ≤ 9223372036854775807) ∧ (-9223372036854775808 ≤ y ∧ y ≤ 9223372036854775807) := by
  obtain ⟨cs, rfl, hsz⟩ := okWide_struct Tryz.underlying52 hv
  obtain ⟨n, h⟩ := h
  have ce : Tryz.prog.cellsOf 52 = 2 := by kernel_rfl
  rw [ce] at hsz
  obtain ⟨x, y, e, h1, h2⟩ := spot_cells (by simpa [Value.cells] using hsz) h
  refine ⟨x, y, ?_, h1, h2⟩
  obtain ⟨l⟩ := cs
  simp [Value.cells] at e
  rw [e]
set_option maxRecDepth 100000 in
theorem at_open {H : Type} {enc : TypeId × Value → H} {W : World} {base b0 : Nat} {sp : Nat → Bool} {hd : Bool} {r : Reach} {v : Value} {d : DataW H} {p : List MemPlace}
    (hv : Value.okWide Tryz.prog W r b0 54 v) (h : DataW.Trod enc Tryz.prog W base sp hd 54 v d p) : ∃ z x y : Int, v = .agg #[.int .i64 z, .int .i64 x, .int .i64 y] ∧ (-9223372036854775808 ≤ z ∧ z ≤ 9223372036854775807) ∧ (-9223372036854775808 ≤ x ∧ x ≤ 9223372036854775807) ∧ (-9223372036854775808 ≤ y ∧ y ≤ 9223372036854775807) := by
  obtain ⟨cs, rfl, hsz⟩ := okWide_struct Tryz.underlying54 hv
  obtain ⟨n, h⟩ := h
  have ce : Tryz.prog.cellsOf 54 = 3 := by kernel_rfl
  have c3 : Tryz.prog.cellsOf 3 = 1 := by kernel_rfl
  have cS : Tryz.prog.cellsOf 52 = 2 := by kernel_rfl
  rw [ce] at hsz
  obtain ⟨xs, k, hk, hxy, _, hxl, hf⟩ := DataW.trod_struct Tryz.underlying54 h
  have hl : cs.toList.length = 3 := by simpa using hsz
  obtain ⟨v0, v1, v2, rfl⟩ : ∃ v0 v1 v2, cs = #[v0, v1, v2] := by
    obtain ⟨l⟩ := cs
    match l, hl with
    | [v0, v1, v2], _ => exact ⟨v0, v1, v2, rfl⟩
  match xs, hxl with
  | [y0, y1], _ =>
    have g0 := hf 0 _ rfl
    have g1 := hf 1 _ rfl
    simp [c3, Value.cells] at g0
    simp [cS, Value.cells] at g1
    obtain ⟨k0, e0, _, b0⟩ := DataW.trod_int Tryz.underlying3 g0
    obtain ⟨x, y, e, h1, h2⟩ := spot_cells (by simp) g1
    simp at e0 e
    obtain ⟨rfl, rfl⟩ := e
    subst e0
    exact ⟨k0, x, y, rfl, bounds_i64 b0, h1, h2⟩
end Go.Proofs.YtkcfhcglplnmeaaGreatDoor.Sto
