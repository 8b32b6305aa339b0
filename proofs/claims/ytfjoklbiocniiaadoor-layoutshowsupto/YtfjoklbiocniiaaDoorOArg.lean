/-
  What is laid (two texts, two numbers), as an argument: how it reads. No program is walked in this text; no conditions.
-/
import Derived.Test.YtfjoklbiocniiaaDoorKBase
import Derived.Test.YtfjoklbiocniiaaDoorRows
import Derived.Deep.Slices
import Derived.Lib.SmallJoins
import Derived.OpenShut
import Derived.ProofKit
import Derived.SizedLaws
import Derived.ChangeSlices
namespace Go.Proofs.YtfjoklbiocniiaaDoor
open Go.ChangeShapes Go.WideShapes Go.ChangeAt Go.RowKit Go.Deep
/-- an ask -/
structure Akf where
  p : ByteArray
  t : ByteArray
  c : Int
  w : Int
def akfv (a : Akf) : Value := .agg #[.string a.p, .string a.t, .int .i64 a.c, .int .i64 a.w]
set_option maxRecDepth 100000 in
theorem akf_cells {H : Type} {enc : TypeId × Value → H} {W : World} {base : Nat} {sp : Nat → Bool} {hd : Bool} {n : Nat} {cs : List Value} {d : DataW H × List MemPlace} (hl : cs.length = 4)
    (h : DataW.trod enc Tryd.prog W base sp hd n 25 cs = some d) : ∃ x : Akf, cs = [.string x.p, .string x.t, .int .i64 x.c, .int .i64 x.w] ∧ x.p.size + x.t.size ≤ Rows.uptoBulk d.1 := by
  obtain ⟨xs, k, hk, hxy, _, hxl, hf⟩ := DataW.trod_struct Tryd.underlying25 h
  have c3 : Tryd.prog.cellsOf 3 = 1 := by kernel_rfl
  have c9 : Tryd.prog.cellsOf 9 = 1 := by kernel_rfl
  match xs, hxl, cs, hl with
  | [y0, y1, y2, y3], _, [v0, v1, v2, v3], _ =>
    have g0 := hf 0 _ rfl
    have g1 := hf 1 _ rfl
    have g2 := hf 2 _ rfl
    have g3 := hf 3 _ rfl
    simp [c9] at g0 g1
    simp [c3] at g2 g3
    obtain ⟨k0, e0, q0, _⟩ := DataW.trod_string Tryd.underlying9 g0
    obtain ⟨k1, e1, q1, _⟩ := DataW.trod_string Tryd.underlying9 g1
    obtain ⟨k2, e2, _, b2⟩ := DataW.trod_int Tryd.underlying3 g2
    obtain ⟨k3, e3, _, b3⟩ := DataW.trod_int Tryd.underlying3 g3
    simp at e0 e1 e2 e3
    subst e0 e1 e2 e3
    have hd1 : d.1 = .agg [y0.1, y1.1, y2.1, y3.1] := congrArg Prod.fst hxy
    refine ⟨⟨k0, k1, k2, k3⟩, rfl, ?_⟩
    have p0 : y0.1 = .lit (.string k0.data.toList) := congrArg Prod.fst q0
    have p1 : y1.1 = .lit (.string k1.data.toList) := congrArg Prod.fst q1
    rw [hd1]
    simp only [Rows.uptoBulk, Rows.uptoBulkAll, p0, p1]
    rw [Lib.size_eq, Lib.size_eq]
    omega
set_option maxRecDepth 100000 in
theorem akf_open {H : Type} {enc : TypeId × Value → H} {W : World} {base b0 : Nat} {sp : Nat → Bool} {hd : Bool} {r : Reach} {v : Value} {d : DataW H} {p : List MemPlace}
    (hv : Value.okWide Tryd.prog W r b0 25 v) (h : DataW.Trod enc Tryd.prog W base sp hd 25 v d p) : ∃ x : Akf, v = akfv x ∧ x.p.size + x.t.size ≤ Rows.uptoBulk d := by
  obtain ⟨cs, rfl, hsz⟩ := okWide_struct Tryd.underlying25 hv
  obtain ⟨n, h⟩ := h
  have ce : Tryd.prog.cellsOf 25 = 4 := by kernel_rfl
  rw [ce] at hsz
  obtain ⟨x, e, h1⟩ := akf_cells (by simpa [Value.cells] using hsz) h
  refine ⟨x, ?_, h1⟩
  obtain ⟨l⟩ := cs
  simp [Value.cells] at e
  rw [e]
  rfl
end Go.Proofs.YtfjoklbiocniiaaDoor
