/-
  What is asked of a text (four numbers), and a slice of it, as arguments: how they read. No program is walked in this text; no conditions.
-/
import Derived.Test.YtiejollfeggeoaaDoorKBase
import Derived.Test.YtiejollfeggeoaaDoorRows
import Derived.Deep.Slices
import Derived.Lib.SmallJoins
import Derived.OpenShut
import Derived.ProofKit
import Derived.SizedLaws
import Derived.ChangeSlices
namespace Go.Proofs.YtiejollfeggeoaaDoor
open Go.ChangeShapes Go.WideShapes Go.ChangeAt Go.RowKit Go.Deep

structure Ak where
  k : Int
  c : Int
  i : Int
  r : Int
/-- a number of 64 bits -/
def in64 (x : Int) : Prop := -9223372036854775808 ≤ x ∧ x ≤ 9223372036854775807
def Ak.fit (x : Ak) : Prop := in64 x.k ∧ in64 x.c ∧ in64 x.i ∧ in64 x.r
def akc (x : Ak) : List Value := [.int .i64 x.k, .int .i64 x.c, .int .i64 x.i, .int .i64 x.r]
def akv (x : Ak) : Value := .agg #[.int .i64 x.k, .int .i64 x.c, .int .i64 x.i, .int .i64 x.r]
set_option maxRecDepth 100000 in
theorem ask_cells {H : Type} {enc : TypeId × Value → H} {W : World} {base : Nat} {sp : Nat → Bool} {hd : Bool} {n : Nat} {cs : List Value} {d : DataW H × List MemPlace} (hl : cs.length = 4)
    (h : DataW.trod enc Tryd.prog W base sp hd n 31 cs = some d) : ∃ x : Ak, cs = akc x ∧ x.fit := by
  obtain ⟨xs, k, hk, hxy, _, hxl, hf⟩ := DataW.trod_struct Tryd.underlying31 h
  have c3 : Tryd.prog.cellsOf 3 = 1 := by kernel_rfl
  match xs, hxl, cs, hl with
  | [y0, y1, y2, y3], _, [v0, v1, v2, v3], _ =>
    have g0 := hf 0 _ rfl
    have g1 := hf 1 _ rfl
    have g2 := hf 2 _ rfl
    have g3 := hf 3 _ rfl
    simp [c3] at g0 g1 g2 g3
    obtain ⟨k0, e0, _, b0⟩ := DataW.trod_int Tryd.underlying3 g0
    obtain ⟨k1, e1, _, b1⟩ := DataW.trod_int Tryd.underlying3 g1
    obtain ⟨k2, e2, _, b2⟩ := DataW.trod_int Tryd.underlying3 g2
    obtain ⟨k3, e3, _, b3⟩ := DataW.trod_int Tryd.underlying3 g3
    simp at e0 e1 e2 e3
    subst e0 e1 e2 e3
    exact ⟨⟨k0, k1, k2, k3⟩, rfl, bounds_i64 b0, bounds_i64 b1, bounds_i64 b2, bounds_i64 b3⟩
set_option maxRecDepth 100000 in
theorem ask_open {H : Type} {enc : TypeId × Value → H} {W : World} {base b0 : Nat} {sp : Nat → Bool} {hd : Bool} {r : Reach} {v : Value} {d : DataW H} {p : List MemPlace}
    (hv : Value.okWide Tryd.prog W r b0 31 v) (h : DataW.Trod enc Tryd.prog W base sp hd 31 v d p) : ∃ x : Ak, v = akv x ∧ x.fit := by
  obtain ⟨cs, rfl, hsz⟩ := okWide_struct Tryd.underlying31 hv
  obtain ⟨n, h⟩ := h
  have ce : Tryd.prog.cellsOf 31 = 4 := by kernel_rfl
  rw [ce] at hsz
  obtain ⟨x, e, h1⟩ := ask_cells (by simpa [Value.cells] using hsz) h
  refine ⟨x, ?_, h1⟩
  obtain ⟨l⟩ := cs
  simp [Value.cells] at e
  rw [e]
  rfl
end Go.Proofs.YtiejollfeggeoaaDoor
