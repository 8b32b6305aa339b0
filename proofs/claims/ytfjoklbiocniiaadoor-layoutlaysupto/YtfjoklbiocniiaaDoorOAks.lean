/-
  What is laid (two texts, two numbers), many of it, as an argument: how it reads. No program is walked in this text; no conditions.
-/
import Derived.Test.YtfjoklbiocniiaaDoorOArg
import Derived.Test.YtfjoklbiocniiaaDoorUElf
namespace Go.Proofs.YtfjoklbiocniiaaDoor
open Go.ChangeShapes Go.WideShapes Go.ChangeAt Go.RowKit Go.Deep
/-- a slice that reads as the asks l -/
def RdAk (W : World) (v : Value) (l : List Akf) : Prop := ∃ a c, v = .slice a l.length c ∧ ∀ (k : Nat) x, l[k]? = some x → ∃ g o, a = some ⟨g, o, none⟩ ∧ W.cell? ⟨g, o + k * 4, none⟩ = some (.string x.p) ∧ W.cell? ⟨g, o + k * 4 + 1, none⟩ = some (.string x.t) ∧ W.cell? ⟨g, o + k * 4 + 2, none⟩ = some (.int .i64 x.c) ∧ W.cell? ⟨g, o + k * 4 + 3, none⟩ = some (.int .i64 x.w)
/-- all that the asks hold -/
def akwt (l : List Akf) : Nat := (l.map fun x => x.p.size + x.t.size + 1).sum
theorem akwt_mem {l : List Akf} {x : Akf} (h : x ∈ l) : x.p.size + x.t.size + 1 ≤ akwt l := sum_mem (wt := fun x : Akf => x.p.size + x.t.size + 1) h
theorem akwt_len (l : List Akf) : l.length ≤ akwt l := sum_len (wt := fun x : Akf => x.p.size + x.t.size + 1) (fun _ => by omega) l
set_option maxRecDepth 100000 in
theorem akf_cells1 {H : Type} {enc : TypeId × Value → H} {W : World} {base : Nat} {sp : Nat → Bool} {hd : Bool} {n : Nat} {cs : List Value} {d : DataW H × List MemPlace} (hl : cs.length = 4)
    (h : DataW.trod enc Tryd.prog W base sp hd n 25 cs = some d) : ∃ x : Akf, cs = [.string x.p, .string x.t, .int .i64 x.c, .int .i64 x.w] ∧ x.p.size + x.t.size + 1 ≤ Rows.uptoBulk d.1 := by
  obtain ⟨xs, k, hk, hxy, _, hxl, hf⟩ := DataW.trod_struct Tryd.underlying25 h
  have c3 : Tryd.prog.cellsOf 3 = 1 := by kernel_rfl
  have c9 : Tryd.prog.cellsOf 9 = 1 := by kernel_rfl
  match xs, hxl, cs, hl with
  | [y0, y1, y2, y3], _, [v0, v1, v2, v3], _ =>
    have g0 := hf 0 _ rfl
    have g1 := hf 1 _ rfl
    have g2 := hf 2 _ rfl
    have g3 := hf 3 _ rfl
    simp [c9] at g0 g1
    simp [c3] at g2 g3
    obtain ⟨k0, e0, q0, _⟩ := DataW.trod_string Tryd.underlying9 g0
    obtain ⟨k1, e1, q1, _⟩ := DataW.trod_string Tryd.underlying9 g1
    obtain ⟨k2, e2, _, b2⟩ := DataW.trod_int Tryd.underlying3 g2
    obtain ⟨k3, e3, _, b3⟩ := DataW.trod_int Tryd.underlying3 g3
    simp at e0 e1 e2 e3
    subst e0 e1 e2 e3
    have hd1 : d.1 = .agg [y0.1, y1.1, y2.1, y3.1] := congrArg Prod.fst hxy
    refine ⟨⟨k0, k1, k2, k3⟩, rfl, ?_⟩
    have p0 : y0.1 = .lit (.string k0.data.toList) := congrArg Prod.fst q0
    have p1 : y1.1 = .lit (.string k1.data.toList) := congrArg Prod.fst q1
    rw [hd1]
    simp only [Rows.uptoBulk, Rows.uptoBulkAll, p0, p1]
    rw [Lib.size_eq, Lib.size_eq]
    omega
theorem aks_of {H : Type} {enc : TypeId × Value → H} {W : World} {base : Nat} {sp : Nat → Bool} {hd : Bool} {fuel : Nat} {a : Option Addr} {len cap : Nat} {d : DataW H} {p : List MemPlace}
    (h : DataW.trod enc Tryd.prog W base sp hd fuel 22 [.slice a len cap] = some (d, p)) :
    ∃ l : List Akf, RdAk W (.slice a len cap) l ∧ akwt l + 1 ≤ Rows.uptoBulk d := by
  have : Inhabited Akf := ⟨⟨⟨#[]⟩, ⟨#[]⟩, 0, 0⟩⟩
  obtain ⟨a', len', cap', e, l, h1, h2, h3, _⟩ := els_of (c := 4) Tryd.underlying22 (by kernel_rfl) (by omega) (fun q : Akf => [.string q.p, .string q.t, .int .i64 q.c, .int .i64 q.w]) (fun _ => rfl) (fun q => q.p.size + q.t.size + 1) (fun _ => True) (fun n l d hl hd => by
    obtain ⟨x, e, hw⟩ := akf_cells1 hl hd
    exact ⟨x, e, hw, trivial⟩) h
  have e := List.cons.inj e
  obtain ⟨rfl, rfl, rfl⟩ := Value.slice.inj e.1
  refine ⟨l, ⟨a, cap, by rw [h1], fun k x hk => ?_⟩, h3⟩
  obtain ⟨hl, g, o, e, hg, hc⟩ := h2 (by rintro rfl; simp at hk)
  have c0 := hc k x hk 0 (by omega)
  have c1 := hc k x hk 1 (by omega)
  have c2 := hc k x hk 2 (by omega)
  have c3 := hc k x hk 3 (by omega)
  exact ⟨g, o, e, c0, c1, c2, c3⟩
end Go.Proofs.YtfjoklbiocniiaaDoor
