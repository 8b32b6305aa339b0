/-
  What is asked of a text (four numbers), and a slice of it, as arguments: how they read. No program is walked in this text; no conditions.
-/
import Derived.Test.YtdggbnkhbmffoaaGreatDoorKBase
import Derived.Test.YtdggbnkhbmffoaaGreatDoorRows
import Derived.Deep.Slices
import Derived.Lib.SmallJoins
import Derived.OpenShut
import Derived.ProofKit
import Derived.SizedLaws
import Derived.ChangeSlices
namespace Go.Proofs.YtdggbnkhbmffoaaGreatDoor
open Go.ChangeShapes Go.WideShapes Go.ChangeAt Go.RowKit Go.Deep

structure Ak where
  k : Int
  c : Int
  i : Int
  r : Int
/-- a number of 64 bits -/
def in64 (x : Int) : Prop := -9223372036854775808 ≤ x ∧ x ≤ 9223372036854775807
def Ak.fit (x : Ak) : Prop := in64 x.k ∧ in64 x.c ∧ in64 x.i ∧ in64 x.r
def akc (x : Ak) : List Value := [.int .i64 x.k, .int .i64 x.c, .int .i64 x.i, .int .i64 x.r]
def akv (x : Ak) : Value := .agg #[.int .i64 x.k, .int .i64 x.c, .int .i64 x.i, .int .i64 x.r]
set_option maxRecDepth 100000 in
theorem ask_cells {H : Type} {enc : TypeId × Value → H} {W : World} {base : Nat} {sp : Nat → Bool} {hd : Bool} {n : Nat} {cs : List Value} {d : DataW H × List MemPlace} (hl : cs.length = 4)
    (h : DataW.trod enc Tryz.prog W base sp hd n 25 cs = some d) : ∃ x : Ak, cs = akc x ∧ x.fit := by
  obtain ⟨xs, k, hk, hxy, _, hxl, hf⟩ := DataW.trod_struct Tryz.underlying25 h
  have c3 : Tryz.prog.cellsOf 3 = 1 := by kernel_rfl
  match xs, hxl, cs, hl with
  | [y0, y1, y2, y3], _, [v0, v1, v2, v3], _ =>
    have g0 := hf 0 _ rfl
    have g1 := hf 1 _ rfl
    have g2 := hf 2 _ rfl
    have g3 := hf 3 _ rfl
    simp [c3] at g0 g1 g2 g3
    obtain ⟨k0, e0, _, b0⟩ := DataW.trod_int Tryz.underlying3 g0
    obtain ⟨k1, e1, _, b1⟩ := DataW.trod_int Tryz.underlying3 g1
    obtain ⟨k2, e2, _, b2⟩ := DataW.trod_int Tryz.underlying3 g2
    obtain ⟨k3, e3, _, b3⟩ := DataW.trod_int Tryz.underlying3 g3
    simp at e0 e1 e2 e3
    subst e0 e1 e2 e3
    exact ⟨⟨k0, k1, k2, k3⟩, rfl, bounds_i64 b0, bounds_i64 b1, bounds_i64 b2, bounds_i64 b3⟩
set_option maxRecDepth 100000 in
theorem ask_open {H : Type} {enc : TypeId × Value → H} {W : World} {base b0 : Nat} {sp : Nat → Bool} {hd : Bool} {r : Reach} {v : Value} {d : DataW H} {p : List MemPlace}
    (hv : Value.okWide Tryz.prog W r b0 25 v) (h : DataW.Trod enc Tryz.prog W base sp hd 25 v d p) : ∃ x : Ak, v = akv x ∧ x.fit := by
  obtain ⟨cs, rfl, hsz⟩ := okWide_struct Tryz.underlying25 hv
  obtain ⟨n, h⟩ := h
  have ce : Tryz.prog.cellsOf 25 = 4 := by kernel_rfl
  rw [ce] at hsz
  obtain ⟨x, e, h1⟩ := ask_cells (by simpa [Value.cells] using hsz) h
  refine ⟨x, ?_, h1⟩
  obtain ⟨l⟩ := cs
  simp [Value.cells] at e
  rw [e]
  rfl
/-- a slice that reads as what is asked -/
def Asks4 (W : World) (a : Option Addr) (len : Nat) (l : List Ak) : Prop :=
  l.length = len ∧ (∀ x ∈ l, x.fit) ∧ (len ≠ 0 → ∃ b o, a = some ⟨b, o, none⟩ ∧ b < W.heap.size ∧ ∀ (k : Nat) (x : Ak), l[k]? = some x → W.cell? ⟨b, o + k * 4, none⟩ = some (.int .i64 x.k) ∧ W.cell? ⟨b, o + k * 4 + 1, none⟩ = some (.int .i64 x.c) ∧ W.cell? ⟨b, o + k * 4 + 2, none⟩ = some (.int .i64 x.i) ∧ W.cell? ⟨b, o + k * 4 + 3, none⟩ = some (.int .i64 x.r))
theorem ak_bulk {H : Type} (D : Nat → DataW H) (hD : ∀ i, 1 ≤ Rows.uptoBulk (D i)) : ∀ n, n ≤ Rows.uptoBulkAll ((List.range n).map D)
  | 0 => Nat.zero_le _
  | n + 1 => by
    have ba : ∀ a b : List (DataW H), Rows.uptoBulkAll (a ++ b) = Rows.uptoBulkAll a + Rows.uptoBulkAll b := fun a b => by
      induction a with
      | nil => simp [Rows.uptoBulkAll]
      | cons x a ih => simp only [List.cons_append, Rows.uptoBulkAll, ih]; omega
    have := ak_bulk D hD n
    have := hD n
    rw [List.range_succ, List.map_append, ba]
    simp only [List.map_cons, List.map_nil, Rows.uptoBulkAll]
    omega
theorem asks4_of {H : Type} {enc : TypeId × Value → H} {W : World} {base : Nat} {sp : Nat → Bool} {hd : Bool} {fuel : Nat} {a : Option Addr} {len cap : Nat} {d : DataW H} {p : List MemPlace}
    (h : DataW.trod enc Tryz.prog W base sp hd fuel 22 [.slice a len cap] = some (d, p)) :
    ∃ l : List Ak, Asks4 W a len l ∧ len ≤ Rows.uptoBulk d := by
  rcases open_slice Tryz.underlying22 h with ⟨hcs, _⟩ | ⟨x, l, c, m, n, D, Pl, hcs, _, hl, hm, hmm, hx, hcell⟩
  · simp at hcs
    obtain ⟨rfl, rfl, rfl⟩ := hcs
    exact ⟨[], ⟨rfl, fun x h => (by cases h), fun h => absurd rfl h⟩, Nat.zero_le _⟩
  · simp at hcs
    obtain ⟨rfl, rfl, rfl⟩ := hcs
    have hlm : len ≤ m := by rw [hmm]; split <;> omega
    have ce : Tryz.prog.cellsOf 25 = 4 := by kernel_rfl
    have each : ∀ i, i < len → ∃ y : Ak, (∀ j, j < 4 → W.cell? (x.add (i * 4 + j)) = (akc y)[j]?) ∧ y.fit := fun i hi => by
      obtain ⟨cs', h1, h2⟩ := hcell i (by omega)
      rw [ce] at h1
      obtain ⟨_, hlen, hc⟩ := World.cells?_some h1
      obtain ⟨y, hy, b1⟩ := ask_cells hlen h2
      refine ⟨y, fun j hj => ?_, b1⟩
      have := hc j hj
      rw [add_add, hy] at this
      exact this
    have : Inhabited Ak := ⟨⟨0, 0, 0, 0⟩⟩
    obtain ⟨f, hf⟩ := choose_lt each
    have hd : d = .slice ((List.range len).map D) ((List.range (m - len)).map fun j => D (len + j)) := congrArg Prod.fst hx
    have u : ∀ x : DataW H, 1 ≤ Rows.uptoBulk x := fun x => by
      cases x with
      | lit l => cases l <;> simp [Rows.uptoBulk]
      | _ => simp [Rows.uptoBulk]
    refine ⟨(List.range len).map f, ⟨by simp, fun y hy => ?_, fun h0 => ?_⟩, ?_⟩
    · obtain ⟨i, hi, rfl⟩ := List.mem_map.1 hy
      exact (hf i (List.mem_range.1 hi)).2
    · have hpos : 0 < len := by omega
      obtain ⟨b, off, spot⟩ := x
      have h00 := (hf 0 hpos).1 0 (by omega)
      have h00' : W.cell? (Addr.add ⟨b, off, spot⟩ (0 * 4 + 0)) = some (.int .i64 (f 0).k) := h00
      have hspot : spot = none := by simpa [Addr.add] using World.cell?_spot h00'
      subst hspot
      refine ⟨b, off, rfl, ?_, fun k y hk => ?_⟩
      · rw [Go.WideShapes.add_plain] at h00'
        unfold World.cell? at h00'
        cases ho : W.heap[b]? with
        | none => simp [ho] at h00'
        | some o => exact (Array.getElem?_eq_some_iff.1 ho).1
      · have hkl : k < len := by have := (List.getElem?_eq_some_iff.1 hk).1; simpa using this
        have hy : y = f k := by
          rw [List.getElem?_map, List.getElem?_range hkl] at hk
          simpa using hk.symm
        subst hy
        have at' : ∀ j, j < 4 → W.cell? ⟨b, off + k * 4 + j, none⟩ = (akc (f k))[j]? := fun j hj => by
          have := (hf k hkl).1 j hj
          rw [Go.WideShapes.add_plain, ← Nat.add_assoc] at this
          exact this
        exact ⟨at' 0 (by omega), at' 1 (by omega), at' 2 (by omega), at' 3 (by omega)⟩
    · rw [hd]
      have := ak_bulk D (fun i => u _) len
      simp only [Rows.uptoBulk]
      omega
end Go.Proofs.YtdggbnkhbmffoaaGreatDoor
