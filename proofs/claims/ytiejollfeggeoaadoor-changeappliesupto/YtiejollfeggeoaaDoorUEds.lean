/-
  A slice of edits (two numbers and a text each), as an argument: how it reads. No program is walked in this text; no conditions.
-/
import Derived.Test.YtiejollfeggeoaaDoorKBase
import Derived.Deep.Slices
import Derived.Lib.SmallJoins
import Derived.OpenShut
import Derived.ProofKit
import Derived.SizedLaws
namespace Go.Proofs.YtiejollfeggeoaaDoor
open Go.ChangeShapes Go.WideShapes Go.ChangeAt Go.RowKit Go.Deep

structure Ed where
  a : Int
  c : Int
  p : ByteArray
/-- the numbers are of 64 bits -/
def Ed.fit (x : Ed) : Prop := (-9223372036854775808 ≤ x.a ∧ x.a ≤ 9223372036854775807) ∧ (-9223372036854775808 ≤ x.c ∧ x.c ≤ 9223372036854775807)
def ecs (x : Ed) : List Value := [.int .i64 x.a, .int .i64 x.c, .string x.p]
/-- the edits' letters, and one for each edit -/
def edb : List Ed → Nat
  | [] => 0
  | x :: l => x.p.size + 1 + edb l
/-- a slice that reads as edits -/
def RdE (W : World) (v : Value) (l : List Ed) : Prop :=
  ∃ a cap, v = .slice a l.length cap ∧ (l ≠ [] → ∃ g o, a = some ⟨g, o, none⟩ ∧ g < W.heap.size ∧ ∀ k x, l[k]? = some x →
    W.cell? ⟨g, o + k * 3, none⟩ = some (.int .i64 x.a) ∧ W.cell? ⟨g, o + k * 3 + 1, none⟩ = some (.int .i64 x.c) ∧ W.cell? ⟨g, o + k * 3 + 2, none⟩ = some (.string x.p))
theorem RdE.below {W W' : World} {n : Nat} {v : Value} {l : List Ed} (h : RdE W v l) (hn : W.heap.size ≤ n) (hb : Below n W W') : RdE W' v l := by
  obtain ⟨a, cap, e, h⟩ := h
  refine ⟨a, cap, e, fun h0 => ?_⟩
  obtain ⟨g, o, e, hg, hc⟩ := h h0
  refine ⟨g, o, e, by have := hb.size; omega, fun k x hk => ?_⟩
  obtain ⟨c0, c1, c2⟩ := hc k x hk
  have kp : ∀ i v, W.cell? ⟨g, i, none⟩ = some v → W'.cell? ⟨g, i, none⟩ = some v := fun i v h => (hb.cell (p := ⟨g, i, none⟩) (by simp; omega)).trans h
  exact ⟨kp _ _ c0, kp _ _ c1, kp _ _ c2⟩
theorem edb_range {H : Type} (f : Nat → Ed) (D : Nat → DataW H) : ∀ n, (∀ i, i < n → (f i).p.size + 1 ≤ Rows.uptoBulk (D i)) → ∀ k, k ≤ n → edb ((List.range k).map f) ≤ Rows.uptoBulkAll ((List.range k).map D) := by
  intro n h k hk
  have ea : ∀ a b : List Ed, edb (a ++ b) = edb a + edb b := fun a b => by
    induction a with
    | nil => simp [edb]
    | cons x a ih => simp only [List.cons_append, edb, ih]; omega
  have ba : ∀ a b : List (DataW H), Rows.uptoBulkAll (a ++ b) = Rows.uptoBulkAll a + Rows.uptoBulkAll b := fun a b => by
    induction a with
    | nil => simp [Rows.uptoBulkAll]
    | cons x a ih => simp only [List.cons_append, Rows.uptoBulkAll, ih]; omega
  induction k with
  | zero => simp [edb]
  | succ k ih =>
    rw [List.range_succ, List.map_append, List.map_append, ea, ba]
    have := ih (by omega)
    have := h k (by omega)
    simp only [List.map_cons, List.map_nil, edb, Rows.uptoBulkAll]
    omega
set_option maxRecDepth 100000 in
/-- one element's cells, read as an edit -/
theorem ed_open {H : Type} {enc : TypeId × Value → H} {W : World} {base : Nat} {sp : Nat → Bool} {hd : Bool} {n : Nat} {cs : List Value} {d : DataW H × List MemPlace} {f0 f1 f2 : Field}
    (hs : Tryd.prog.underlying 28 = some (.struct #[f0, f1, f2])) (o0 : f0.offset = 0) (o1 : f1.offset = 1) (o2 : f2.offset = 2)
    (t0 : f0.type = 3) (t1 : f1.type = 3) (t2 : f2.type = 9) (hl : cs.length = 3)
    (h : DataW.trod enc Tryd.prog W base sp hd n 28 cs = some d) :
    ∃ x : Ed, cs = ecs x ∧ x.p.size + 1 ≤ Rows.uptoBulk d.1 ∧ x.fit := by
  obtain ⟨xs, k, hk, hxy, _, hxl, hf⟩ := DataW.trod_struct hs h
  have c3 : Tryd.prog.cellsOf 3 = 1 := by kernel_rfl
  have c9 : Tryd.prog.cellsOf 9 = 1 := by kernel_rfl
  match xs, hxl, cs, hl with
  | [y0, y1, y2], _, [v0, v1, v2], _ =>
    have g0 := hf 0 f0 rfl
    have g1 := hf 1 f1 rfl
    have g2 := hf 2 f2 rfl
    simp [o0, t0, c3] at g0
    simp [o1, t1, c3] at g1
    simp [o2, t2, c9] at g2
    obtain ⟨k0, e0, _, b0⟩ := DataW.trod_int Tryd.underlying3 g0
    obtain ⟨k1, e1, _, b1⟩ := DataW.trod_int Tryd.underlying3 g1
    obtain ⟨s3, e3, q3, _⟩ := DataW.trod_string Tryd.underlying9 g2
    simp at e0 e1 e3
    subst e0 e1 e3
    have hd1 : d.1 = .agg [y0.1, y1.1, y2.1] := congrArg Prod.fst hxy
    refine ⟨⟨k0, k1, s3⟩, rfl, ?_, bounds_i64 b0, bounds_i64 b1⟩
    have q4 : y2.1 = .lit (.string s3.data.toList) := congrArg Prod.fst q3
    rw [hd1]
    simp only [Rows.uptoBulk, Rows.uptoBulkAll, q4]
    rw [Lib.size_eq]
    omega
theorem eds_of {H : Type} {enc : TypeId × Value → H} {W : World} {base : Nat} {sp : Nat → Bool} {hd : Bool} {fuel : Nat} {a : Option Addr} {len cap : Nat} {d : DataW H} {p : List MemPlace}
    (h : DataW.trod enc Tryd.prog W base sp hd fuel 22 [.slice a len cap] = some (d, p)) :
    ∃ l : List Ed, RdE W (.slice a len cap) l ∧ (edb l ≤ Rows.uptoBulk d ∧ ∀ x ∈ l, x.fit) := by
  rcases open_slice Tryd.underlying22 h with ⟨hcs, _⟩ | ⟨x, l, c, m, n, D, Pl, hcs, _, hl, hm, hmm, hx, hcell⟩
  · simp at hcs
    obtain ⟨rfl, rfl, rfl⟩ := hcs
    exact ⟨[], ⟨none, 0, rfl, fun h => absurd rfl h⟩, Nat.zero_le _, fun x h => by cases h⟩
  · simp at hcs
    obtain ⟨rfl, rfl, rfl⟩ := hcs
    have hlm : len ≤ m := by rw [hmm]; split <;> omega
    have ce : Tryd.prog.cellsOf 28 = 3 := by kernel_rfl
    have each : ∀ i, i < len → ∃ y : Ed, (∀ j, j < 3 → W.cell? (x.add (i * 3 + j)) = (ecs y)[j]?) ∧ y.p.size + 1 ≤ Rows.uptoBulk (D i) ∧ y.fit := fun i hi => by
      obtain ⟨cs', h1, h2⟩ := hcell i (by omega)
      rw [ce] at h1
      obtain ⟨_, hlen, hc⟩ := World.cells?_some h1
      obtain ⟨y, hy, hy2⟩ := ed_open Tryd.underlying28 rfl rfl rfl rfl rfl rfl hlen h2
      refine ⟨y, fun j hj => ?_, hy2⟩
      have := hc j hj
      rw [add_add, hy] at this
      exact this
    have : Inhabited Ed := ⟨⟨0, 0, ByteArray.empty⟩⟩
    obtain ⟨f, hf⟩ := choose_lt each
    have hd : d = .slice ((List.range len).map D) ((List.range (m - len)).map fun j => D (len + j)) := congrArg Prod.fst hx
    refine ⟨(List.range len).map f, ⟨some x, cap, by simp, fun h0 => ?_⟩, ?_, fun y hy => ?_⟩
    · have hpos : 0 < len := by
        rcases Nat.eq_zero_or_pos len with e | e
        · rw [e] at h0; exact absurd rfl h0
        · exact e
      obtain ⟨b, off, spot⟩ := x
      have h00 := (hf 0 hpos).1 0 (by omega)
      have h00' : W.cell? (Addr.add ⟨b, off, spot⟩ (0 * 3 + 0)) = some (.int .i64 (f 0).a) := h00
      have hspot : spot = none := by simpa [Addr.add] using World.cell?_spot h00'
      subst hspot
      refine ⟨b, off, rfl, ?_, fun k y hk => ?_⟩
      · rw [Go.WideShapes.add_plain] at h00'
        unfold World.cell? at h00'
        cases ho : W.heap[b]? with
        | none => simp [ho] at h00'
        | some o => exact (Array.getElem?_eq_some_iff.1 ho).1
      · have hkl : k < len := by have := (List.getElem?_eq_some_iff.1 hk).1; simpa using this
        have hy : y = f k := by
          rw [List.getElem?_map, List.getElem?_range hkl] at hk
          simpa using hk.symm
        subst hy
        have at' : ∀ j, j < 3 → W.cell? ⟨b, off + k * 3 + j, none⟩ = (ecs (f k))[j]? := fun j hj => by
          have := (hf k hkl).1 j hj
          rw [Go.WideShapes.add_plain, ← Nat.add_assoc] at this
          exact this
        exact ⟨at' 0 (by omega), at' 1 (by omega), at' 2 (by omega)⟩
    · rw [hd]
      have := edb_range f D len (fun i hi => (hf i hi).2.1) len (Nat.le_refl _)
      simp only [Rows.uptoBulk]
      omega
    · obtain ⟨i, hi, rfl⟩ := List.mem_map.1 hy
      exact (hf i (List.mem_range.1 hi)).2.2
end Go.Proofs.YtiejollfeggeoaaDoor
