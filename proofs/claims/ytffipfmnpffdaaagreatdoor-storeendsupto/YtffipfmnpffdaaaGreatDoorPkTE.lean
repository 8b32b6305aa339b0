/-
  The statement's own makers of stores, and Same. Conditions: those of each theorem.
-/
import Derived.Test.YtffipfmnpffdaaaGreatDoorKBase
import Derived.Deep.Slices
import Derived.Lib.SmallJoins
import Derived.OpenShut
import Derived.ProofKit
import Derived.SizedLaws
import Derived.Test.YtffipfmnpffdaaaGreatDoorTRefN
import Derived.Test.YtffipfmnpffdaaaGreatDoorPkTD
import Derived.Test.YtffipfmnpffdaaaGreatDoorPkTA
import Derived.Defers
import Derived.Recover
import Derived.Laws.Pointers
import Derived.BigQuiet
import Derived.Deep.QuietTactic
import Derived.Deep.RegionWith
namespace Go.Proofs.YtffipfmnpffdaaaGreatDoor.Sto
open Go.ChangeShapes Go.WideShapes Go.ChangeAt Go.RowKit Go.Deep

structure Oc where
  kd : Int
  a : Int
  c : Int
  p : ByteArray
/-- the numbers are of 64 bits -/
def Oc.fit (x : Oc) : Prop := (-9223372036854775808 ≤ x.kd ∧ x.kd ≤ 9223372036854775807) ∧ (-9223372036854775808 ≤ x.a ∧ x.a ≤ 9223372036854775807) ∧ (-9223372036854775808 ≤ x.c ∧ x.c ≤ 9223372036854775807)
def ocs (x : Oc) : List Value := [.int .i64 x.kd, .int .i64 x.a, .int .i64 x.c, .string x.p]
/-- the calls' letters, and one for each call -/
def obk : List Oc → Nat
  | [] => 0
  | x :: l => x.p.size + 1 + obk l
/-- a slice that reads as calls -/
def RdC (W : World) (v : Value) (l : List Oc) : Prop :=
  ∃ a cap, v = .slice a l.length cap ∧ (l ≠ [] → ∃ g o, a = some ⟨g, o, none⟩ ∧ g < W.heap.size ∧ ∀ k x, l[k]? = some x →
    W.cell? ⟨g, o + k * 4, none⟩ = some (.int .i64 x.kd) ∧ W.cell? ⟨g, o + k * 4 + 1, none⟩ = some (.int .i64 x.a) ∧ W.cell? ⟨g, o + k * 4 + 2, none⟩ = some (.int .i64 x.c) ∧ W.cell? ⟨g, o + k * 4 + 3, none⟩ = some (.string x.p))
theorem RdC.below {W W' : World} {n : Nat} {v : Value} {l : List Oc} (h : RdC W v l) (hn : W.heap.size ≤ n) (hb : Below n W W') : RdC W' v l := by
  obtain ⟨a, cap, e, h⟩ := h
  refine ⟨a, cap, e, fun h0 => ?_⟩
  obtain ⟨g, o, e, hg, hc⟩ := h h0
  refine ⟨g, o, e, by have := hb.size; omega, fun k x hk => ?_⟩
  obtain ⟨c0, c1, c2, c3⟩ := hc k x hk
  have kp : ∀ i v, W.cell? ⟨g, i, none⟩ = some v → W'.cell? ⟨g, i, none⟩ = some v := fun i v h => (hb.cell (p := ⟨g, i, none⟩) (by simp; omega)).trans h
  exact ⟨kp _ _ c0, kp _ _ c1, kp _ _ c2, kp _ _ c3⟩
theorem obk_range {H : Type} (f : Nat → Oc) (D : Nat → DataW H) : ∀ n, (∀ i, i < n → (f i).p.size + 1 ≤ Rows.uptoBulk (D i)) → ∀ k, k ≤ n → obk ((List.range k).map f) ≤ Rows.uptoBulkAll ((List.range k).map D) := by
  intro n h k hk
  have ea : ∀ a b : List Oc, obk (a ++ b) = obk a + obk b := fun a b => by
    induction a with
    | nil => simp [obk]
    | cons x a ih => simp only [List.cons_append, obk, ih]; omega
  have ba : ∀ a b : List (DataW H), Rows.uptoBulkAll (a ++ b) = Rows.uptoBulkAll a + Rows.uptoBulkAll b := fun a b => by
    induction a with
    | nil => simp [Rows.uptoBulkAll]
    | cons x a ih => simp only [List.cons_append, Rows.uptoBulkAll, ih]; omega
  induction k with
  | zero => simp [obk]
  | succ k ih =>
    rw [List.range_succ, List.map_append, List.map_append, ea, ba]
    have := ih (by omega)
    have := h k (by omega)
    simp only [List.map_cons, List.map_nil, obk, Rows.uptoBulkAll]
    omega
set_option maxRecDepth 100000 in
/-- one element's cells, read as a call -/
theorem oc_open {H : Type} {enc : TypeId × Value → H} {W : World} {base : Nat} {sp : Nat → Bool} {hd : Bool} {n : Nat} {cs : List Value} {d : DataW H × List MemPlace} {f0 f1 f2 f3 : Field}
    (hs : Tryz.prog.underlying 55 = some (.struct #[f0, f1, f2, f3])) (o0 : f0.offset = 0) (o1 : f1.offset = 1) (o2 : f2.offset = 2) (o3 : f3.offset = 3)
    (t0 : f0.type = 3) (t1 : f1.type = 3) (t2 : f2.type = 3) (t3 : f3.type = 9) (hl : cs.length = 4)
    (h : DataW.trod enc Tryz.prog W base sp hd n 55 cs = some d) :
    ∃ x : Oc, cs = ocs x ∧ x.p.size + 1 ≤ Rows.uptoBulk d.1 ∧ x.fit := by
  obtain ⟨xs, k, hk, hxy, _, hxl, hf⟩ := DataW.trod_struct hs h
  have c3 : Tryz.prog.cellsOf 3 = 1 := by kernel_rfl
  have c9 : Tryz.prog.cellsOf 9 = 1 := by kernel_rfl
  match xs, hxl, cs, hl with
  | [y0, y1, y2, y3], _, [v0, v1, v2, v3], _ =>
    have g0 := hf 0 f0 rfl
    have g1 := hf 1 f1 rfl
    have g2 := hf 2 f2 rfl
    have g3 := hf 3 f3 rfl
    simp [o0, t0, c3] at g0
    simp [o1, t1, c3] at g1
    simp [o2, t2, c3] at g2
    simp [o3, t3, c9] at g3
    obtain ⟨k0, e0, _, b0⟩ := DataW.trod_int Tryz.underlying3 g0
    obtain ⟨k1, e1, _, b1⟩ := DataW.trod_int Tryz.underlying3 g1
    obtain ⟨k2, e2, _, b2⟩ := DataW.trod_int Tryz.underlying3 g2
    obtain ⟨s3, e3, q3, _⟩ := DataW.trod_string Tryz.underlying9 g3
    simp at e0 e1 e2 e3
    subst e0 e1 e2 e3
    have hd1 : d.1 = .agg [y0.1, y1.1, y2.1, y3.1] := congrArg Prod.fst hxy
    refine ⟨⟨k0, k1, k2, s3⟩, rfl, ?_, bounds_i64 b0, bounds_i64 b1, bounds_i64 b2⟩
    have q4 : y3.1 = .lit (.string s3.data.toList) := congrArg Prod.fst q3
    rw [hd1]
    simp only [Rows.uptoBulk, Rows.uptoBulkAll, q4]
    rw [Lib.size_eq]
    omega
theorem ocs_of {H : Type} {enc : TypeId × Value → H} {W : World} {base : Nat} {sp : Nat → Bool} {hd : Bool} {fuel : Nat} {a : Option Addr} {len cap : Nat} {d : DataW H} {p : List MemPlace}
    (h : DataW.trod enc Tryz.prog W base sp hd fuel 42 [.slice a len cap] = some (d, p)) :
    ∃ l : List Oc, RdC W (.slice a len cap) l ∧ (obk l ≤ Rows.uptoBulk d ∧ ∀ x ∈ l, x.fit) := by
  rcases open_slice Tryz.underlying42 h with ⟨hcs, _⟩ | ⟨x, l, c, m, n, D, Pl, hcs, _, hl, hm, hmm, hx, hcell⟩
  · simp at hcs
    obtain ⟨rfl, rfl, rfl⟩ := hcs
    exact ⟨[], ⟨none, 0, rfl, fun h => absurd rfl h⟩, Nat.zero_le _, fun x h => by cases h⟩
  · simp at hcs
    obtain ⟨rfl, rfl, rfl⟩ := hcs
    have hlm : len ≤ m := by rw [hmm]; split <;> omega
    have ce : Tryz.prog.cellsOf 55 = 4 := by kernel_rfl
    have each : ∀ i, i < len → ∃ y : Oc, (∀ j, j < 4 → W.cell? (x.add (i * 4 + j)) = (ocs y)[j]?) ∧ y.p.size + 1 ≤ Rows.uptoBulk (D i) ∧ y.fit := fun i hi => by
      obtain ⟨cs', h1, h2⟩ := hcell i (by omega)
      rw [ce] at h1
      obtain ⟨_, hlen, hc⟩ := World.cells?_some h1
      obtain ⟨y, hy, hy2⟩ := oc_open Tryz.underlying55 rfl rfl rfl rfl rfl rfl rfl rfl hlen h2
      refine ⟨y, fun j hj => ?_, hy2⟩
      have := hc j hj
      rw [add_add, hy] at this
      exact this
    have : Inhabited Oc := ⟨⟨0, 0, 0, ByteArray.empty⟩⟩
    obtain ⟨f, hf⟩ := choose_lt each
    have hd : d = .slice ((List.range len).map D) ((List.range (m - len)).map fun j => D (len + j)) := congrArg Prod.fst hx
    refine ⟨(List.range len).map f, ⟨some x, cap, by simp, fun h0 => ?_⟩, ?_, fun y hy => ?_⟩
    · have hpos : 0 < len := by
        rcases Nat.eq_zero_or_pos len with e | e
        · rw [e] at h0; exact absurd rfl h0
        · exact e
      obtain ⟨b, off, spot⟩ := x
      have h00 := (hf 0 hpos).1 0 (by omega)
      have h00' : W.cell? (Addr.add ⟨b, off, spot⟩ (0 * 4 + 0)) = some (.int .i64 (f 0).kd) := h00
      have hspot : spot = none := by simpa [Addr.add] using World.cell?_spot h00'
      subst hspot
      refine ⟨b, off, rfl, ?_, fun k y hk => ?_⟩
      · rw [Go.WideShapes.add_plain] at h00'
        unfold World.cell? at h00'
        cases ho : W.heap[b]? with
        | none => simp [ho] at h00'
        | some o => exact (Array.getElem?_eq_some_iff.1 ho).1
      · have hkl : k < len := by have := (List.getElem?_eq_some_iff.1 hk).1; simpa using this
        have hy : y = f k := by
          rw [List.getElem?_map, List.getElem?_range hkl] at hk
          simpa using hk.symm
        subst hy
        have at' : ∀ j, j < 4 → W.cell? ⟨b, off + k * 4 + j, none⟩ = (ocs (f k))[j]? := fun j hj => by
          have := (hf k hkl).1 j hj
          rw [Go.WideShapes.add_plain, ← Nat.add_assoc] at this
          exact this
        exact ⟨at' 0 (by omega), at' 1 (by omega), at' 2 (by omega), at' 3 (by omega)⟩
    · rw [hd]
      have := obk_range f D len (fun i hi => (hf i hi).2.1) len (Nat.le_refl _)
      simp only [Rows.uptoBulk]
      omega
    · obtain ⟨i, hi, rfl⟩ := List.mem_map.1 hy
      exact (hf i (List.mem_range.1 hi)).2.2
end Go.Proofs.YtffipfmnpffdaaaGreatDoor.Sto
namespace Go.Proofs.YtffipfmnpffdaaaGreatDoor.Sto
open Go.RowKit Go.Shelf Bod Wid
open Gap (Gp lim)

theorem box5 {W : World} {b : Nat} {v0 v1 v2 v3 v4 : Value} {t : TypeId} (h : W.heap[b]? = some (.cells #[v0, v1, v2, v3, v4] t (0, 0))) : W.cell? ⟨b, 0, none⟩ = some v0 ∧ W.cell? ⟨b, 1, none⟩ = some v1 ∧ W.cell? ⟨b, 2, none⟩ = some v2 ∧ W.cell? ⟨b, 3, none⟩ = some v3 ∧ W.cell? ⟨b, 4, none⟩ = some v4 := by
  refine ⟨?_, ?_, ?_, ?_, ?_⟩ <;> (unfold World.cell?; rw [h]; rfl)
/-- the backend of a new store -/
def nwB (kind lo hi : Int) (l z : Nat) : Int := if kind = 2 ∨ misK none (nwK kind lo hi l) z then 2 else 1
end Go.Proofs.YtffipfmnpffdaaaGreatDoor.Sto
namespace Go.Proofs.YtffipfmnpffdaaaGreatDoor.Sto
open Go.RowKit Go.Shelf Bod Wid
open Gap (Gp Is gSlice gRng ext_all)

end Go.Proofs.YtffipfmnpffdaaaGreatDoor.Sto
