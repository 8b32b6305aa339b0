/-
  A slice of calls (three numbers and a text each) and a start (a text and a number), as arguments: how they read. No program is walked in this text; no conditions.
-/
import Derived.Test.YtgagpmeknpjkpaaGreatDoorKBase
import Derived.Deep.Slices
import Derived.Lib.SmallJoins
import Derived.OpenShut
import Derived.ProofKit
import Derived.SizedLaws
namespace Go.Proofs.YtgagpmeknpjkpaaGreatDoor
open Go.ChangeShapes Go.WideShapes Go.ChangeAt Go.RowKit Go.Deep

structure Opr where
  k : Int
  a : Int
  b : Int
  s : ByteArray
/-- the numbers are of 64 bits, the text fits into memory -/
def Opr.fit (x : Opr) : Prop := (-9223372036854775808 ≤ x.k ∧ x.k ≤ 9223372036854775807) ∧ (-9223372036854775808 ≤ x.a ∧ x.a ≤ 9223372036854775807) ∧ (-9223372036854775808 ≤ x.b ∧ x.b ≤ 9223372036854775807) ∧ x.s.size ≤ 140737488351232
def ocs (x : Opr) : List Value := [.int .i64 x.k, .int .i64 x.a, .int .i64 x.b, .string x.s]
/-- the call as a value -/
def ov (x : Opr) : Value := .agg #[.int .i64 x.k, .int .i64 x.a, .int .i64 x.b, .string x.s]
/-- a slice that reads as calls -/
def RdO (W : World) (v : Value) (l : List Opr) : Prop :=
  ∃ a cap, v = .slice a l.length cap ∧ (l ≠ [] → ∃ g o, a = some ⟨g, o, none⟩ ∧ g < W.heap.size ∧ ∀ k x, l[k]? = some x →
    W.cell? ⟨g, o + k * 4, none⟩ = some (.int .i64 x.k) ∧ W.cell? ⟨g, o + k * 4 + 1, none⟩ = some (.int .i64 x.a) ∧ W.cell? ⟨g, o + k * 4 + 2, none⟩ = some (.int .i64 x.b) ∧ W.cell? ⟨g, o + k * 4 + 3, none⟩ = some (.string x.s))
theorem RdO.below {W W' : World} {n : Nat} {v : Value} {l : List Opr} (h : RdO W v l) (hn : W.heap.size ≤ n) (hb : Below n W W') : RdO W' v l := by
  obtain ⟨a, cap, e, h⟩ := h
  refine ⟨a, cap, e, fun h0 => ?_⟩
  obtain ⟨g, o, e, hg, hc⟩ := h h0
  refine ⟨g, o, e, by have := hb.size; omega, fun k x hk => ?_⟩
  obtain ⟨c0, c1, c2, c3⟩ := hc k x hk
  have kp : ∀ i v, W.cell? ⟨g, i, none⟩ = some v → W'.cell? ⟨g, i, none⟩ = some v := fun i v h => (hb.cell (p := ⟨g, i, none⟩) (by simp; omega)).trans h
  exact ⟨kp _ _ c0, kp _ _ c1, kp _ _ c2, kp _ _ c3⟩
theorem weightsO_mem {H : Type} {P : Program} {e : TypeId} : ∀ {ds : List (DataW H)} {d : DataW H}, d ∈ ds → ∀ n ∈ d.weights P e, n ∈ DataW.weightsAll P e ds
  | [], _, h => by cases h
  | x :: r, d, h => fun n hn => by
    simp only [DataW.weightsAll, List.mem_append]
    rcases List.mem_cons.1 h with rfl | h
    · exact .inl hn
    · exact .inr (weightsO_mem h n hn)
set_option maxRecDepth 100000 in
/-- one element's cells, read as a call: its text is among what it weighs -/
theorem op_openW {H : Type} {enc : TypeId × Value → H} {W : World} {base : Nat} {sp : Nat → Bool} {hd : Bool} {n : Nat} {cs : List Value} {d : DataW H × List MemPlace} {f0 f1 f2 f3 : Field}
    (hs : Tryz.prog.underlying 45 = some (.struct #[f0, f1, f2, f3])) (o0 : f0.offset = 0) (o1 : f1.offset = 1) (o2 : f2.offset = 2) (o3 : f3.offset = 3)
    (t0 : f0.type = 3) (t1 : f1.type = 3) (t2 : f2.type = 3) (t3 : f3.type = 9) (hl : cs.length = 4)
    (h : DataW.trod enc Tryz.prog W base sp hd n 45 cs = some d) :
    ∃ x : Opr, cs = ocs x ∧ x.s.size ∈ d.1.weights Tryz.prog 45 ∧ (-9223372036854775808 ≤ x.k ∧ x.k ≤ 9223372036854775807) ∧ (-9223372036854775808 ≤ x.a ∧ x.a ≤ 9223372036854775807) ∧ (-9223372036854775808 ≤ x.b ∧ x.b ≤ 9223372036854775807) := by
  obtain ⟨xs, k, hk, hxy, _, hxl, hf⟩ := DataW.trod_struct hs h
  have c3 : Tryz.prog.cellsOf 3 = 1 := by kernel_rfl
  have c9 : Tryz.prog.cellsOf 9 = 1 := by kernel_rfl
  match xs, hxl, cs, hl with
  | [y0, y1, y2, y3], _, [v0, v1, v2, v3], _ =>
    have g0 := hf 0 f0 rfl
    have g1 := hf 1 f1 rfl
    have g2 := hf 2 f2 rfl
    have g3 := hf 3 f3 rfl
    simp [o0, t0, c3] at g0
    simp [o1, t1, c3] at g1
    simp [o2, t2, c3] at g2
    simp [o3, t3, c9] at g3
    obtain ⟨k0, e0, _, b0⟩ := DataW.trod_int Tryz.underlying3 g0
    obtain ⟨k1, e1, _, b1⟩ := DataW.trod_int Tryz.underlying3 g1
    obtain ⟨k2, e2, _, b2⟩ := DataW.trod_int Tryz.underlying3 g2
    obtain ⟨s3, e3, q3, _⟩ := DataW.trod_string Tryz.underlying9 g3
    simp at e0 e1 e2 e3
    subst e0 e1 e2 e3
    have hd1 : d.1 = .agg [y0.1, y1.1, y2.1, y3.1] := congrArg Prod.fst hxy
    have hw : d.1.weights Tryz.prog 45 = DataW.weightsEach Tryz.prog [3, 3, 3, 9] [y0.1, y1.1, y2.1, y3.1] := by
      rw [hd1]
      simp only [DataW.weights, hs, List.map_cons, List.map_nil, t0, t1, t2, t3]
    refine ⟨⟨k0, k1, k2, s3⟩, rfl, ?_, bounds_i64 b0, bounds_i64 b1, bounds_i64 b2⟩
    rw [hw]
    simp [DataW.weightsEach, q3, DataW.weights]
theorem ops_ofW {H : Type} {enc : TypeId × Value → H} {W : World} {base : Nat} {sp : Nat → Bool} {hd : Bool} {fuel : Nat} {a : Option Addr} {len cap : Nat} {d : DataW H} {p : List MemPlace}
    (h : DataW.trod enc Tryz.prog W base sp hd fuel 24 [.slice a len cap] = some (d, p)) (hw : ∀ n ∈ d.weights Tryz.prog 24, n ≤ 140737488351232) :
    ∃ l : List Opr, RdO W (.slice a len cap) l ∧ (l.length ≤ 140737488351232 ∧ ∀ x ∈ l, x.fit) := by
  rcases open_slice Tryz.underlying24 h with ⟨hcs, _⟩ | ⟨x, l, c, m, n, D, Pl, hcs, _, hl, hm, hmm, hx, hcell⟩
  · simp at hcs
    obtain ⟨rfl, rfl, rfl⟩ := hcs
    exact ⟨[], ⟨none, 0, rfl, fun h => absurd rfl h⟩, Nat.zero_le _, fun x h => by cases h⟩
  · simp at hcs
    obtain ⟨rfl, rfl, rfl⟩ := hcs
    have hlm : len ≤ m := by rw [hmm]; split <;> omega
    have ce : Tryz.prog.cellsOf 45 = 4 := by kernel_rfl
    have be : Tryz.prog.bytesOf 45 = 40 := by kernel_rfl
    have each : ∀ i, i < len → ∃ y : Opr, (∀ j, j < 4 → W.cell? (x.add (i * 4 + j)) = (ocs y)[j]?) ∧ y.s.size ∈ (D i).weights Tryz.prog 45 ∧ (-9223372036854775808 ≤ y.k ∧ y.k ≤ 9223372036854775807) ∧ (-9223372036854775808 ≤ y.a ∧ y.a ≤ 9223372036854775807) ∧ (-9223372036854775808 ≤ y.b ∧ y.b ≤ 9223372036854775807) := fun i hi => by
      obtain ⟨cs', h1, h2⟩ := hcell i (by omega)
      rw [ce] at h1
      obtain ⟨_, hlen, hc⟩ := World.cells?_some h1
      obtain ⟨y, hy, hy2⟩ := op_openW Tryz.underlying45 rfl rfl rfl rfl rfl rfl rfl rfl hlen h2
      refine ⟨y, fun j hj => ?_, hy2⟩
      have := hc j hj
      rw [add_add, hy] at this
      exact this
    have : Inhabited Opr := ⟨⟨0, 0, 0, ByteArray.empty⟩⟩
    obtain ⟨f, hf⟩ := choose_lt each
    have hd : d = .slice ((List.range len).map D) ((List.range (m - len)).map fun j => D (len + j)) := congrArg Prod.fst hx
    have hwd : d.weights Tryz.prog 24 = (((List.range len).map D).length + ((List.range (m - len)).map fun j => D (len + j)).length) * 40 :: (DataW.weightsAll Tryz.prog 45 ((List.range len).map D) ++ DataW.weightsAll Tryz.prog 45 ((List.range (m - len)).map fun j => D (len + j))) := by
      rw [hd]
      simp only [DataW.weights, Tryz.underlying24, be]
    refine ⟨(List.range len).map f, ⟨some x, cap, by simp, fun h0 => ?_⟩, ?_, fun y hy => ?_⟩
    · have hpos : 0 < len := by
        rcases Nat.eq_zero_or_pos len with e | e
        · rw [e] at h0; exact absurd rfl h0
        · exact e
      obtain ⟨b, off, spot⟩ := x
      have h00 := (hf 0 hpos).1 0 (by omega)
      have h00' : W.cell? (Addr.add ⟨b, off, spot⟩ (0 * 4 + 0)) = some (.int .i64 (f 0).k) := h00
      have hspot : spot = none := by simpa [Addr.add] using World.cell?_spot h00'
      subst hspot
      refine ⟨b, off, rfl, ?_, fun k y hk => ?_⟩
      · rw [Go.WideShapes.add_plain] at h00'
        unfold World.cell? at h00'
        cases ho : W.heap[b]? with
        | none => simp [ho] at h00'
        | some o => exact (Array.getElem?_eq_some_iff.1 ho).1
      · have hkl : k < len := by have := (List.getElem?_eq_some_iff.1 hk).1; simpa using this
        have hy : y = f k := by
          rw [List.getElem?_map, List.getElem?_range hkl] at hk
          simpa using hk.symm
        subst hy
        have at' : ∀ j, j < 4 → W.cell? ⟨b, off + k * 4 + j, none⟩ = (ocs (f k))[j]? := fun j hj => by
          have := (hf k hkl).1 j hj
          rw [Go.WideShapes.add_plain, ← Nat.add_assoc] at this
          exact this
        exact ⟨at' 0 (by omega), at' 1 (by omega), at' 2 (by omega), at' 3 (by omega)⟩
    · have := hw _ (by rw [hwd]; exact List.mem_cons_self)
      simp only [List.length_map, List.length_range] at this ⊢
      omega
    · obtain ⟨i, hi, rfl⟩ := List.mem_map.1 hy
      obtain ⟨_, e1, e2, e3, e4⟩ := hf i (List.mem_range.1 hi)
      refine ⟨e2, e3, e4, hw _ ?_⟩
      rw [hwd]
      exact List.mem_cons_of_mem _ (List.mem_append_left _ (weightsO_mem (List.mem_map.2 ⟨i, hi, rfl⟩) _ e1))
set_option maxRecDepth 100000 in
/-- a start, opened -/
theorem start_open {H : Type} {enc : TypeId × Value → H} {W : World} {base b0 : Nat} {sp : Nat → Bool} {hd : Bool} {r : Reach} {v : Value} {d : DataW H} {p : List MemPlace}
    (hv : Value.okWide Tryz.prog W r b0 23 v) (h : DataW.Trod enc Tryz.prog W base sp hd 23 v d p) : ∃ (s : ByteArray) (m : Int), v = .agg #[.string s, .int .i64 m] ∧ (-9223372036854775808 ≤ m ∧ m ≤ 9223372036854775807) := by
  obtain ⟨v0, v1, y0, y1, n, rfl, _, _, h0, h1⟩ := Go.Joins.open_agg2 Tryz.underlying23 (by kernel_rfl) (by kernel_rfl) hv h
  obtain ⟨s, e0, _⟩ := DataW.trod_string Tryz.underlying9 h0
  obtain ⟨m, e1, _, b1⟩ := DataW.trod_int Tryz.underlying3 h1
  simp at e0 e1
  subst e0 e1
  exact ⟨s, m, rfl, bounds_i64 b1⟩
end Go.Proofs.YtgagpmeknpjkpaaGreatDoor
