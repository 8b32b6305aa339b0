/-
  A slice of summaries, as an argument: how it reads. No program is walked in this text; no conditions.
-/
import Derived.Test.YtdfemihjnempfabDoorMCon
import Derived.Deep.Slices
import Derived.ProofKit
import Derived.SizedLaws
namespace Go.Proofs.YtdfemihjnempfabDoor
open Go.ChangeShapes Go.WideShapes Go.ChangeAt Go.RowKit Go.Deep

theorem bulk_mem {H : Type} : ∀ {ds : List (DataW H)} {d : DataW H}, d ∈ ds → Rows.uptoBulk d ≤ Rows.uptoBulkAll ds
  | [], _, h => by cases h
  | x :: r, d, h => by
    simp only [Rows.uptoBulkAll]
    rcases List.mem_cons.1 h with rfl | h
    · omega
    · have := bulk_mem h; omega
theorem bulk_len {H : Type} : ∀ {ds : List (DataW H)}, (∀ d ∈ ds, 1 ≤ Rows.uptoBulk d) → ds.length ≤ Rows.uptoBulkAll ds
  | [], _ => by simp
  | x :: r, h => by
    have h1 := h x (by simp)
    have h2 := bulk_len (ds := r) (fun d hd => h d (by simp [hd]))
    simp only [Rows.uptoBulkAll, List.length_cons]
    omega
/-- one element's cells, read as a summary -/
theorem sum_open {H : Type} {enc : TypeId × Value → H} {W : World} {base : Nat} {sp : Nat → Bool} {hd : Bool} {n : Nat} {cs : List Value} {d : DataW H × List MemPlace} {f0 f1 f2 f3 f4 f5 f6 : Field}
    (hs : Tryd.prog.underlying 24 = some (.struct #[f0, f1, f2, f3, f4, f5, f6])) (o0 : f0.offset = 0) (o1 : f1.offset = 1) (o2 : f2.offset = 2) (o3 : f3.offset = 3) (o4 : f4.offset = 4) (o5 : f5.offset = 5) (o6 : f6.offset = 6)
    (t0 : f0.type = 3) (t1 : f1.type = 3) (t2 : f2.type = 3) (t3 : f3.type = 3) (t4 : f4.type = 3) (t5 : f5.type = 9) (t6 : f6.type = 9) (hl : cs.length = 7)
    (h : DataW.trod enc Tryd.prog W base sp hd n 24 cs = some d) :
    ∃ x : Sum, cs = (scs x).toList ∧ x.hd.size ≤ Rows.uptoBulk d.1 ∧ x.tl.size ≤ Rows.uptoBulk d.1 ∧ 1 ≤ Rows.uptoBulk d.1 := by
  obtain ⟨xs, k, hk, hxy, _, hxl, hf⟩ := DataW.trod_struct hs h
  have c3 : Tryd.prog.cellsOf 3 = 1 := by kernel_rfl
  have c9 : Tryd.prog.cellsOf 9 = 1 := by kernel_rfl
  match xs, hxl, cs, hl with
  | [y0, y1, y2, y3, y4, y5, y6], _, [v0, v1, v2, v3, v4, v5, v6], _ =>
    have g0 := hf 0 f0 rfl
    have g1 := hf 1 f1 rfl
    have g2 := hf 2 f2 rfl
    have g3 := hf 3 f3 rfl
    have g4 := hf 4 f4 rfl
    have g5 := hf 5 f5 rfl
    have g6 := hf 6 f6 rfl
    simp [o0, t0, c3] at g0
    simp [o1, t1, c3] at g1
    simp [o2, t2, c3] at g2
    simp [o3, t3, c3] at g3
    simp [o4, t4, c3] at g4
    simp [o5, t5, c9] at g5
    simp [o6, t6, c9] at g6
    obtain ⟨k0, e0, _, _⟩ := DataW.trod_int Tryd.underlying3 g0
    obtain ⟨k1, e1, _, _⟩ := DataW.trod_int Tryd.underlying3 g1
    obtain ⟨k2, e2, _, _⟩ := DataW.trod_int Tryd.underlying3 g2
    obtain ⟨k3, e3, _, _⟩ := DataW.trod_int Tryd.underlying3 g3
    obtain ⟨k4, e4, _, _⟩ := DataW.trod_int Tryd.underlying3 g4
    obtain ⟨s5, e5, q5, _⟩ := DataW.trod_string Tryd.underlying9 g5
    obtain ⟨s6, e6, q6, _⟩ := DataW.trod_string Tryd.underlying9 g6
    simp at e0 e1 e2 e3 e4 e5 e6
    subst e0 e1 e2 e3 e4 e5 e6
    refine ⟨⟨k0, k1, k2, k3, k4, s5, s6⟩, rfl, ?_, ?_, ?_⟩
    · have hd1 : d.1 = .agg [y0.1, y1.1, y2.1, y3.1, y4.1, y5.1, y6.1] := congrArg Prod.fst hxy
      rw [hd1, q5]
      simp only [Rows.uptoBulk, Rows.uptoBulkAll]
      rw [Lib.size_eq]
      omega
    · have hd1 : d.1 = .agg [y0.1, y1.1, y2.1, y3.1, y4.1, y5.1, y6.1] := congrArg Prod.fst hxy
      rw [hd1, q6]
      simp only [Rows.uptoBulk, Rows.uptoBulkAll]
      rw [Lib.size_eq]
      omega
    · have hd1 : d.1 = .agg [y0.1, y1.1, y2.1, y3.1, y4.1, y5.1, y6.1] := congrArg Prod.fst hxy
      rw [hd1]
      simp only [Rows.uptoBulk]
      omega
theorem sums_of {H : Type} {enc : TypeId × Value → H} {W : World} {base : Nat} {sp : Nat → Bool} {hd : Bool} {fuel : Nat} {a : Option Addr} {len cap : Nat} {d : DataW H} {p : List MemPlace}
    (h : DataW.trod enc Tryd.prog W base sp hd fuel 28 [.slice a len cap] = some (d, p)) :
    ∃ l : List Sum, RdM W (.slice a len cap) l ∧ (l.length ≤ Rows.uptoBulk d ∧ ∀ x ∈ l, Ends (Rows.uptoBulk d) x) := by
  rcases open_slice Tryd.underlying28 h with ⟨hcs, _⟩ | ⟨x, l, c, m, n, D, Pl, hcs, _, hl, hm, hmm, hx, hcell⟩
  · simp at hcs
    obtain ⟨rfl, rfl, rfl⟩ := hcs
    exact ⟨[], ⟨none, 0, rfl, fun h => absurd rfl h⟩, Nat.zero_le _, fun x h => by cases h⟩
  · simp at hcs
    obtain ⟨rfl, rfl, rfl⟩ := hcs
    have hlm : len ≤ m := by rw [hmm]; split <;> omega
    have ce : Tryd.prog.cellsOf 24 = 7 := by kernel_rfl
    have each : ∀ i, i < len → ∃ y : Sum, (∀ j, j < 7 → W.cell? (x.add (i * 7 + j)) = (scs y).toList[j]?) ∧ y.hd.size ≤ Rows.uptoBulk (D i) ∧ y.tl.size ≤ Rows.uptoBulk (D i) ∧ 1 ≤ Rows.uptoBulk (D i) := fun i hi => by
      obtain ⟨cs', h1, h2⟩ := hcell i (by omega)
      rw [ce] at h1
      obtain ⟨_, hlen, hc⟩ := World.cells?_some h1
      obtain ⟨y, hy, hy2⟩ := sum_open Tryd.underlying24 rfl rfl rfl rfl rfl rfl rfl rfl rfl rfl rfl rfl rfl rfl hlen h2
      refine ⟨y, fun j hj => ?_, hy2⟩
      have := hc j hj
      rw [add_add, hy] at this
      exact this
    have : Inhabited Sum := ⟨sm0⟩
    obtain ⟨f, hf⟩ := choose_lt each
    have hd : d = .slice ((List.range len).map D) ((List.range (m - len)).map fun j => D (len + j)) := congrArg Prod.fst hx
    refine ⟨(List.range len).map f, ⟨some x, cap, by simp, fun h0 => ?_⟩, ?_, fun y hy => ?_⟩
    · have hpos : 0 < len := by
        rcases Nat.eq_zero_or_pos len with e | e
        · rw [e] at h0; exact absurd rfl h0
        · exact e
      obtain ⟨b, off, spot⟩ := x
      have h00 := (hf 0 hpos).1 0 (by omega)
      have h00' : W.cell? (Addr.add ⟨b, off, spot⟩ (0 * 7 + 0)) = some (.int .i64 (f 0).by') := h00
      have hspot : spot = none := by simpa [Addr.add] using World.cell?_spot h00'
      subst hspot
      refine ⟨b, off, rfl, ?_, fun k y hk => ?_⟩
      · rw [Go.WideShapes.add_plain] at h00'
        unfold World.cell? at h00'
        cases ho : W.heap[b]? with
        | none => simp [ho] at h00'
        | some o => exact (Array.getElem?_eq_some_iff.1 ho).1
      · have hkl : k < len := by have := (List.getElem?_eq_some_iff.1 hk).1; simpa using this
        have hy : y = f k := by
          rw [List.getElem?_map, List.getElem?_range hkl] at hk
          simpa using hk.symm
        subst hy
        have at' : ∀ j, j < 7 → W.cell? ⟨b, off + k * 7 + j, none⟩ = (scs (f k)).toList[j]? := fun j hj => by
          have := (hf k hkl).1 j hj
          rw [Go.WideShapes.add_plain, ← Nat.add_assoc] at this
          exact this
        exact ⟨at' 0 (by omega), at' 1 (by omega), at' 2 (by omega), at' 3 (by omega), at' 4 (by omega), at' 5 (by omega), at' 6 (by omega)⟩
    · rw [hd]
      have := bulk_len (ds := (List.range len).map D) (fun d hd => by
        obtain ⟨i, hi, rfl⟩ := List.mem_map.1 hd
        exact (hf i (List.mem_range.1 hi)).2.2.2)
      simp only [List.length_map, List.length_range] at this
      simp only [Rows.uptoBulk, List.length_map, List.length_range]
      omega
    · obtain ⟨i, hi, rfl⟩ := List.mem_map.1 hy
      obtain ⟨_, e1, e2, _⟩ := hf i (List.mem_range.1 hi)
      have := bulk_mem (ds := (List.range len).map D) (d := D i) (List.mem_map.2 ⟨i, hi, rfl⟩)
      have hb : Rows.uptoBulk (D i) ≤ Rows.uptoBulk d := by rw [hd]; simp only [Rows.uptoBulk]; omega
      exact ⟨Nat.le_trans e1 hb, Nat.le_trans e2 hb⟩
theorem weights_mem {H : Type} {P : Program} {e : TypeId} : ∀ {ds : List (DataW H)} {d : DataW H}, d ∈ ds → ∀ n ∈ d.weights P e, n ∈ DataW.weightsAll P e ds
  | [], _, h => by cases h
  | x :: r, d, h => fun n hn => by
    simp only [DataW.weightsAll, List.mem_append]
    rcases List.mem_cons.1 h with rfl | h
    · exact .inl hn
    · exact .inr (weights_mem h n hn)
/-- one element's cells, read as a summary: its texts are among what it weighs -/
theorem sum_openW {H : Type} {enc : TypeId × Value → H} {W : World} {base : Nat} {sp : Nat → Bool} {hd : Bool} {n : Nat} {cs : List Value} {d : DataW H × List MemPlace} {f0 f1 f2 f3 f4 f5 f6 : Field}
    (hs : Tryd.prog.underlying 24 = some (.struct #[f0, f1, f2, f3, f4, f5, f6])) (o0 : f0.offset = 0) (o1 : f1.offset = 1) (o2 : f2.offset = 2) (o3 : f3.offset = 3) (o4 : f4.offset = 4) (o5 : f5.offset = 5) (o6 : f6.offset = 6)
    (t0 : f0.type = 3) (t1 : f1.type = 3) (t2 : f2.type = 3) (t3 : f3.type = 3) (t4 : f4.type = 3) (t5 : f5.type = 9) (t6 : f6.type = 9) (hl : cs.length = 7)
    (h : DataW.trod enc Tryd.prog W base sp hd n 24 cs = some d) :
    ∃ x : Sum, cs = (scs x).toList ∧ x.hd.size ∈ d.1.weights Tryd.prog 24 ∧ x.tl.size ∈ d.1.weights Tryd.prog 24 := by
  obtain ⟨xs, k, hk, hxy, _, hxl, hf⟩ := DataW.trod_struct hs h
  have c3 : Tryd.prog.cellsOf 3 = 1 := by kernel_rfl
  have c9 : Tryd.prog.cellsOf 9 = 1 := by kernel_rfl
  match xs, hxl, cs, hl with
  | [y0, y1, y2, y3, y4, y5, y6], _, [v0, v1, v2, v3, v4, v5, v6], _ =>
    have g0 := hf 0 f0 rfl
    have g1 := hf 1 f1 rfl
    have g2 := hf 2 f2 rfl
    have g3 := hf 3 f3 rfl
    have g4 := hf 4 f4 rfl
    have g5 := hf 5 f5 rfl
    have g6 := hf 6 f6 rfl
    simp [o0, t0, c3] at g0
    simp [o1, t1, c3] at g1
    simp [o2, t2, c3] at g2
    simp [o3, t3, c3] at g3
    simp [o4, t4, c3] at g4
    simp [o5, t5, c9] at g5
    simp [o6, t6, c9] at g6
    obtain ⟨k0, e0, _, _⟩ := DataW.trod_int Tryd.underlying3 g0
    obtain ⟨k1, e1, _, _⟩ := DataW.trod_int Tryd.underlying3 g1
    obtain ⟨k2, e2, _, _⟩ := DataW.trod_int Tryd.underlying3 g2
    obtain ⟨k3, e3, _, _⟩ := DataW.trod_int Tryd.underlying3 g3
    obtain ⟨k4, e4, _, _⟩ := DataW.trod_int Tryd.underlying3 g4
    obtain ⟨s5, e5, q5, _⟩ := DataW.trod_string Tryd.underlying9 g5
    obtain ⟨s6, e6, q6, _⟩ := DataW.trod_string Tryd.underlying9 g6
    simp at e0 e1 e2 e3 e4 e5 e6
    subst e0 e1 e2 e3 e4 e5 e6
    have hd1 : d.1 = .agg [y0.1, y1.1, y2.1, y3.1, y4.1, y5.1, y6.1] := congrArg Prod.fst hxy
    have hw : d.1.weights Tryd.prog 24 = DataW.weightsEach Tryd.prog [3, 3, 3, 3, 3, 9, 9] [y0.1, y1.1, y2.1, y3.1, y4.1, y5.1, y6.1] := by
      rw [hd1]
      simp only [DataW.weights, hs, List.map_cons, List.map_nil, t0, t1, t2, t3, t4, t5, t6]
    refine ⟨⟨k0, k1, k2, k3, k4, s5, s6⟩, rfl, ?_, ?_⟩
    · rw [hw]
      simp [DataW.weightsEach, q5, DataW.weights]
    · rw [hw]
      simp [DataW.weightsEach, q6, DataW.weights]
theorem sums_ofW {H : Type} {enc : TypeId × Value → H} {W : World} {base : Nat} {sp : Nat → Bool} {hd : Bool} {fuel : Nat} {a : Option Addr} {len cap : Nat} {d : DataW H} {p : List MemPlace}
    (h : DataW.trod enc Tryd.prog W base sp hd fuel 28 [.slice a len cap] = some (d, p)) (hw : ∀ n ∈ d.weights Tryd.prog 28, n ≤ 140737488351232) :
    ∃ l : List Sum, RdM W (.slice a len cap) l ∧ (l.length ≤ 4398046511000 ∧ ∀ x ∈ l, Ends 140737488351232 x) := by
  rcases open_slice Tryd.underlying28 h with ⟨hcs, _⟩ | ⟨x, l, c, m, n, D, Pl, hcs, _, hl, hm, hmm, hx, hcell⟩
  · simp at hcs
    obtain ⟨rfl, rfl, rfl⟩ := hcs
    exact ⟨[], ⟨none, 0, rfl, fun h => absurd rfl h⟩, Nat.zero_le _, fun x h => by cases h⟩
  · simp at hcs
    obtain ⟨rfl, rfl, rfl⟩ := hcs
    have hlm : len ≤ m := by rw [hmm]; split <;> omega
    have ce : Tryd.prog.cellsOf 24 = 7 := by kernel_rfl
    have be : Tryd.prog.bytesOf 24 = 72 := by kernel_rfl
    have each : ∀ i, i < len → ∃ y : Sum, (∀ j, j < 7 → W.cell? (x.add (i * 7 + j)) = (scs y).toList[j]?) ∧ y.hd.size ∈ (D i).weights Tryd.prog 24 ∧ y.tl.size ∈ (D i).weights Tryd.prog 24 := fun i hi => by
      obtain ⟨cs', h1, h2⟩ := hcell i (by omega)
      rw [ce] at h1
      obtain ⟨_, hlen, hc⟩ := World.cells?_some h1
      obtain ⟨y, hy, hy2⟩ := sum_openW Tryd.underlying24 rfl rfl rfl rfl rfl rfl rfl rfl rfl rfl rfl rfl rfl rfl hlen h2
      refine ⟨y, fun j hj => ?_, hy2⟩
      have := hc j hj
      rw [add_add, hy] at this
      exact this
    have : Inhabited Sum := ⟨sm0⟩
    obtain ⟨f, hf⟩ := choose_lt each
    have hd : d = .slice ((List.range len).map D) ((List.range (m - len)).map fun j => D (len + j)) := congrArg Prod.fst hx
    have hwd : d.weights Tryd.prog 28 = (((List.range len).map D).length + ((List.range (m - len)).map fun j => D (len + j)).length) * 72 :: (DataW.weightsAll Tryd.prog 24 ((List.range len).map D) ++ DataW.weightsAll Tryd.prog 24 ((List.range (m - len)).map fun j => D (len + j))) := by
      rw [hd]
      simp only [DataW.weights, Tryd.underlying28, be]
    refine ⟨(List.range len).map f, ⟨some x, cap, by simp, fun h0 => ?_⟩, ?_, fun y hy => ?_⟩
    · have hpos : 0 < len := by
        rcases Nat.eq_zero_or_pos len with e | e
        · rw [e] at h0; exact absurd rfl h0
        · exact e
      obtain ⟨b, off, spot⟩ := x
      have h00 := (hf 0 hpos).1 0 (by omega)
      have h00' : W.cell? (Addr.add ⟨b, off, spot⟩ (0 * 7 + 0)) = some (.int .i64 (f 0).by') := h00
      have hspot : spot = none := by simpa [Addr.add] using World.cell?_spot h00'
      subst hspot
      refine ⟨b, off, rfl, ?_, fun k y hk => ?_⟩
      · rw [Go.WideShapes.add_plain] at h00'
        unfold World.cell? at h00'
        cases ho : W.heap[b]? with
        | none => simp [ho] at h00'
        | some o => exact (Array.getElem?_eq_some_iff.1 ho).1
      · have hkl : k < len := by have := (List.getElem?_eq_some_iff.1 hk).1; simpa using this
        have hy : y = f k := by
          rw [List.getElem?_map, List.getElem?_range hkl] at hk
          simpa using hk.symm
        subst hy
        have at' : ∀ j, j < 7 → W.cell? ⟨b, off + k * 7 + j, none⟩ = (scs (f k)).toList[j]? := fun j hj => by
          have := (hf k hkl).1 j hj
          rw [Go.WideShapes.add_plain, ← Nat.add_assoc] at this
          exact this
        exact ⟨at' 0 (by omega), at' 1 (by omega), at' 2 (by omega), at' 3 (by omega), at' 4 (by omega), at' 5 (by omega), at' 6 (by omega)⟩
    · have := hw _ (by rw [hwd]; exact .head _)
      simp only [List.length_map, List.length_range] at this ⊢
      omega
    · obtain ⟨i, hi, rfl⟩ := List.mem_map.1 hy
      obtain ⟨_, e1, e2⟩ := hf i (List.mem_range.1 hi)
      have hin : ∀ n ∈ (D i).weights Tryd.prog 24, n ≤ 140737488351232 := fun n hn => hw n (by
        rw [hwd]
        exact .tail _ (List.mem_append.2 (.inl (weights_mem (List.mem_map.2 ⟨i, hi, rfl⟩) n hn))))
      exact ⟨hin _ e1, hin _ e2⟩
end Go.Proofs.YtdfemihjnempfabDoor
