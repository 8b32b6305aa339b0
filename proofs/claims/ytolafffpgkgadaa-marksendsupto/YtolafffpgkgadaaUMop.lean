/-
  A slice of calls (each with its marks and deltas) and a slice of numbers, as arguments: how they read. No program is walked in this text; no conditions.
-/
import Derived.Test.YtolafffpgkgadaaUMks
import Derived.Test.YtolafffpgkgadaaEPlay
import Derived.ChangeSlices
namespace Go.Proofs.Ytolafffpgkgadaa
open Go.ChangeShapes Go.WideShapes Go.ChangeAt Go.RowKit Go.Deep

/-- a slice that reads as the numbers rs -/
def RdI (W : World) (v : Value) (rs : List Int) : Prop :=
  ∃ a cap, v = .slice a rs.length cap ∧ (rs ≠ [] → ∃ g o, a = some ⟨g, o, none⟩ ∧ g < W.heap.size ∧ ∀ (k : Nat) x, rs[k]? = some x → W.cell? ⟨g, o + k, none⟩ = some (.int .i64 x))
theorem RdI.below {W W' : World} {n : Nat} {v : Value} {l : List Int} (h : RdI W v l) (hn : W.heap.size ≤ n) (hb : Below n W W') : RdI W' v l := by
  obtain ⟨a, cap, e, h⟩ := h
  refine ⟨a, cap, e, fun h0 => ?_⟩
  obtain ⟨g, o, e, hg, hc⟩ := h h0
  exact ⟨g, o, e, by have := hb.size; omega, fun k x hk => (hb.cell (p := ⟨g, o + k, none⟩) (by simp; omega)).trans (hc k x hk)⟩
/-- a slice that reads as the calls os -/
def RdO (W : World) (v : Value) (os : List Oq) : Prop :=
  ∃ a cap, v = .slice a os.length cap ∧ (os ≠ [] → os.length ≤ cap ∧ ∃ g o, a = some ⟨g, o, none⟩ ∧ g < W.heap.size ∧ ∀ (k : Nat) (q : Oq), os[k]? = some q → ∃ ma mc da dc,
    (W.cell? ⟨g, o + k * 5, none⟩ = some (.int .u8 (q.kd : Int)) ∧ W.cell? ⟨g, o + k * 5 + 1, none⟩ = some (.int .u8 (q.nm : Int)) ∧ W.cell? ⟨g, o + k * 5 + 2, none⟩ = some (.int .i64 q.pl)
      ∧ W.cell? ⟨g, o + k * 5 + 3, none⟩ = some (.slice ma q.ms.length mc) ∧ W.cell? ⟨g, o + k * 5 + 4, none⟩ = some (.slice da q.ds.length dc)) ∧ RdK W (.slice ma q.ms.length mc) q.ms ∧ RdD W (.slice da q.ds.length dc) q.ds)
theorem RdO.below {W W' : World} {n : Nat} {v : Value} {l : List Oq} (h : RdO W v l) (hn : W.heap.size ≤ n) (hb : Below n W W') : RdO W' v l := by
  obtain ⟨a, cap, e, h⟩ := h
  refine ⟨a, cap, e, fun h0 => ?_⟩
  obtain ⟨hle, g, o, e, hg, hc⟩ := h h0
  refine ⟨hle, g, o, e, by have := hb.size; omega, fun k q hk => ?_⟩
  obtain ⟨ma, mc, da, dc, ⟨c0, c1, c2, c3, c4⟩, r1, r2⟩ := hc k q hk
  have kp : ∀ i v, W.cell? ⟨g, i, none⟩ = some v → W'.cell? ⟨g, i, none⟩ = some v := fun i v h => (hb.cell (p := ⟨g, i, none⟩) (by simp; omega)).trans h
  exact ⟨ma, mc, da, dc, ⟨kp _ _ c0, kp _ _ c1, kp _ _ c2, kp _ _ c3, kp _ _ c4⟩, r1.below hn hb, r2.below hn hb⟩
/-- all that calls hold -/
def oqs (l : List Oq) : Nat := (l.map fun o => o.bulk + 1).sum
theorem oqs_mem {l : List Oq} {o : Oq} (h : o ∈ l) : o.bulk + 1 ≤ oqs l := by
  unfold oqs
  induction l with
  | nil => cases h
  | cons x l ih =>
    rw [List.map_cons, List.sum_cons]
    rcases List.mem_cons.1 h with rfl | h
    · omega
    · have := ih h; omega
theorem oqs_len (l : List Oq) : l.length ≤ oqs l := by
  unfold oqs
  induction l with
  | nil => simp
  | cons x l ih => rw [List.map_cons, List.sum_cons, List.length_cons]; omega
theorem slice_of {H : Type} {enc : TypeId × Value → H} {W : World} {base : Nat} {sp : Nat → Bool} {hd : Bool} {fuel : Nat} {t e : TypeId} (ht : Try.prog.underlying t = some (.slice e)) {v : Value} {d : DataW H × List MemPlace}
    (h : DataW.trod enc Try.prog W base sp hd fuel t [v] = some d) : ∃ a len cap, v = .slice a len cap := by
  rcases open_slice ht h with ⟨hcs, _⟩ | ⟨x, l, c, m, n, D, Pl, hcs, _⟩
  · simp at hcs; exact ⟨_, _, _, hcs⟩
  · simp at hcs; exact ⟨_, _, _, hcs⟩
set_option maxRecDepth 100000 in
theorem op_open {H : Type} {enc : TypeId × Value → H} {W : World} {base : Nat} {sp : Nat → Bool} {hd : Bool} {n : Nat} {cs : List Value} {d : DataW H × List MemPlace} {f0 f1 f2 f3 f4 : Field}
    (hs : Try.prog.underlying 34 = some (.struct #[f0, f1, f2, f3, f4])) (o0 : f0.offset = 0) (o1 : f1.offset = 1) (o2 : f2.offset = 2) (o3 : f3.offset = 3) (o4 : f4.offset = 4)
    (t0 : f0.type = 5) (t1 : f1.type = 5) (t2 : f2.type = 3) (t3 : f3.type = 22) (t4 : f4.type = 32) (hl : cs.length = 5)
    (h : DataW.trod enc Try.prog W base sp hd n 34 cs = some d) : ∃ (q : Oq × (Option Addr × Nat) × (Option Addr × Nat)), cs = [.int .u8 (q.1.kd : Int), .int .u8 (q.1.nm : Int), .int .i64 q.1.pl, .slice q.2.1.1 q.1.ms.length q.2.1.2, .slice q.2.2.1 q.1.ds.length q.2.2.2] ∧ RdK W (.slice q.2.1.1 q.1.ms.length q.2.1.2) q.1.ms ∧ RdD W (.slice q.2.2.1 q.1.ds.length q.2.2.2) q.1.ds ∧ q.1.bulk + 1 ≤ Rows.uptoBulk d.1 ∧ q.1.fit := by
  obtain ⟨xs, k, hk, hxy, _, hxl, hf⟩ := DataW.trod_struct hs h
  have c3 : Try.prog.cellsOf 3 = 1 := by kernel_rfl
  have c5 : Try.prog.cellsOf 5 = 1 := by kernel_rfl
  have cM : Try.prog.cellsOf 22 = 1 := by kernel_rfl
  have cD : Try.prog.cellsOf 32 = 1 := by kernel_rfl
  match xs, hxl, cs, hl with
  | [y0, y1, y2, y3, y4], _, [v0, v1, v2, v3, v4], _ =>
    have g0 := hf 0 f0 rfl
    have g1 := hf 1 f1 rfl
    have g2 := hf 2 f2 rfl
    have g3 := hf 3 f3 rfl
    have g4 := hf 4 f4 rfl
    simp [o0, t0, c5] at g0
    simp [o1, t1, c5] at g1
    simp [o2, t2, c3] at g2
    simp [o3, t3, cM] at g3
    simp [o4, t4, cD] at g4
    obtain ⟨k0, e0, _, b0⟩ := DataW.trod_int Try.underlying5 g0
    obtain ⟨k1, e1, _, b1⟩ := DataW.trod_int Try.underlying5 g1
    obtain ⟨k2, e2, _, b2⟩ := DataW.trod_int Try.underlying3 g2
    simp at e0 e1 e2
    obtain ⟨ma, ml, mc, rfl⟩ := slice_of Try.underlying22 g3
    obtain ⟨da, dl, dc, rfl⟩ := slice_of Try.underlying32 g4
    obtain ⟨ms, rm, bm, fm⟩ := mks_of (d := y3.1) (p := y3.2) g3
    obtain ⟨ds, rd, bd, fd⟩ := dls_of (d := y4.1) (p := y4.2) g4
    subst e0 e1 e2
    have hm : ml = ms.length := by obtain ⟨_, _, e, _⟩ := rm; cases e; rfl
    have hd' : dl = ds.length := by obtain ⟨_, _, e, _⟩ := rd; cases e; rfl
    subst hm hd'
    have hd1 : d.1 = .agg [y0.1, y1.1, y2.1, y3.1, y4.1] := congrArg Prod.fst hxy
    have b8 := bounds_u8 b0
    have b9 := bounds_u8 b1
    refine ⟨(⟨k0.toNat, k1.toNat, k2, ms, ds⟩, (ma, mc), (da, dc)), ?_, rm, rd, ?_, by simp only; omega, by simp only; omega, bounds_i64 b2, fm, fd⟩
    · have e0 : ((k0.toNat : Nat) : Int) = k0 := by omega
      have e1 : ((k1.toNat : Nat) : Int) = k1 := by omega
      simp only [e0, e1]
    · rw [hd1]
      simp only [Rows.uptoBulk, Rows.uptoBulkAll, Oq.bulk]
      omega
theorem oqs_of {H : Type} {enc : TypeId × Value → H} {W : World} {base : Nat} {sp : Nat → Bool} {hd : Bool} {fuel : Nat} {a : Option Addr} {len cap : Nat} {d : DataW H} {p : List MemPlace}
    (h : DataW.trod enc Try.prog W base sp hd fuel 23 [.slice a len cap] = some (d, p)) :
    ∃ l : List Oq, RdO W (.slice a len cap) l ∧ (oqs l ≤ Rows.uptoBulk d ∧ ∀ x ∈ l, x.fit) := by
  rcases open_slice Try.underlying23 h with ⟨hcs, _⟩ | ⟨x, l, c, m, n, D, Pl, hcs, _, hl, hm, hmm, hx, hcell⟩
  · simp at hcs
    obtain ⟨rfl, rfl, rfl⟩ := hcs
    exact ⟨[], ⟨none, 0, rfl, fun h => absurd rfl h⟩, Nat.zero_le _, fun x h => by cases h⟩
  · simp at hcs
    obtain ⟨rfl, rfl, rfl⟩ := hcs
    have hlm : len ≤ m := by rw [hmm]; split <;> omega
    have ce : Try.prog.cellsOf 34 = 5 := by kernel_rfl
    have each : ∀ i, i < len → ∃ q : Oq × (Option Addr × Nat) × (Option Addr × Nat), (∀ j, j < 5 → W.cell? (x.add (i * 5 + j)) = [Value.int .u8 (q.1.kd : Int), .int .u8 (q.1.nm : Int), .int .i64 q.1.pl, .slice q.2.1.1 q.1.ms.length q.2.1.2, .slice q.2.2.1 q.1.ds.length q.2.2.2][j]?) ∧ RdK W (.slice q.2.1.1 q.1.ms.length q.2.1.2) q.1.ms ∧ RdD W (.slice q.2.2.1 q.1.ds.length q.2.2.2) q.1.ds ∧ q.1.bulk + 1 ≤ Rows.uptoBulk (D i) ∧ q.1.fit := fun i hi => by
      obtain ⟨cs', h1, h2⟩ := hcell i (by omega)
      rw [ce] at h1
      obtain ⟨_, hlen, hc⟩ := World.cells?_some h1
      obtain ⟨y, hy, hy2⟩ := op_open Try.underlying34 rfl rfl rfl rfl rfl rfl rfl rfl rfl rfl hlen h2
      refine ⟨y, fun j hj => ?_, hy2⟩
      have := hc j hj
      rw [add_add, hy] at this
      exact this
    have : Inhabited (Oq × (Option Addr × Nat) × (Option Addr × Nat)) := ⟨⟨0, 0, 0, [], []⟩, (none, 0), (none, 0)⟩
    obtain ⟨f, hf⟩ := choose_lt each
    have hd : d = .slice ((List.range len).map D) ((List.range (m - len)).map fun j => D (len + j)) := congrArg Prod.fst hx
    refine ⟨(List.range len).map (fun i => (f i).1), ⟨some x, cap, by simp, fun h0 => ?_⟩, ?_, fun y hy => ?_⟩
    · have hpos : 0 < len := by
        rcases Nat.eq_zero_or_pos len with e | e
        · rw [e] at h0; exact absurd rfl h0
        · exact e
      obtain ⟨b, off, e, hb, hc⟩ := row_of (c := 5) (by omega) hpos (fun q : Oq × (Option Addr × Nat) × (Option Addr × Nat) => [Value.int .u8 (q.1.kd : Int), .int .u8 (q.1.nm : Int), .int .i64 q.1.pl, .slice q.2.1.1 q.1.ms.length q.2.1.2, .slice q.2.2.1 q.1.ds.length q.2.2.2]) f (fun _ => rfl) (fun i hi => (hf i hi).1)
      refine ⟨by simpa using hl, b, off, by rw [e], hb, fun k y hk => ?_⟩
      have hkl : k < len := by have := (List.getElem?_eq_some_iff.1 hk).1; simpa using this
      have hy : y = (f k).1 := by
        rw [List.getElem?_map, List.getElem?_range hkl] at hk
        simpa using hk.symm
      subst hy
      exact ⟨_, _, _, _, ⟨hc k hkl 0 (by omega), hc k hkl 1 (by omega), hc k hkl 2 (by omega), hc k hkl 3 (by omega), hc k hkl 4 (by omega)⟩, (hf k hkl).2.1, (hf k hkl).2.2.1⟩
    · rw [hd]
      have := bulk_map (fun i => (f i).1) (fun o : Oq => o.bulk + 1) D len (fun i hi => (hf i hi).2.2.2.1)
      unfold oqs
      simp only [Rows.uptoBulk]
      omega
    · obtain ⟨i, hi, rfl⟩ := List.mem_map.1 hy
      exact (hf i (List.mem_range.1 hi)).2.2.2.2
theorem bulk_ints {H : Type} (k : IntKind) (zs : List Int) (sp : List (DataW H)) : zs.length ≤ Rows.uptoBulk (.slice (ChangeShapes.lits k zs) sp) := by
  have h : ∀ l : List Int, l.length ≤ Rows.uptoBulkAll (ChangeShapes.lits (H := H) k l) := fun l => by
    induction l with
    | nil => simp
    | cons x r ih => simp only [ChangeShapes.lits, List.map_cons, Rows.uptoBulkAll, Rows.uptoBulk, List.length_cons] at ih ⊢; omega
  have := h zs
  simp only [Rows.uptoBulk]
  omega
theorem ints_of {H : Type} {enc : TypeId × Value → H} {W : World} {base : Nat} {sp : Nat → Bool} {hd : Bool} {fuel : Nat} {a : Option Addr} {len cap : Nat} {d : DataW H} {p : List MemPlace}
    (h : DataW.trod enc Try.prog W base sp hd fuel 39 [.slice a len cap] = some (d, p)) : ∃ l : List Int, RdI W (.slice a len cap) l ∧ (l.length ≤ Rows.uptoBulk d ∧ ∀ x ∈ l, i64ok x) := by
  rcases open_ints Try.underlying39 Try.underlying3 (by kernel_rfl) h with ⟨hcs, _⟩ | ⟨x, l, c, zs, hcs, _, hl, hm, hz, hx, hcell, hwz⟩
  · simp at hcs
    obtain ⟨rfl, rfl, rfl⟩ := hcs
    exact ⟨[], ⟨none, 0, rfl, fun h => absurd rfl h⟩, Nat.zero_le _, fun x h => by cases h⟩
  · simp at hcs
    obtain ⟨rfl, rfl, rfl⟩ := hcs
    have hz' : len ≤ zs.length := by rw [hz]; split <;> omega
    have hlt : (zs.take len).length = len := by simp; omega
    refine ⟨zs.take len, ⟨some x, cap, by rw [hlt], fun h0 => ?_⟩, ?_, fun r hr => bounds_i64 (hwz r (List.mem_of_mem_take hr))⟩
    · have hl0' : len ≠ 0 := fun e => h0 (by rw [e]; rfl)
      obtain ⟨b, off, rfl, hc⟩ := ints_at hcell (by omega)
      have hl0 := hc 0 (by omega)
      refine ⟨b, off, rfl, ?_, fun j x hj => ?_⟩
      · unfold World.cell? at hl0
        cases ho : W.heap[b]? with
        | none => simp [ho] at hl0
        | some o => exact (Array.getElem?_eq_some_iff.1 ho).1
      · have hj' : j < len := by have := (List.getElem?_eq_some_iff.1 hj).1; omega
        have := hc j (by omega)
        rw [List.getElem?_take_of_lt hj'] at hj
        rw [List.getD_eq_getElem?_getD, hj] at this
        simpa using this
    · have hd : d = .slice (lits .i64 (zs.take len)) (lits .i64 (zs.drop len)) := congrArg Prod.fst hx
      rw [hd, hlt]
      have := bulk_ints (H := H) .i64 (zs.take len) (lits .i64 (zs.drop len))
      omega
end Go.Proofs.Ytolafffpgkgadaa
