/-
  A slice of marks and a slice of deltas, as arguments: how they read. No program is walked in this text; no conditions.
-/
import Derived.Test.YtolafffpgkgadaaEMovC
import Derived.Deep.Slices
import Derived.Lib.SmallJoins
import Derived.Lib.Strings
import Derived.OpenShut
import Derived.ProofKit
import Derived.SizedLaws
namespace Go.Proofs.Ytolafffpgkgadaa
open Go.ChangeShapes Go.WideShapes Go.ChangeAt Go.RowKit Go.Deep

theorem bounds_u8 {a : Int} (h : (Lit.int .u8 a).wf = true) : 0 ≤ a ∧ a < 256 := by simp [Lit.wf, IntKind.min, IntKind.max, IntKind.bits, IntKind.signed] at h; omega
theorem bounds_i64 {a : Int} (h : (Lit.int .i64 a).wf = true) : i64ok a := by simp [Lit.wf, IntKind.min, IntKind.max, IntKind.bits, IntKind.signed] at h; exact ⟨by omega, by omega⟩
theorem bounds_u16 {a : Int} (h : (Lit.int .u16 a).wf = true) : 0 ≤ a ∧ a < 65536 := by simp [Lit.wf, IntKind.min, IntKind.max, IntKind.bits, IntKind.signed] at h; omega
theorem bounds_u32 {a : Int} (h : (Lit.int .u32 a).wf = true) : 0 ≤ a ∧ a < 4294967296 := by simp [Lit.wf, IntKind.min, IntKind.max, IntKind.bits, IntKind.signed] at h; omega
/-- the cells of a row of elements of c cells each -/
theorem row_of {α : Type} {W : World} {x : Addr} {len c : Nat} (hc : 0 < c) (hpos : 0 < len) (cs : α → List Value) (f : Nat → α) (hcs : ∀ y, (cs y).length = c) (h : ∀ i, i < len → ∀ j, j < c → W.cell? (x.add (i * c + j)) = (cs (f i))[j]?) :
    ∃ b off, x = ⟨b, off, none⟩ ∧ b < W.heap.size ∧ ∀ k, k < len → ∀ j, j < c → W.cell? ⟨b, off + k * c + j, none⟩ = (cs (f k))[j]? := by
  obtain ⟨b, off, spot⟩ := x
  have h00 := h 0 hpos 0 hc
  obtain ⟨u, hu⟩ : ∃ u, (cs (f 0))[0]? = some u := ⟨_, List.getElem?_eq_getElem (by rw [hcs]; exact hc)⟩
  rw [hu] at h00
  have hspot : spot = none := by simpa [Addr.add] using World.cell?_spot h00
  subst hspot
  refine ⟨b, off, rfl, ?_, fun k hk j hj => ?_⟩
  · rw [Go.WideShapes.add_plain] at h00
    unfold World.cell? at h00
    cases ho : W.heap[b]? with
    | none => simp [ho] at h00
    | some o => exact (Array.getElem?_eq_some_iff.1 ho).1
  · have := h k hk j hj
    rw [Go.WideShapes.add_plain, ← Nat.add_assoc] at this
    exact this
theorem bulk_map {H : Type} {α : Type} (f : Nat → α) (g : α → Nat) (D : Nat → DataW H) : ∀ n, (∀ i, i < n → g (f i) ≤ Rows.uptoBulk (D i)) → (((List.range n).map f).map g).sum ≤ Rows.uptoBulkAll ((List.range n).map D) := by
  have ba : ∀ a b : List (DataW H), Rows.uptoBulkAll (a ++ b) = Rows.uptoBulkAll a + Rows.uptoBulkAll b := fun a b => by
    induction a with
    | nil => simp [Rows.uptoBulkAll]
    | cons x a ih => simp only [List.cons_append, Rows.uptoBulkAll, ih]; omega
  intro n
  induction n with
  | zero => intro _; simp
  | succ n ih =>
    intro h
    have h1 := ih (fun i hi => h i (by omega))
    have h2 := h n (by omega)
    rw [List.range_succ, List.map_append, List.map_append, List.map_append, ba, List.sum_append]
    simp only [List.map_cons, List.map_nil, List.sum_cons, List.sum_nil, Rows.uptoBulkAll]
    omega

def mcs (p : Nat × Int) : List Value := [.int .u8 (p.1 : Int), .int .i64 p.2]
set_option maxRecDepth 100000 in
theorem mk_open {H : Type} {enc : TypeId × Value → H} {W : World} {base : Nat} {sp : Nat → Bool} {hd : Bool} {n : Nat} {cs : List Value} {d : DataW H × List MemPlace} {f0 f1 : Field}
    (hs : Try.prog.underlying 26 = some (.struct #[f0, f1])) (o0 : f0.offset = 0) (o1 : f1.offset = 1) (t0 : f0.type = 5) (t1 : f1.type = 3) (hl : cs.length = 2)
    (h : DataW.trod enc Try.prog W base sp hd n 26 cs = some d) : ∃ p : Nat × Int, cs = mcs p ∧ 1 ≤ Rows.uptoBulk d.1 ∧ (p.1 < 256 ∧ i64ok p.2) := by
  obtain ⟨xs, k, hk, hxy, _, hxl, hf⟩ := DataW.trod_struct hs h
  have c3 : Try.prog.cellsOf 3 = 1 := by kernel_rfl
  have c5 : Try.prog.cellsOf 5 = 1 := by kernel_rfl
  match xs, hxl, cs, hl with
  | [y0, y1], _, [v0, v1], _ =>
    have g0 := hf 0 f0 rfl
    have g1 := hf 1 f1 rfl
    simp [o0, t0, c5] at g0
    simp [o1, t1, c3] at g1
    obtain ⟨k0, e0, _, b0⟩ := DataW.trod_int Try.underlying5 g0
    obtain ⟨k1, e1, _, b1⟩ := DataW.trod_int Try.underlying3 g1
    simp at e0 e1
    subst e0 e1
    have hd1 : d.1 = .agg [y0.1, y1.1] := congrArg Prod.fst hxy
    have b8 := bounds_u8 b0
    refine ⟨(k0.toNat, k1), ?_, ?_, by simp only; omega, bounds_i64 b1⟩
    · have : ((k0.toNat : Nat) : Int) = k0 := by omega
      simp only [mcs, this]
    · rw [hd1]
      simp only [Rows.uptoBulk]
      omega
theorem mks_of {H : Type} {enc : TypeId × Value → H} {W : World} {base : Nat} {sp : Nat → Bool} {hd : Bool} {fuel : Nat} {a : Option Addr} {len cap : Nat} {d : DataW H} {p : List MemPlace}
    (h : DataW.trod enc Try.prog W base sp hd fuel 22 [.slice a len cap] = some (d, p)) :
    ∃ l : Ml, RdK W (.slice a len cap) l ∧ (l.length ≤ Rows.uptoBulk d ∧ Fit8 l) := by
  rcases open_slice Try.underlying22 h with ⟨hcs, _⟩ | ⟨x, l, c, m, n, D, Pl, hcs, _, hl, hm, hmm, hx, hcell⟩
  · simp at hcs
    obtain ⟨rfl, rfl, rfl⟩ := hcs
    exact ⟨[], ⟨none, 0, rfl, fun h => absurd rfl h⟩, Nat.zero_le _, fun x h => by cases h⟩
  · simp at hcs
    obtain ⟨rfl, rfl, rfl⟩ := hcs
    have hlm : len ≤ m := by rw [hmm]; split <;> omega
    have ce : Try.prog.cellsOf 26 = 2 := by kernel_rfl
    have each : ∀ i, i < len → ∃ y : Nat × Int, (∀ j, j < 2 → W.cell? (x.add (i * 2 + j)) = (mcs y)[j]?) ∧ 1 ≤ Rows.uptoBulk (D i) ∧ (y.1 < 256 ∧ i64ok y.2) := fun i hi => by
      obtain ⟨cs', h1, h2⟩ := hcell i (by omega)
      rw [ce] at h1
      obtain ⟨_, hlen, hc⟩ := World.cells?_some h1
      obtain ⟨y, hy, hy2⟩ := mk_open Try.underlying26 rfl rfl rfl rfl hlen h2
      refine ⟨y, fun j hj => ?_, hy2⟩
      have := hc j hj
      rw [add_add, hy] at this
      exact this
    obtain ⟨f, hf⟩ := choose_lt each
    have hd : d = .slice ((List.range len).map D) ((List.range (m - len)).map fun j => D (len + j)) := congrArg Prod.fst hx
    refine ⟨(List.range len).map f, ⟨some x, cap, by simp, fun h0 => ?_⟩, ?_, fun y hy => ?_⟩
    · have hpos : 0 < len := by
        rcases Nat.eq_zero_or_pos len with e | e
        · rw [e] at h0; exact absurd rfl h0
        · exact e
      obtain ⟨b, off, e, hb, hc⟩ := row_of (by omega) hpos mcs f (fun _ => rfl) (fun i hi => (hf i hi).1)
      refine ⟨b, off, by rw [e], hb, fun k y hk => ?_⟩
      have hkl : k < len := by have := (List.getElem?_eq_some_iff.1 hk).1; simpa using this
      have hy : y = f k := by
        rw [List.getElem?_map, List.getElem?_range hkl] at hk
        simpa using hk.symm
      subst hy
      exact ⟨hc k hkl 0 (by omega), hc k hkl 1 (by omega)⟩
    · rw [hd]
      have := bulk_map f (fun _ => 1) D len (fun i hi => (hf i hi).2.1)
      have e : ∀ l : Ml, (l.map (fun _ => 1)).sum = l.length := fun l => by
        induction l with
        | nil => rfl
        | cons x l ih => rw [List.map_cons, List.sum_cons, ih, List.length_cons]; omega
      rw [e, List.length_map, List.length_range] at this
      simp only [Rows.uptoBulk, List.length_map, List.length_range]
      omega
    · obtain ⟨i, hi, rfl⟩ := List.mem_map.1 hy
      exact (hf i (List.mem_range.1 hi)).2.2
def dcs (x : Dl) : List Value := [.int .i64 x.a, .string x.o, .string x.i]
set_option maxRecDepth 100000 in
theorem dl_open {H : Type} {enc : TypeId × Value → H} {W : World} {base : Nat} {sp : Nat → Bool} {hd : Bool} {n : Nat} {cs : List Value} {d : DataW H × List MemPlace} {f0 f1 f2 : Field}
    (hs : Try.prog.underlying 63 = some (.struct #[f0, f1, f2])) (o0 : f0.offset = 0) (o1 : f1.offset = 1) (o2 : f2.offset = 2)
    (t0 : f0.type = 3) (t1 : f1.type = 9) (t2 : f2.type = 9) (hl : cs.length = 3)
    (h : DataW.trod enc Try.prog W base sp hd n 63 cs = some d) : ∃ x : Dl, cs = dcs x ∧ x.o.size + x.i.size + 1 ≤ Rows.uptoBulk d.1 ∧ x.fit := by
  obtain ⟨xs, k, hk, hxy, _, hxl, hf⟩ := DataW.trod_struct hs h
  have c3 : Try.prog.cellsOf 3 = 1 := by kernel_rfl
  have c9 : Try.prog.cellsOf 9 = 1 := by kernel_rfl
  match xs, hxl, cs, hl with
  | [y0, y1, y2], _, [v0, v1, v2], _ =>
    have g0 := hf 0 f0 rfl
    have g1 := hf 1 f1 rfl
    have g2 := hf 2 f2 rfl
    simp [o0, t0, c3] at g0
    simp [o1, t1, c9] at g1
    simp [o2, t2, c9] at g2
    obtain ⟨k0, e0, _, b0⟩ := DataW.trod_int Try.underlying3 g0
    obtain ⟨s1, e1, q1, m1⟩ := DataW.trod_string Try.underlying9 g1
    obtain ⟨s2, e2, q2, m2⟩ := DataW.trod_string Try.underlying9 g2
    simp at e0 e1 e2
    subst e0 e1 e2
    have hd1 : d.1 = .agg [y0.1, y1.1, y2.1] := congrArg Prod.fst hxy
    refine ⟨⟨k0, s1, s2⟩, rfl, ?_, bounds_i64 b0, m1, m2⟩
    have q3 : y1.1 = .lit (.string s1.data.toList) := congrArg Prod.fst q1
    have q4 : y2.1 = .lit (.string s2.data.toList) := congrArg Prod.fst q2
    rw [hd1]
    simp only [Rows.uptoBulk, Rows.uptoBulkAll, q3, q4]
    rw [Lib.size_eq, Lib.size_eq]
    omega
theorem dls_sum (l : List Dl) : l.length + dls l = (l.map fun x => x.o.size + x.i.size + 1).sum := by
  induction l with
  | nil => rfl
  | cons x l ih => simp only [List.length_cons, dls, List.map_cons, List.sum_cons, ← ih]; omega
theorem dls_of {H : Type} {enc : TypeId × Value → H} {W : World} {base : Nat} {sp : Nat → Bool} {hd : Bool} {fuel : Nat} {a : Option Addr} {len cap : Nat} {d : DataW H} {p : List MemPlace}
    (h : DataW.trod enc Try.prog W base sp hd fuel 32 [.slice a len cap] = some (d, p)) :
    ∃ l : List Dl, RdD W (.slice a len cap) l ∧ (l.length + dls l ≤ Rows.uptoBulk d ∧ ∀ x ∈ l, x.fit) := by
  rcases open_slice Try.underlying32 h with ⟨hcs, _⟩ | ⟨x, l, c, m, n, D, Pl, hcs, _, hl, hm, hmm, hx, hcell⟩
  · simp at hcs
    obtain ⟨rfl, rfl, rfl⟩ := hcs
    exact ⟨[], ⟨none, 0, rfl, fun h => absurd rfl h⟩, Nat.zero_le _, fun x h => by cases h⟩
  · simp at hcs
    obtain ⟨rfl, rfl, rfl⟩ := hcs
    have hlm : len ≤ m := by rw [hmm]; split <;> omega
    have ce : Try.prog.cellsOf 63 = 3 := by kernel_rfl
    have each : ∀ i, i < len → ∃ y : Dl, (∀ j, j < 3 → W.cell? (x.add (i * 3 + j)) = (dcs y)[j]?) ∧ y.o.size + y.i.size + 1 ≤ Rows.uptoBulk (D i) ∧ y.fit := fun i hi => by
      obtain ⟨cs', h1, h2⟩ := hcell i (by omega)
      rw [ce] at h1
      obtain ⟨_, hlen, hc⟩ := World.cells?_some h1
      obtain ⟨y, hy, hy2⟩ := dl_open Try.underlying63 rfl rfl rfl rfl rfl rfl hlen h2
      refine ⟨y, fun j hj => ?_, hy2⟩
      have := hc j hj
      rw [add_add, hy] at this
      exact this
    have : Inhabited Dl := ⟨⟨0, ByteArray.empty, ByteArray.empty⟩⟩
    obtain ⟨f, hf⟩ := choose_lt each
    have hd : d = .slice ((List.range len).map D) ((List.range (m - len)).map fun j => D (len + j)) := congrArg Prod.fst hx
    refine ⟨(List.range len).map f, ⟨some x, cap, by simp, fun h0 => ?_⟩, ?_, fun y hy => ?_⟩
    · have hpos : 0 < len := by
        rcases Nat.eq_zero_or_pos len with e | e
        · rw [e] at h0; exact absurd rfl h0
        · exact e
      obtain ⟨b, off, e, hb, hc⟩ := row_of (by omega) hpos dcs f (fun _ => rfl) (fun i hi => (hf i hi).1)
      refine ⟨b, off, by rw [e], hb, fun k y hk => ?_⟩
      have hkl : k < len := by have := (List.getElem?_eq_some_iff.1 hk).1; simpa using this
      have hy : y = f k := by
        rw [List.getElem?_map, List.getElem?_range hkl] at hk
        simpa using hk.symm
      subst hy
      exact ⟨hc k hkl 0 (by omega), hc k hkl 1 (by omega), hc k hkl 2 (by omega)⟩
    · rw [hd, dls_sum]
      have := bulk_map f (fun x => x.o.size + x.i.size + 1) D len (fun i hi => (hf i hi).2.1)
      simp only [Rows.uptoBulk]
      omega
    · obtain ⟨i, hi, rfl⟩ := List.mem_map.1 hy
      exact (hf i (List.mem_range.1 hi)).2.2
end Go.Proofs.Ytolafffpgkgadaa
