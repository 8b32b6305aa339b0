/-
  Slices of texts, of Booleans and of calls (a kind and a text), as arguments: how they read. No program is walked in this text; no conditions.
-/
import Derived.Test.YtihagjkdghbkdaaJRefY
import Derived.Deep.Slices
import Derived.Lib.SmallJoins
import Derived.Lib.Strings
import Derived.OpenShut
import Derived.ProofKit
import Derived.SizedLaws
import Derived.ChangeSlices
namespace Go.Proofs.Ytihagjkdghbkdaa
open Go.ChangeShapes Go.WideShapes Go.ChangeAt Go.RowKit Go.Deep

theorem bounds_u8 {a : Int} (h : (Lit.int .u8 a).wf = true) : 0 ≤ a ∧ a < 256 := by simp [Lit.wf, IntKind.min, IntKind.max, IntKind.bits, IntKind.signed] at h; omega
theorem bounds_i64 {a : Int} (h : (Lit.int .i64 a).wf = true) : -9223372036854775808 ≤ a ∧ a ≤ 9223372036854775807 := by simp [Lit.wf, IntKind.min, IntKind.max, IntKind.bits, IntKind.signed] at h; exact ⟨by omega, by omega⟩
/-- the cells of a row of elements of c cells each -/
theorem row_of {α : Type} {W : World} {x : Addr} {len c : Nat} (hc : 0 < c) (hpos : 0 < len) (cs : α → List Value) (f : Nat → α) (hcs : ∀ y, (cs y).length = c) (h : ∀ i, i < len → ∀ j, j < c → W.cell? (x.add (i * c + j)) = (cs (f i))[j]?) :
    ∃ b off, x = ⟨b, off, none⟩ ∧ b < W.heap.size ∧ ∀ k, k < len → ∀ j, j < c → W.cell? ⟨b, off + k * c + j, none⟩ = (cs (f k))[j]? := by
  obtain ⟨b, off, spot⟩ := x
  have h00 := h 0 hpos 0 hc
  obtain ⟨u, hu⟩ : ∃ u, (cs (f 0))[0]? = some u := ⟨_, List.getElem?_eq_getElem (by rw [hcs]; exact hc)⟩
  rw [hu] at h00
  have hspot : spot = none := by simpa [Addr.add] using World.cell?_spot h00
  subst hspot
  refine ⟨b, off, rfl, ?_, fun k hk j hj => ?_⟩
  · rw [Go.WideShapes.add_plain] at h00
    unfold World.cell? at h00
    cases ho : W.heap[b]? with
    | none => simp [ho] at h00
    | some o => exact (Array.getElem?_eq_some_iff.1 ho).1
  · have := h k hk j hj
    rw [Go.WideShapes.add_plain, ← Nat.add_assoc] at this
    exact this
theorem bulk_map {H : Type} {α : Type} (f : Nat → α) (g : α → Nat) (D : Nat → DataW H) : ∀ n, (∀ i, i < n → g (f i) ≤ Rows.uptoBulk (D i)) → (((List.range n).map f).map g).sum ≤ Rows.uptoBulkAll ((List.range n).map D) := by
  have ba : ∀ a b : List (DataW H), Rows.uptoBulkAll (a ++ b) = Rows.uptoBulkAll a + Rows.uptoBulkAll b := fun a b => by
    induction a with
    | nil => simp [Rows.uptoBulkAll]
    | cons x a ih => simp only [List.cons_append, Rows.uptoBulkAll, ih]; omega
  intro n
  induction n with
  | zero => intro _; simp
  | succ n ih =>
    intro h
    have h1 := ih (fun i hi => h i (by omega))
    have h2 := h n (by omega)
    rw [List.range_succ, List.map_append, List.map_append, List.map_append, ba, List.sum_append]
    simp only [List.map_cons, List.map_nil, List.sum_cons, List.sum_nil, Rows.uptoBulkAll]
    omega
/-- a slice of elements of c cells each -/
theorem els_of {α : Type} [Inhabited α] {H : Type} {enc : TypeId × Value → H} {W : World} {base : Nat} {sp : Nat → Bool} {hd : Bool} {fuel : Nat} {a : Option Addr} {len cap : Nat} {d : DataW H} {p : List MemPlace} {LT ET : TypeId} {c : Nat}
    (hu : Try.prog.underlying LT = some (.slice ET)) (ce : Try.prog.cellsOf ET = c) (hc0 : 0 < c) (cs : α → List Value) (hcs : ∀ y, (cs y).length = c) (wt : α → Nat) (P : α → Prop)
    (hopen : ∀ n l d, l.length = c → DataW.trod enc Try.prog W base sp hd n ET l = some d → ∃ y, l = cs y ∧ wt y ≤ Rows.uptoBulk d.1 ∧ P y)
    (h : DataW.trod enc Try.prog W base sp hd fuel LT [.slice a len cap] = some (d, p)) :
    ∃ l : List α, l.length = len ∧ (l ≠ [] → len ≤ cap ∧ ∃ g o, a = some ⟨g, o, none⟩ ∧ g < W.heap.size ∧ ∀ (k : Nat) y, l[k]? = some y → ∀ j, j < c → W.cell? ⟨g, o + k * c + j, none⟩ = (cs y)[j]?) ∧ (l.map wt).sum ≤ Rows.uptoBulk d ∧ ∀ y ∈ l, P y := by
  rcases open_slice hu h with ⟨hcs, _⟩ | ⟨x, l, c, m, n, D, Pl, hcl, _, hl, hm, hmm, hx, hcell⟩
  · simp at hcs
    obtain ⟨rfl, rfl, rfl⟩ := hcs
    exact ⟨[], rfl, fun h => absurd rfl h, Nat.zero_le _, fun x h => by cases h⟩
  · simp at hcl
    obtain ⟨rfl, rfl, rfl⟩ := hcl
    have hlm : len ≤ m := by rw [hmm]; split <;> omega
    have each : ∀ i, i < len → ∃ y : α, (∀ j, j < _ → W.cell? (x.add (i * _ + j)) = (cs y)[j]?) ∧ wt y ≤ Rows.uptoBulk (D i) ∧ P y := fun i hi => by
      obtain ⟨cs', h1, h2⟩ := hcell i (by omega)
      rw [ce] at h1
      obtain ⟨_, hlen, hc⟩ := World.cells?_some h1
      obtain ⟨y, hy, hy2⟩ := hopen _ _ _ hlen h2
      refine ⟨y, fun j hj => ?_, hy2⟩
      have := hc j hj
      rw [add_add, hy] at this
      exact this
    obtain ⟨f, hf⟩ := choose_lt each
    have hd : d = .slice ((List.range len).map D) ((List.range (m - len)).map fun j => D (len + j)) := congrArg Prod.fst hx
    refine ⟨(List.range len).map f, by simp, fun h0 => ⟨hl, ?_⟩, ?_, fun y hy => ?_⟩
    · have hpos : 0 < len := by
        rcases Nat.eq_zero_or_pos len with e | e
        · rw [e] at h0; exact absurd rfl h0
        · exact e
      obtain ⟨b, off, e, hb, hc⟩ := row_of hc0 hpos cs f hcs (fun i hi => (hf i hi).1)
      refine ⟨b, off, by rw [e], hb, fun k y hk => ?_⟩
      have hkl : k < len := by have := (List.getElem?_eq_some_iff.1 hk).1; simpa using this
      have hy : y = f k := by
        rw [List.getElem?_map, List.getElem?_range hkl] at hk
        simpa using hk.symm
      subst hy
      exact hc k hkl
    · rw [hd]
      have := bulk_map f wt D len (fun i hi => (hf i hi).2.1)
      simp only [Rows.uptoBulk]
      omega
    · obtain ⟨i, hi, rfl⟩ := List.mem_map.1 hy
      exact (hf i (List.mem_range.1 hi)).2.2
theorem sum_mem {α : Type} {wt : α → Nat} {l : List α} {x : α} (h : x ∈ l) : wt x ≤ (l.map wt).sum := by
  induction l with
  | nil => cases h
  | cons y l ih =>
    rw [List.map_cons, List.sum_cons]
    rcases List.mem_cons.1 h with rfl | h
    · omega
    · have := ih h; omega
theorem sum_len {α : Type} {wt : α → Nat} (hw : ∀ x, 1 ≤ wt x) (l : List α) : l.length ≤ (l.map wt).sum := by
  induction l with
  | nil => simp
  | cons x l ih => rw [List.map_cons, List.sum_cons, List.length_cons]; have := hw x; omega
/-- all that texts hold -/
def tls (l : Tl) : Nat := (l.map fun s => s.size + 1).sum
theorem tls_mem {l : Tl} {s : ByteArray} (h : s ∈ l) : s.size + 1 ≤ tls l := sum_mem (wt := fun s : ByteArray => s.size + 1) h
theorem tls_len (l : Tl) : l.length ≤ tls l := sum_len (fun _ => by omega) l
theorem strs_of {H : Type} {enc : TypeId × Value → H} {W : World} {base : Nat} {sp : Nat → Bool} {hd : Bool} {fuel : Nat} {a : Option Addr} {len cap : Nat} {d : DataW H} {p : List MemPlace}
    (h : DataW.trod enc Try.prog W base sp hd fuel 35 [.slice a len cap] = some (d, p)) : ∃ l : Tl, RdS W (.slice a len cap) l ∧ (tls l ≤ Rows.uptoBulk d ∧ True) := by
  have : Inhabited ByteArray := ⟨⟨#[]⟩⟩
  obtain ⟨l, h1, h2, h3, _⟩ := els_of (c := 1) Try.underlying35 (by kernel_rfl) (by omega) (fun s => [Value.string s]) (fun _ => rfl) (fun s => s.size + 1) (fun _ => True) (fun n l d hl hd => by
    obtain ⟨s, e, q, _⟩ := DataW.trod_string Try.underlying9 hd
    refine ⟨s, e, ?_, trivial⟩
    rw [q]
    simp only [Rows.uptoBulk]
    rw [Lib.size_eq]
    omega) h
  refine ⟨l, ⟨a, cap, by rw [h1], fun h0 => ?_⟩, h3, trivial⟩
  obtain ⟨_, g, o, e, hg, hc⟩ := h2 h0
  refine ⟨g, o, e, hg, fun k s hk => ?_⟩
  have := hc k s hk 0 (by omega)
  rw [Nat.mul_one, Nat.add_zero] at this
  exact this
/-- a slice that reads as the Booleans l -/
def RdB (W : World) (v : Value) (l : List Bool) : Prop := ∃ a c, v = .slice a l.length c ∧ (l ≠ [] → ∃ g o, a = some ⟨g, o, none⟩ ∧ g < W.heap.size ∧ ∀ (k : Nat) s, l[k]? = some s → W.cell? ⟨g, o + k, none⟩ = some (.bool s))
theorem RdB.below {W W' : World} {n : Nat} {v : Value} {l : List Bool} (h : RdB W v l) (hn : W.heap.size ≤ n) (hb : Below n W W') : RdB W' v l := by
  obtain ⟨a, cap, e, h⟩ := h
  refine ⟨a, cap, e, fun h0 => ?_⟩
  obtain ⟨g, o, e, hg, hc⟩ := h h0
  exact ⟨g, o, e, by have := hb.size; omega, fun k x hk => (hb.cell (p := ⟨g, o + k, none⟩) (by simp; omega)).trans (hc k x hk)⟩
theorem bools_of {H : Type} {enc : TypeId × Value → H} {W : World} {base : Nat} {sp : Nat → Bool} {hd : Bool} {fuel : Nat} {a : Option Addr} {len cap : Nat} {d : DataW H} {p : List MemPlace}
    (h : DataW.trod enc Try.prog W base sp hd fuel 45 [.slice a len cap] = some (d, p)) : ∃ l : List Bool, RdB W (.slice a len cap) l ∧ (l.length ≤ Rows.uptoBulk d ∧ True) := by
  obtain ⟨l, h1, h2, h3, _⟩ := els_of (c := 1) Try.underlying45 (by kernel_rfl) (by omega) (fun s => [Value.bool s]) (fun _ => rfl) (fun _ => 1) (fun _ => True) (fun n l d hl hd => by
    obtain ⟨s, e, q⟩ := DataW.trod_bool Try.underlying4 hd
    refine ⟨s, e, ?_, trivial⟩
    rw [q]
    simp only [Rows.uptoBulk]
    omega) h
  refine ⟨l, ⟨a, cap, by rw [h1], fun h0 => ?_⟩, Nat.le_trans (sum_len (fun _ => Nat.le_refl _) l) h3, trivial⟩
  obtain ⟨_, g, o, e, hg, hc⟩ := h2 h0
  refine ⟨g, o, e, hg, fun k s hk => ?_⟩
  have := hc k s hk 0 (by omega)
  rw [Nat.mul_one, Nat.add_zero] at this
  exact this
/-- a slice that reads as the calls l -/
def RdO (W : World) (v : Value) (l : List (Nat × ByteArray)) : Prop := ∃ a c, v = .slice a l.length c ∧ (l ≠ [] → l.length ≤ c ∧ ∃ g o, a = some ⟨g, o, none⟩ ∧ g < W.heap.size ∧ ∀ (k : Nat) q, l[k]? = some q → W.cell? ⟨g, o + k * 2, none⟩ = some (.int .u8 (q.1 : Int)) ∧ W.cell? ⟨g, o + k * 2 + 1, none⟩ = some (.string q.2))
theorem RdO.below {W W' : World} {n : Nat} {v : Value} {l : List (Nat × ByteArray)} (h : RdO W v l) (hn : W.heap.size ≤ n) (hb : Below n W W') : RdO W' v l := by
  obtain ⟨a, cap, e, h⟩ := h
  refine ⟨a, cap, e, fun h0 => ?_⟩
  obtain ⟨hl, g, o, e, hg, hc⟩ := h h0
  exact ⟨hl, g, o, e, by have := hb.size; omega, fun k x hk => ⟨(hb.cell (p := ⟨g, o + k * 2, none⟩) (by simp; omega)).trans (hc k x hk).1, (hb.cell (p := ⟨g, o + k * 2 + 1, none⟩) (by simp; omega)).trans (hc k x hk).2⟩⟩
/-- all that calls hold -/
def oqs (l : List (Nat × ByteArray)) : Nat := (l.map fun q => q.2.size + 1).sum
theorem oqs_mem {l : List (Nat × ByteArray)} {q : Nat × ByteArray} (h : q ∈ l) : q.2.size + 1 ≤ oqs l := sum_mem (wt := fun q : Nat × ByteArray => q.2.size + 1) h
theorem oqs_len (l : List (Nat × ByteArray)) : l.length ≤ oqs l := sum_len (fun _ => by omega) l
set_option maxRecDepth 100000 in
theorem op_open {H : Type} {enc : TypeId × Value → H} {W : World} {base : Nat} {sp : Nat → Bool} {hd : Bool} {n : Nat} {cs : List Value} {d : DataW H × List MemPlace} {f0 f1 : Field}
    (hs : Try.prog.underlying 30 = some (.struct #[f0, f1])) (o0 : f0.offset = 0) (o1 : f1.offset = 1) (t0 : f0.type = 5) (t1 : f1.type = 9) (hl : cs.length = 2)
    (h : DataW.trod enc Try.prog W base sp hd n 30 cs = some d) : ∃ q : Nat × ByteArray, cs = [.int .u8 (q.1 : Int), .string q.2] ∧ q.2.size + 1 ≤ Rows.uptoBulk d.1 ∧ q.1 < 256 := by
  obtain ⟨xs, k, hk, hxy, _, hxl, hf⟩ := DataW.trod_struct hs h
  have c5 : Try.prog.cellsOf 5 = 1 := by kernel_rfl
  have c9 : Try.prog.cellsOf 9 = 1 := by kernel_rfl
  match xs, hxl, cs, hl with
  | [y0, y1], _, [v0, v1], _ =>
    have g0 := hf 0 f0 rfl
    have g1 := hf 1 f1 rfl
    simp [o0, t0, c5] at g0
    simp [o1, t1, c9] at g1
    obtain ⟨k0, e0, _, b0⟩ := DataW.trod_int Try.underlying5 g0
    obtain ⟨s1, e1, q1, m1⟩ := DataW.trod_string Try.underlying9 g1
    simp at e0 e1
    subst e0 e1
    have hd1 : d.1 = .agg [y0.1, y1.1] := congrArg Prod.fst hxy
    have b8 := bounds_u8 b0
    have q3 : y1.1 = .lit (.string s1.data.toList) := congrArg Prod.fst q1
    refine ⟨(k0.toNat, s1), ?_, ?_, by simp only; omega⟩
    · have : ((k0.toNat : Nat) : Int) = k0 := by omega
      simp only [this]
    · rw [hd1]
      simp only [Rows.uptoBulk, Rows.uptoBulkAll, q3]
      rw [Lib.size_eq]
      omega
theorem oqs_of {H : Type} {enc : TypeId × Value → H} {W : World} {base : Nat} {sp : Nat → Bool} {hd : Bool} {fuel : Nat} {a : Option Addr} {len cap : Nat} {d : DataW H} {p : List MemPlace}
    (h : DataW.trod enc Try.prog W base sp hd fuel 22 [.slice a len cap] = some (d, p)) : ∃ l : List (Nat × ByteArray), RdO W (.slice a len cap) l ∧ (oqs l ≤ Rows.uptoBulk d ∧ ∀ q ∈ l, q.1 < 256) := by
  have : Inhabited (Nat × ByteArray) := ⟨(0, ⟨#[]⟩)⟩
  obtain ⟨l, h1, h2, h3, h4⟩ := els_of (c := 2) Try.underlying22 (by kernel_rfl) (by omega) (fun q : Nat × ByteArray => [Value.int .u8 (q.1 : Int), .string q.2]) (fun _ => rfl) (fun q => q.2.size + 1) (fun q => q.1 < 256) (fun n l d hl hd => op_open Try.underlying30 rfl rfl rfl rfl hl hd) h
  refine ⟨l, ⟨a, cap, by rw [h1], fun h0 => ?_⟩, h3, h4⟩
  obtain ⟨hle, g, o, e, hg, hc⟩ := h2 h0
  exact ⟨by omega, g, o, e, hg, fun k s hk => ⟨hc k s hk 0 (by omega), hc k s hk 1 (by omega)⟩⟩
end Go.Proofs.Ytihagjkdghbkdaa
