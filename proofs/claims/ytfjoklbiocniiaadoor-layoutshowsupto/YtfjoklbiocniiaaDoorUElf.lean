/-
  Slices of any elements as arguments: how they read. No program is walked in this text; no conditions.
-/
import Derived.Test.YtfjoklbiocniiaaDoorKBase
import Derived.Deep.Slices
import Derived.Lib.SmallJoins
import Derived.Lib.Strings
import Derived.OpenShut
import Derived.ProofKit
import Derived.SizedLaws
import Derived.ChangeSlices
namespace Go.Proofs.YtfjoklbiocniiaaDoor
open Go.ChangeShapes Go.WideShapes Go.ChangeAt Go.RowKit Go.Deep
theorem bounds_i64 {a : Int} (h : (Lit.int .i64 a).wf = true) : -9223372036854775808 ≤ a ∧ a ≤ 9223372036854775807 := by simp [Lit.wf, IntKind.min, IntKind.max, IntKind.bits, IntKind.signed] at h; exact ⟨by omega, by omega⟩
/-- the cells of a row of elements of c cells each -/
theorem row_of {α : Type} {W : World} {x : Addr} {len c : Nat} (hc : 0 < c) (hpos : 0 < len) (cs : α → List Value) (f : Nat → α) (hcs : ∀ y, (cs y).length = c) (h : ∀ i, i < len → ∀ j, j < c → W.cell? (x.add (i * c + j)) = (cs (f i))[j]?) :
    ∃ b off, x = ⟨b, off, none⟩ ∧ b < W.heap.size ∧ ∀ k, k < len → ∀ j, j < c → W.cell? ⟨b, off + k * c + j, none⟩ = (cs (f k))[j]? := by
  obtain ⟨b, off, spot⟩ := x
  have h00 := h 0 hpos 0 hc
  obtain ⟨u, hu⟩ : ∃ u, (cs (f 0))[0]? = some u := ⟨_, List.getElem?_eq_getElem (by rw [hcs]; exact hc)⟩
  rw [hu] at h00
  have hspot : spot = none := by simpa [Addr.add] using World.cell?_spot h00
  subst hspot
  refine ⟨b, off, rfl, ?_, fun k hk j hj => ?_⟩
  · rw [Go.WideShapes.add_plain] at h00
    unfold World.cell? at h00
    cases ho : W.heap[b]? with
    | none => simp [ho] at h00
    | some o => exact (Array.getElem?_eq_some_iff.1 ho).1
  · have := h k hk j hj
    rw [Go.WideShapes.add_plain, ← Nat.add_assoc] at this
    exact this
theorem bulk_map {H : Type} {α : Type} (f : Nat → α) (g : α → Nat) (D : Nat → DataW H) : ∀ n, (∀ i, i < n → g (f i) ≤ Rows.uptoBulk (D i)) → (((List.range n).map f).map g).sum ≤ Rows.uptoBulkAll ((List.range n).map D) := by
  have ba : ∀ a b : List (DataW H), Rows.uptoBulkAll (a ++ b) = Rows.uptoBulkAll a + Rows.uptoBulkAll b := fun a b => by
    induction a with
    | nil => simp [Rows.uptoBulkAll]
    | cons x a ih => simp only [List.cons_append, Rows.uptoBulkAll, ih]; omega
  intro n
  induction n with
  | zero => intro _; simp
  | succ n ih =>
    intro h
    have h1 := ih (fun i hi => h i (by omega))
    have h2 := h n (by omega)
    rw [List.range_succ, List.map_append, List.map_append, List.map_append, ba, List.sum_append]
    simp only [List.map_cons, List.map_nil, List.sum_cons, List.sum_nil, Rows.uptoBulkAll]
    omega
/-- a slice of elements of c cells each -/
theorem els_of {α : Type} [Inhabited α] {H : Type} {enc : TypeId × Value → H} {W : World} {base : Nat} {sp : Nat → Bool} {hd : Bool} {fuel : Nat} {cs0 : List Value} {d : DataW H} {p : List MemPlace} {LT ET : TypeId} {c : Nat}
    (hu : Tryd.prog.underlying LT = some (.slice ET)) (ce : Tryd.prog.cellsOf ET = c) (hc0 : 0 < c) (cs : α → List Value) (hcs : ∀ y, (cs y).length = c) (wt : α → Nat) (P : α → Prop)
    (hopen : ∀ n l d, l.length = c → DataW.trod enc Tryd.prog W base sp hd n ET l = some d → ∃ y, l = cs y ∧ wt y ≤ Rows.uptoBulk d.1 ∧ P y)
    (h : DataW.trod enc Tryd.prog W base sp hd fuel LT cs0 = some (d, p)) :
    ∃ a len cap, cs0 = [.slice a len cap] ∧ ∃ l : List α, l.length = len ∧ (l ≠ [] → len ≤ cap ∧ ∃ g o, a = some ⟨g, o, none⟩ ∧ g < W.heap.size ∧ ∀ (k : Nat) y, l[k]? = some y → ∀ j, j < c → W.cell? ⟨g, o + k * c + j, none⟩ = (cs y)[j]?) ∧ (l.map wt).sum + 1 ≤ Rows.uptoBulk d ∧ ∀ y ∈ l, P y := by
  rcases open_slice hu h with ⟨hcl, hn⟩ | ⟨x, len, cap, m, n, D, Pl, hcl, _, hl, hm, hmm, hx, hcell⟩
  · refine ⟨none, 0, 0, hcl, [], rfl, fun h => absurd rfl h, ?_, fun x h => by cases h⟩
    have hd : d = .nil := congrArg Prod.fst hn
    rw [hd]
    simp [Rows.uptoBulk]
  · refine ⟨some x, len, cap, hcl, ?_⟩
    have hlm : len ≤ m := by rw [hmm]; split <;> omega
    have each : ∀ i, i < len → ∃ y : α, (∀ j, j < _ → W.cell? (x.add (i * _ + j)) = (cs y)[j]?) ∧ wt y ≤ Rows.uptoBulk (D i) ∧ P y := fun i hi => by
      obtain ⟨cs', h1, h2⟩ := hcell i (by omega)
      rw [ce] at h1
      obtain ⟨_, hlen, hc⟩ := World.cells?_some h1
      obtain ⟨y, hy, hy2⟩ := hopen _ _ _ hlen h2
      refine ⟨y, fun j hj => ?_, hy2⟩
      have := hc j hj
      rw [add_add, hy] at this
      exact this
    obtain ⟨f, hf⟩ := choose_lt each
    have hd : d = .slice ((List.range len).map D) ((List.range (m - len)).map fun j => D (len + j)) := congrArg Prod.fst hx
    refine ⟨(List.range len).map f, by simp, fun h0 => ⟨hl, ?_⟩, ?_, fun y hy => ?_⟩
    · have hpos : 0 < len := by
        rcases Nat.eq_zero_or_pos len with e | e
        · rw [e] at h0; exact absurd rfl h0
        · exact e
      obtain ⟨b, off, e, hb, hc⟩ := row_of hc0 hpos cs f hcs (fun i hi => (hf i hi).1)
      refine ⟨b, off, by rw [e], hb, fun k y hk => ?_⟩
      have hkl : k < len := by have := (List.getElem?_eq_some_iff.1 hk).1; simpa using this
      have hy : y = f k := by
        rw [List.getElem?_map, List.getElem?_range hkl] at hk
        simpa using hk.symm
      subst hy
      exact hc k hkl
    · rw [hd]
      have := bulk_map f wt D len (fun i hi => (hf i hi).2.1)
      simp only [Rows.uptoBulk]
      omega
    · obtain ⟨i, hi, rfl⟩ := List.mem_map.1 hy
      exact (hf i (List.mem_range.1 hi)).2.2
theorem sum_mem {α : Type} {wt : α → Nat} {l : List α} {x : α} (h : x ∈ l) : wt x ≤ (l.map wt).sum := by
  induction l with
  | nil => cases h
  | cons y l ih =>
    rw [List.map_cons, List.sum_cons]
    rcases List.mem_cons.1 h with rfl | h
    · omega
    · have := ih h; omega
theorem sum_len {α : Type} {wt : α → Nat} (hw : ∀ x, 1 ≤ wt x) (l : List α) : l.length ≤ (l.map wt).sum := by
  induction l with
  | nil => simp
  | cons x l ih => rw [List.map_cons, List.sum_cons, List.length_cons]; have := hw x; omega
end Go.Proofs.YtfjoklbiocniiaaDoor
