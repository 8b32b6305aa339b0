/-
  A slice of pairs of a text and a number, as an argument: how it reads. No program is walked in this text; no conditions.
-/
import Derived.Test.YtjgeeimkcghmoaaDoorUTexts
import Derived.Deep.SlicePairs
import Derived.ProofKit
namespace Go.Proofs.YtjgeeimkcghmoaaDoor
open Go.ChangeShapes Go.WideShapes Go.ChangeAt Go.RowKit Go.Deep

/-- a slice that reads as a list of pairs -/
def Asks (W : World) (a : Option Addr) (len : Nat) (l : List (ByteArray × Int)) : Prop :=
  l.length = len ∧ (len ≠ 0 → ∃ b o, a = some ⟨b, o, none⟩ ∧ b < W.heap.size ∧ ∀ j x, l[j]? = some x → W.cell? ⟨b, o + j * 2, none⟩ = some (.string x.1) ∧ W.cell? ⟨b, o + j * 2 + 1, none⟩ = some (.int .i64 x.2))

theorem bulk_mem {H : Type} : ∀ {ds : List (DataW H)} {d : DataW H}, d ∈ ds → Rows.uptoBulk d ≤ Rows.uptoBulkAll ds
  | [], _, h => by cases h
  | x :: r, d, h => by
    simp only [Rows.uptoBulkAll]
    rcases List.mem_cons.1 h with rfl | h
    · omega
    · have := bulk_mem h; omega
theorem bulk_len {H : Type} : ∀ {ds : List (DataW H)}, (∀ d ∈ ds, 1 ≤ Rows.uptoBulk d) → ds.length ≤ Rows.uptoBulkAll ds
  | [], _ => by simp
  | x :: r, h => by
    have h1 := h x (by simp)
    have h2 := bulk_len (ds := r) (fun d hd => h d (by simp [hd]))
    simp only [Rows.uptoBulkAll, List.length_cons]
    omega
def strV : Value → ByteArray
  | .string s => s
  | _ => ByteArray.empty
def intV : Value → Int
  | .int _ n => n
  | _ => 0

theorem asks_open {H : Type} {enc : TypeId × Value → H} {W : World} {base : Nat} {sp : Nat → Bool} {hd : Bool} {fuel : Nat} {a : Option Addr} {len cap : Nat} {d : DataW H} {p : List MemPlace} {f0 f1 : Field}
    (hs : Tryd.prog.underlying 25 = some (.struct #[f0, f1])) (o0 : f0.offset = 0) (o1 : f1.offset = 1) (t0 : f0.type = 9) (t1 : f1.type = 3)
    (h : DataW.trod enc Tryd.prog W base sp hd fuel 22 [.slice a len cap] = some (d, p)) :
    ∃ l : List (ByteArray × Int), Asks W a len l ∧ (len ≤ Rows.uptoBulk d ∧ ∀ x ∈ l, x.1.size ≤ Rows.uptoBulk d ∧ (-9223372036854775808 ≤ x.2 ∧ x.2 ≤ 9223372036854775807)) := by
  rcases open_slice_pairs Tryd.underlying22 hs (by kernel_rfl) o0 o1 (by rw [t0]; kernel_rfl) (by rw [t1]; kernel_rfl) h with ⟨hcs, _⟩ | ⟨x, l, c, m, n, V0, V1, D0, D1, P0, P1, hcs, _, hl, hm, hmm, hx, hcell⟩
  · simp at hcs
    obtain ⟨rfl, rfl, rfl⟩ := hcs
    exact ⟨[], ⟨rfl, fun h => absurd rfl h⟩, Nat.zero_le _, fun x h => by cases h⟩
  · simp at hcs
    obtain ⟨rfl, rfl, rfl⟩ := hcs
    have hlm : len ≤ m := by rw [hmm]; split <;> omega
    have each : ∀ i, i < len → V0 i = .string (strV (V0 i)) ∧ V1 i = .int .i64 (intV (V1 i)) ∧ D0 i = .lit (.string (strV (V0 i)).data.toList) ∧ (-9223372036854775808 ≤ intV (V1 i) ∧ intV (V1 i) ≤ 9223372036854775807) := fun i hi => by
      obtain ⟨_, _, g0, g1⟩ := hcell i (by omega)
      rw [t0] at g0
      rw [t1] at g1
      obtain ⟨s, e0, e1, _⟩ := DataW.trod_string Tryd.underlying9 g0
      obtain ⟨k, e2, e3, e4⟩ := DataW.trod_int Tryd.underlying3 g1
      have e0 : V0 i = .string s := by simpa using e0
      have e2 : V1 i = .int .i64 k := by simpa using e2
      rw [e0, e2]
      exact ⟨rfl, rfl, congrArg Prod.fst e1, bounds_i64 e4⟩
    have hd : d = .slice ((List.range len).map fun i => .agg [D0 i, D1 i]) ((List.range (m - len)).map fun j => .agg [D0 (len + j), D1 (len + j)]) := congrArg Prod.fst hx
    refine ⟨(List.range len).map fun i => (strV (V0 i), intV (V1 i)), ⟨by simp, fun h0 => ?_⟩, ?_, fun y hy => ?_⟩
    · obtain ⟨b, off, spot⟩ := x
      have h00 := (hcell 0 (by omega)).1
      have hspot : spot = none := by simpa [Addr.add] using World.cell?_spot h00
      subst hspot
      refine ⟨b, off, rfl, ?_, fun j y hj => ?_⟩
      · rw [Go.WideShapes.add_plain] at h00
        unfold World.cell? at h00
        cases ho : W.heap[b]? with
        | none => simp [ho] at h00
        | some o => exact (Array.getElem?_eq_some_iff.1 ho).1
      · have hjl : j < len := by have := (List.getElem?_eq_some_iff.1 hj).1; simpa using this
        have hy : y = (strV (V0 j), intV (V1 j)) := by
          rw [List.getElem?_map, List.getElem?_range hjl] at hj
          simpa using hj.symm
        obtain ⟨c0, c1, _, _⟩ := hcell j (by omega)
        obtain ⟨e0, e1, _⟩ := each j hjl
        rw [Go.WideShapes.add_plain] at c0 c1
        rw [hy]
        refine ⟨c0.trans (congrArg some e0), ?_⟩
        have c1' : W.cell? ⟨b, off + j * 2 + 1, none⟩ = some (V1 j) := by simpa [Nat.add_assoc] using c1
        exact c1'.trans (congrArg some e1)
    · rw [hd]
      have := bulk_len (ds := (List.range len).map fun i => DataW.agg [D0 i, D1 i]) (fun d hd => by
        obtain ⟨i, _, rfl⟩ := List.mem_map.1 hd
        simp only [Rows.uptoBulk]; omega)
      simp only [List.length_map, List.length_range] at this
      simp only [Rows.uptoBulk]
      omega
    · obtain ⟨i, hi, rfl⟩ := List.mem_map.1 hy
      have hil : i < len := List.mem_range.1 hi
      obtain ⟨_, _, e2, e3⟩ := each i hil
      refine ⟨?_, e3⟩
      have := bulk_mem (ds := (List.range len).map fun i => DataW.agg [D0 i, D1 i]) (d := .agg [D0 i, D1 i]) (List.mem_map.2 ⟨i, hi, rfl⟩)
      rw [hd]
      simp only [Rows.uptoBulk, Rows.uptoBulkAll, e2] at this ⊢
      rw [Lib.size_eq]
      omega
theorem asks_of {H : Type} {enc : TypeId × Value → H} {W : World} {base : Nat} {sp : Nat → Bool} {hd : Bool} {fuel : Nat} {a : Option Addr} {len cap : Nat} {d : DataW H} {p : List MemPlace}
    (h : DataW.trod enc Tryd.prog W base sp hd fuel 22 [.slice a len cap] = some (d, p)) :
    ∃ l : List (ByteArray × Int), Asks W a len l ∧ (len ≤ Rows.uptoBulk d ∧ ∀ x ∈ l, x.1.size ≤ Rows.uptoBulk d ∧ (-9223372036854775808 ≤ x.2 ∧ x.2 ≤ 9223372036854775807)) := asks_open Tryd.underlying25 rfl rfl rfl rfl h
end Go.Proofs.YtjgeeimkcghmoaaDoor
