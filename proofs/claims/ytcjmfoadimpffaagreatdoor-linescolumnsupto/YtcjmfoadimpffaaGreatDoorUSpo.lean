/-
  A slice of lines and columns, as an argument: how it reads. No program is walked in this text; no conditions.
-/
import Derived.Test.YtcjmfoadimpffaaGreatDoorPkUK
namespace Go.Proofs.YtcjmfoadimpffaaGreatDoor.Sto
open Go.ChangeShapes Go.WideShapes Go.ChangeAt Go.RowKit Go.Deep

/-- a slice that reads as pairs of numbers -/
def Spots (W : World) (a : Option Addr) (len : Nat) (l : List (Int × Int)) : Prop :=
  l.length = len ∧ (∀ x ∈ l, (-9223372036854775808 ≤ x.1 ∧ x.1 ≤ 9223372036854775807) ∧ (-9223372036854775808 ≤ x.2 ∧ x.2 ≤ 9223372036854775807)) ∧ (len ≠ 0 → ∃ b o, a = some ⟨b, o, none⟩ ∧ b < W.heap.size ∧ ∀ (k : Nat) (x : Int × Int), l[k]? = some x → W.cell? ⟨b, o + k * 2, none⟩ = some (.int .i64 x.1) ∧ W.cell? ⟨b, o + k * 2 + 1, none⟩ = some (.int .i64 x.2))
theorem bulk_len {H : Type} (D : Nat → DataW H) (hD : ∀ i, 1 ≤ Rows.uptoBulk (D i)) : ∀ n, n ≤ Rows.uptoBulkAll ((List.range n).map D)
  | 0 => Nat.zero_le _
  | n + 1 => by
    have ba : ∀ a b : List (DataW H), Rows.uptoBulkAll (a ++ b) = Rows.uptoBulkAll a + Rows.uptoBulkAll b := fun a b => by
      induction a with
      | nil => simp [Rows.uptoBulkAll]
      | cons x a ih => simp only [List.cons_append, Rows.uptoBulkAll, ih]; omega
    have := bulk_len D hD n
    have := hD n
    rw [List.range_succ, List.map_append, ba]
    simp only [List.map_cons, List.map_nil, Rows.uptoBulkAll]
    omega
theorem spots_of {H : Type} {enc : TypeId × Value → H} {W : World} {base : Nat} {sp : Nat → Bool} {hd : Bool} {fuel : Nat} {a : Option Addr} {len cap : Nat} {d : DataW H} {p : List MemPlace}
    (h : DataW.trod enc Tryz.prog W base sp hd fuel 61 [.slice a len cap] = some (d, p)) :
    ∃ l : List (Int × Int), Spots W a len l ∧ len ≤ Rows.uptoBulk d := by
  rcases open_slice Tryz.underlying61 h with ⟨hcs, _⟩ | ⟨x, l, c, m, n, D, Pl, hcs, _, hl, hm, hmm, hx, hcell⟩
  · simp at hcs
    obtain ⟨rfl, rfl, rfl⟩ := hcs
    exact ⟨[], ⟨rfl, fun x h => (by cases h), fun h => absurd rfl h⟩, Nat.zero_le _⟩
  · simp at hcs
    obtain ⟨rfl, rfl, rfl⟩ := hcs
    have hlm : len ≤ m := by rw [hmm]; split <;> omega
    have ce : Tryz.prog.cellsOf 64 = 2 := by kernel_rfl
    have each : ∀ i, i < len → ∃ y : Int × Int, (∀ j, j < 2 → W.cell? (x.add (i * 2 + j)) = [Value.int .i64 y.1, Value.int .i64 y.2][j]?) ∧ (-9223372036854775808 ≤ y.1 ∧ y.1 ≤ 9223372036854775807) ∧ (-9223372036854775808 ≤ y.2 ∧ y.2 ≤ 9223372036854775807) := fun i hi => by
      obtain ⟨cs', h1, h2⟩ := hcell i (by omega)
      rw [ce] at h1
      obtain ⟨_, hlen, hc⟩ := World.cells?_some h1
      obtain ⟨y, z, hy, b1, b2⟩ := spot_cells hlen h2
      refine ⟨(y, z), fun j hj => ?_, b1, b2⟩
      have := hc j hj
      rw [add_add, hy] at this
      exact this
    have : Inhabited (Int × Int) := ⟨(0, 0)⟩
    obtain ⟨f, hf⟩ := choose_lt each
    have hd : d = .slice ((List.range len).map D) ((List.range (m - len)).map fun j => D (len + j)) := congrArg Prod.fst hx
    have u : ∀ x : DataW H, 1 ≤ Rows.uptoBulk x := fun x => by
      cases x with
      | lit l => cases l <;> simp [Rows.uptoBulk]
      | _ => simp [Rows.uptoBulk]
    refine ⟨(List.range len).map f, ⟨by simp, fun y hy => ?_, fun h0 => ?_⟩, ?_⟩
    · obtain ⟨i, hi, rfl⟩ := List.mem_map.1 hy
      exact (hf i (List.mem_range.1 hi)).2
    · have hpos : 0 < len := by omega
      obtain ⟨b, off, spot⟩ := x
      have h00 := (hf 0 hpos).1 0 (by omega)
      have h00' : W.cell? (Addr.add ⟨b, off, spot⟩ (0 * 2 + 0)) = some (.int .i64 (f 0).1) := h00
      have hspot : spot = none := by simpa [Addr.add] using World.cell?_spot h00'
      subst hspot
      refine ⟨b, off, rfl, ?_, fun k y hk => ?_⟩
      · rw [Go.WideShapes.add_plain] at h00'
        unfold World.cell? at h00'
        cases ho : W.heap[b]? with
        | none => simp [ho] at h00'
        | some o => exact (Array.getElem?_eq_some_iff.1 ho).1
      · have hkl : k < len := by have := (List.getElem?_eq_some_iff.1 hk).1; simpa using this
        have hy : y = f k := by
          rw [List.getElem?_map, List.getElem?_range hkl] at hk
          simpa using hk.symm
        subst hy
        have at' : ∀ j, j < 2 → W.cell? ⟨b, off + k * 2 + j, none⟩ = [Value.int .i64 (f k).1, Value.int .i64 (f k).2][j]? := fun j hj => by
          have := (hf k hkl).1 j hj
          rw [Go.WideShapes.add_plain, ← Nat.add_assoc] at this
          exact this
        exact ⟨at' 0 (by omega), at' 1 (by omega)⟩
    · rw [hd]
      have := bulk_len D (fun i => u _) len
      simp only [Rows.uptoBulk]
      omega
end Go.Proofs.YtcjmfoadimpffaaGreatDoor.Sto
