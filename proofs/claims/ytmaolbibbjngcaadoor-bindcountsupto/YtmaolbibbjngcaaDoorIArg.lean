/-
  Slices of bytes and of Booleans, and a key, as arguments: how they read. No program is walked in this text; no conditions.
-/
import Derived.Test.YtmaolbibbjngcaaDoorILay
namespace Go.Proofs.YtmaolbibbjngcaaDoor
open Go.ChangeShapes Go.WideShapes Go.ChangeAt Go.RowKit Go.Deep

/-- a slice that reads as bytes -/
def RdBy (W : World) (v : Value) (l : List Int) : Prop :=
  ∃ a cap, v = .slice a l.length cap ∧ l.length ≤ cap ∧ (l ≠ [] → ∃ g o, a = some ⟨g, o, none⟩ ∧ g < W.heap.size ∧ ∀ (k : Nat) x, l[k]? = some x → W.cell? ⟨g, o + k, none⟩ = some (.int .u8 x))
def RdBo (W : World) (v : Value) (l : List Bool) : Prop :=
  ∃ a cap, v = .slice a l.length cap ∧ l.length ≤ cap ∧ (l ≠ [] → ∃ g o, a = some ⟨g, o, none⟩ ∧ g < W.heap.size ∧ ∀ (k : Nat) x, l[k]? = some x → W.cell? ⟨g, o + k, none⟩ = some (.bool x))
theorem RdBy.at {w W : World} {a : Option Addr} {n cap : Nat} {l : List Int} (h : RdBy w (.slice a n cap) l) (hW : Below w.heap.size w W) {i : Nat} {x : Int} (hx : l[i]? = some x) : ∃ g o, a = some ⟨g, o, none⟩ ∧ W.cell? ⟨g, o + i, none⟩ = some (.int .u8 x) := by
  obtain ⟨a', cap', e, _, h⟩ := h
  obtain ⟨g, o, e', hg, hc⟩ := h (fun e => by rw [e] at hx; simp at hx)
  cases e
  exact ⟨g, o, e', (hW.cell (p := ⟨g, o + i, none⟩) hg).trans (hc i x hx)⟩
theorem RdBo.at {w W : World} {a : Option Addr} {n cap : Nat} {l : List Bool} (h : RdBo w (.slice a n cap) l) (hW : Below w.heap.size w W) {i : Nat} {x : Bool} (hx : l[i]? = some x) : ∃ g o, a = some ⟨g, o, none⟩ ∧ W.cell? ⟨g, o + i, none⟩ = some (.bool x) := by
  obtain ⟨a', cap', e, _, h⟩ := h
  obtain ⟨g, o, e', hg, hc⟩ := h (fun e => by rw [e] at hx; simp at hx)
  cases e
  exact ⟨g, o, e', (hW.cell (p := ⟨g, o + i, none⟩) hg).trans (hc i x hx)⟩
section
variable {H : Type} {enc : TypeId × Value → H} {W : World} {base : Nat} {sp : Nat → Bool} {hd : Bool} {fuel : Nat} {a : Option Addr} {len cap : Nat} {d : DataW H} {p : List MemPlace}
theorem bys_of (h : DataW.trod enc Tryd.prog W base sp hd fuel 47 [.slice a len cap] = some (d, p)) :
    ∃ l : List Int, RdBy W (.slice a len cap) l ∧ (l.length ≤ Rows.uptoBulk d ∧ ∀ x ∈ l, 0 ≤ x ∧ x < 256) := by
  obtain ⟨l, hl, hr, hb, hp⟩ := els_of (α := Int) (c := 1) Tryd.underlying47 (by kernel_rfl) (by decide) (fun k => [.int .u8 k]) (fun _ => rfl) (fun _ => 1) (fun k => 0 ≤ k ∧ k < 256) (fun n l d h1 h2 => by
    obtain ⟨k, e, r, b⟩ := DataW.trod_int Tryd.underlying5 h2
    exact ⟨k, e, by rw [r]; simp [Rows.uptoBulk], bounds_u8 b⟩) h
  subst hl
  refine ⟨l, ⟨a, cap, rfl, ?_, fun h0 => ?_⟩, by have := sum_len (wt := fun _ : Int => 1) (fun _ => Nat.le_refl _) l; omega, hp⟩
  · cases l with
    | nil => exact Nat.zero_le _
    | cons x l => exact (hr (by simp)).1
  · obtain ⟨_, g, o, e, hg, hc⟩ := hr h0
    exact ⟨g, o, e, hg, fun k x hk => by have := hc k x hk 0 (by decide); simpa using this⟩
theorem bos_of (h : DataW.trod enc Tryd.prog W base sp hd fuel 48 [.slice a len cap] = some (d, p)) :
    ∃ l : List Bool, RdBo W (.slice a len cap) l ∧ l.length ≤ Rows.uptoBulk d := by
  obtain ⟨l, hl, hr, hb, hp⟩ := els_of (α := Bool) (c := 1) Tryd.underlying48 (by kernel_rfl) (by decide) (fun k => [.bool k]) (fun _ => rfl) (fun _ => 1) (fun _ => True) (fun n l d h1 h2 => by
    obtain ⟨k, e, r⟩ := DataW.trod_bool Tryd.underlying4 h2
    exact ⟨k, e, by rw [r]; simp [Rows.uptoBulk], trivial⟩) h
  subst hl
  refine ⟨l, ⟨a, cap, rfl, ?_, fun h0 => ?_⟩, by have := sum_len (wt := fun _ : Bool => 1) (fun _ => Nat.le_refl _) l; omega⟩
  · cases l with
    | nil => exact Nat.zero_le _
    | cons x l => exact (hr (by simp)).1
  · obtain ⟨_, g, o, e, hg, hc⟩ := hr h0
    exact ⟨g, o, e, hg, fun k x hk => by have := hc k x hk 0 (by decide); simpa using this⟩
end
theorem key_open {H : Type} {enc : TypeId × Value → H} {W : World} {base b0 : Nat} {sp : Nat → Bool} {hd : Bool} {r : Reach} {v : Value} {d : DataW H} {p : List MemPlace}
    (hv : Value.okWide Tryd.prog W r b0 30 v) (h : DataW.Trod enc Tryd.prog W base sp hd 30 v d p) : ∃ x : Ky, v = kyv x ∧ (x.tx.size + 1 ≤ Rows.uptoBulk d ∧ (-2147483648 ≤ x.ch ∧ x.ch ≤ 2147483647) ∧ (-9223372036854775808 ≤ x.kd ∧ x.kd ≤ 9223372036854775807)) := by
  obtain ⟨cs, rfl, hsz⟩ := okWide_struct Tryd.underlying30 hv
  obtain ⟨n, h⟩ := h
  have ce : Tryd.prog.cellsOf 30 = 6 := by kernel_rfl
  rw [ce] at hsz
  obtain ⟨x, e, h1⟩ := ky_open (by simpa [Value.cells] using hsz) h
  refine ⟨x, ?_, h1⟩
  obtain ⟨l⟩ := cs
  simp [Value.cells] at e
  rw [e]
  rfl
end Go.Proofs.YtmaolbibbjngcaaDoor
