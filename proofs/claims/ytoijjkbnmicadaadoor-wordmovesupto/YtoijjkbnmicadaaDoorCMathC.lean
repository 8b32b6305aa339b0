/-
  The clusters of a text lie one behind the other; what is drawn for them, and how long that is. No program is walked in this text; no conditions.
-/
import Derived.Test.YtoijjkbnmicadaaDoorCMathB
import Derived.Test.YtoijjkbnmicadaaDoorCDrw
namespace Go.Proofs.YtoijjkbnmicadaaDoor
open Bod Wid

/-- the clusters lie one behind the other from i to j -/
def tiled : Nat → List Clu → Nat → Prop
  | i, [], j => i = j
  | i, c :: r, j => c.fr = i ∧ i < c.to ∧ tiled c.to r j
theorem clF_tile (s : ByteArray) : ∀ (f i : Nat) (c : Clu) (a : Int), s.size - i ≤ f → i ≤ s.size → c.to = i → c.fr < i → tiled c.fr (clF s c a (offs s i)) s.size
  | f, i, c, a, hf, hi, hto, hfr => by
    by_cases h : i < s.size
    · have h1 := sz_pos h
      have h2 := sz_in h
      cases f with
      | zero => omega
      | succ f =>
        rw [offs_step h]
        simp only [clF]
        split
        · exact clF_tile s f (i + sz s i) (gro s c i) _ (by omega) h2 (by show c.to + _ = _; omega) (by show c.fr < _; omega)
        · refine ⟨rfl, by omega, ?_⟩
          have := clF_tile s f (i + sz s i) (beg s i) (ch s i) (by omega) h2 rfl (by show i < _; omega)
          rw [hto]
          exact this
    · rw [offs_end (by omega)]
      exact ⟨rfl, by omega, by show c.to = s.size; omega⟩
theorem cl_tile (s : ByteArray) : tiled 0 (cl s) s.size := by
  by_cases h : 0 < s.size
  · have h1 := sz_pos h
    unfold cl
    rw [offs_step h]
    exact clF_tile s s.size (0 + sz s 0) (beg s 0) _ (by omega) (sz_in h) rfl (by show 0 < _; omega)
  · rw [cl_nil (by omega)]
    show 0 = s.size
    omega
theorem tiled_le : ∀ {l : List Clu} {i j : Nat}, tiled i l j → i ≤ j
  | [], _, _, h => Nat.le_of_eq h
  | c :: r, i, j, h => by have := tiled_le h.2.2; have := h.2.1; omega
theorem tiled_mem : ∀ {l : List Clu} {i j : Nat}, tiled i l j → ∀ c ∈ l, i ≤ c.fr ∧ c.fr < c.to ∧ c.to ≤ j
  | [], _, _, _, c, hc => by simp at hc
  | d :: r, i, j, h, c, hc => by
    obtain ⟨h1, h2, h3⟩ := h
    have h4 := tiled_le h3
    rcases List.mem_cons.1 hc with rfl | hc
    · omega
    · have := tiled_mem h3 c hc; omega
theorem tiled_app : ∀ {a b : List Clu} {i j : Nat}, tiled i (a ++ b) j → ∃ m, tiled i a m ∧ tiled m b j
  | [], b, i, j, h => ⟨i, rfl, h⟩
  | c :: a, b, i, j, h => by
    obtain ⟨h1, h2, h3⟩ := h
    obtain ⟨m, h4, h5⟩ := tiled_app h3
    exact ⟨m, ⟨h1, h2, h4⟩, h5⟩
theorem cl_span {s : ByteArray} {c : Clu} (h : c ∈ cl s) : c.fr < c.to ∧ c.to ≤ s.size := (tiled_mem (cl_tile s) c h).2

/-- the bytes from i to j -/
def sub (s : ByteArray) (i j : Nat) : List UInt8 := (s.extract i j).data.toList
theorem sub_len {s : ByteArray} {i j : Nat} (h : j ≤ s.size) : (sub s i j).length = j - i := by
  unfold sub
  rw [ByteArray.data_extract, Array.length_toList, Array.size_extract]
  have : s.data.size = s.size := rfl
  omega
/-- what is drawn for clusters of s -/
def drawnL (s : ByteArray) (l : List Clu) : List UInt8 := l.flatMap fun c => drw c.k (sub s c.fr c.to)
theorem drawnL_app (s : ByteArray) (a b : List Clu) : drawnL s (a ++ b) = drawnL s a ++ drawnL s b := by simp [drawnL]
theorem drw_len (k : Int) : ∀ own : List UInt8, (drw k own).length ≤ own.length + 2
  | [] => by simp [drw]
  | c :: r => by
    simp only [drw]
    repeat' split
    all_goals (simp only [List.length_cons, List.length_nil]; omega)
theorem drawnL_len {s : ByteArray} : ∀ {l : List Clu} {i j : Nat}, tiled i l j → j ≤ s.size → (drawnL s l).length ≤ 3 * (j - i)
  | [], _, _, _, _ => by simp [drawnL]
  | c :: r, i, j, h, hj => by
    obtain ⟨h1, h2, h3⟩ := h
    have h4 := drawnL_len h3 hj
    have h5 := tiled_le h3
    have h6 := drw_len c.k (sub s c.fr c.to)
    rw [sub_len (by omega)] at h6
    have e : drawnL s (c :: r) = drw c.k (sub s c.fr c.to) ++ drawnL s r := by simp [drawnL]
    rw [e, List.length_append]
    omega
theorem pre_drawn {s : ByteArray} {pre : List Clu} (h : pre <+: cl s) : (drawnL s pre).length ≤ 3 * s.size := by
  obtain ⟨t, ht⟩ := h
  have h1 := cl_tile s
  rw [← ht] at h1
  obtain ⟨m, h2, h3⟩ := tiled_app h1
  have h4 := tiled_le h3
  have := drawnL_len h2 h4
  omega
end Go.Proofs.YtoijjkbnmicadaaDoor
