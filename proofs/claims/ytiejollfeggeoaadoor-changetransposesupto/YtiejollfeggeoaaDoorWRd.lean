/-
  A slice that reads as a list of words. No program in this text; no conditions.
-/
import Derived.Test.YtiejollfeggeoaaDoorWMathD
import Derived.Test.YtiejollfeggeoaaDoorKBase
namespace Go.Proofs.YtiejollfeggeoaaDoor
open Go.RowKit Bod Wid

theorem spc_len : ∀ l : List (Nat × Nat), (spc l).length = l.length * 2
  | [] => rfl
  | p :: l => by
    have e : spc (p :: l) = [.int .i64 (p.1 : Int), .int .i64 (p.2 : Int)] ++ spc l := by simp [spc]
    rw [e, List.length_append, spc_len l]; simp; omega
theorem spc_get : ∀ (l : List (Nat × Nat)) (k : Nat) (p : Nat × Nat), l[k]? = some p → (spc l)[k * 2]? = some (.int .i64 p.1) ∧ (spc l)[k * 2 + 1]? = some (.int .i64 p.2)
  | [], _, _, h => by simp at h
  | d :: l, 0, c, h => by
    have : d = c := by simpa using h
    subst this
    simp [spc]
  | d :: l, k + 1, c, h => by
    have := spc_get l k c (by simpa using h)
    have e : spc (d :: l) = [.int .i64 (d.1 : Int), .int .i64 (d.2 : Int)] ++ spc l := by simp [spc]
    rw [e, show (k + 1) * 2 = k * 2 + 2 by omega]
    simpa using this
theorem words_len (s : ByteArray) : (words s).length ≤ s.size := by
  have h1 := wsp_len (fun c => wch (ch s c.fr)) (cl s)
  have h2 := (pre_bd (List.prefix_refl (cl s))).1
  exact Nat.le_trans h1 h2
/-- a slice value that reads as a list of words -/
def Rd2 (W : World) (v : Value) (l : List (Nat × Nat)) : Prop :=
  ∃ a cap, v = .slice a l.length cap ∧ (l ≠ [] → ∃ g, a = some ⟨g, 0, none⟩ ∧ g < W.heap.size ∧ ∀ k c, l[k]? = some c → W.cell? ⟨g, k * 2, none⟩ = some (.int .i64 c.1) ∧ W.cell? ⟨g, k * 2 + 1, none⟩ = some (.int .i64 c.2))
theorem Rd2.of_row {W : World} {base : Nat} {v : Value} {l : List (Nat × Nat)} (h : W.ownsRow base 70 2 v l.length (spc l)) : Rd2 W v l := by
  rcases h.2 with ⟨h0, h1⟩ | ⟨g, cap, cur, hv, _⟩
  · have : l = [] := List.length_eq_zero_iff.1 h1
    subst this
    exact ⟨_, _, h0, fun h => absurd rfl h⟩
  · subst hv
    refine ⟨_, _, rfl, fun _ => ⟨g, rfl, (h.lt g rfl).2, fun k c hk => ?_⟩⟩
    have hkl : k < l.length := (List.getElem?_eq_some_iff.1 hk).1
    have hl := spc_len l
    obtain ⟨e0, e1⟩ := spc_get l k c hk
    exact ⟨(h.cellAt (k * 2) (by omega)).trans e0, (h.cellAt (k * 2 + 1) (by omega)).trans e1⟩
theorem Rd2.below {W W' : World} {v : Value} {l : List (Nat × Nat)} (h : Rd2 W v l) (hb : Below W.heap.size W W') : Rd2 W' v l := by
  obtain ⟨a, cap, rfl, g⟩ := h
  refine ⟨a, cap, rfl, fun h0 => ?_⟩
  obtain ⟨b, rfl, hlt, k⟩ := g h0
  refine ⟨b, rfl, Nat.lt_of_lt_of_le hlt hb.size, fun j c hj => ?_⟩
  obtain ⟨e0, e1⟩ := k j c hj
  exact ⟨(hb.cell (p := ⟨b, j * 2, none⟩) hlt).trans e0, (hb.cell (p := ⟨b, j * 2 + 1, none⟩) hlt).trans e1⟩
end Go.Proofs.YtiejollfeggeoaaDoor
