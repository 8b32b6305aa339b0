/-
  A list of clusters in memory, and calls that only make memory. No program is walked in this text; no conditions.
-/
import Derived.Test.YtfjoklbiocniiaaDoorPkB
import Derived.Test.YtfjoklbiocniiaaDoorKBase
namespace Go.Proofs.YtfjoklbiocniiaaDoor
open Go.RowKit Go.Sort Bod Wid

/-- the cells of a list of clusters -/
def ccl (l : List Clu) : List Value := l.flatMap fun c => [.int .i64 (c.fr : Int), .int .i64 (c.to : Int), .int .i64 c.k, .int .i64 c.n]
theorem ccl_snoc (l : List Clu) (c : Clu) : ccl (l ++ [c]) = ccl l ++ [.int .i64 (c.fr : Int), .int .i64 (c.to : Int), .int .i64 c.k, .int .i64 c.n] := by simp [ccl]
theorem infoC : (Tryd.prog.info? 56).map (fun i => (i.zero, i.size, i.bytes)) = some (some (.agg #[.int .i64 0, .int .i64 0, .int .i64 0, .int .i64 0]), 4, 32) := by kernel_rfl
theorem row_lower {W : World} {a b size n : Nat} {e : TypeId} {v : Value} {xs : List Value} (h : W.ownsRow b e size v n xs) (hab : a ≤ b) : W.ownsRow a e size v n xs :=
  ⟨h.1, h.2.imp id fun ⟨g, cap, cur, h1, h2, h3⟩ => ⟨g, cap, cur, h1, Nat.le_trans hab h2, h3⟩⟩
/-- a call that only makes memory, in a region that draws its order -/
theorem regrown {f : Nat} {args : Array Value} {v : Value} {W : World} (h : ∀ w, Below W.heap.size W w → Calls Tryd.prog f args w fun e w' => e = .returned v ∧ Below w.heap.size w w') :
    ∀ d os, Calls Tryd.prog f args (grow (redrawn W d) os) fun e w'' => e = .returned v ∧ ∃ p : Regrown, w'' = grow (redrawn W p.d) p.os := fun d os => Calls.regrown_of (h _ (below_regrown W d os))
/-- .. and from where the law began -/
theorem from_q {f : Nat} {args : Array Value} {v : Value} {w W : World} (h : ∀ w', Below W.heap.size W w' → Calls Tryd.prog f args w' fun e w'' => e = .returned v ∧ Below w'.heap.size w' w'') (hW : Below w.heap.size w W) :
    Calls Tryd.prog f args W fun e w'' => e = .returned v ∧ Below w.heap.size w w'' := (h W (Below.refl _ _)).mono fun _ _ ⟨h1, h2⟩ => ⟨h1, hW.trans (h2.mono hW.size)⟩

/-- the cells of the k-th cluster of a list -/
theorem ccl_get : ∀ (l : List Clu) (k : Nat) (c : Clu), l[k]? = some c → (ccl l)[k * 4]? = some (.int .i64 c.fr) ∧ (ccl l)[k * 4 + 1]? = some (.int .i64 c.to) ∧ (ccl l)[k * 4 + 2]? = some (.int .i64 c.k) ∧ (ccl l)[k * 4 + 3]? = some (.int .i64 c.n)
  | [], _, _, h => by simp at h
  | d :: l, 0, c, h => by
    have : d = c := by simpa using h
    subst this
    simp [ccl]
  | d :: l, k + 1, c, h => by
    have := ccl_get l k c (by simpa using h)
    have e : ccl (d :: l) = [.int .i64 (d.fr : Int), .int .i64 (d.to : Int), .int .i64 d.k, .int .i64 d.n] ++ ccl l := by simp [ccl]
    rw [e, show (k + 1) * 4 = k * 4 + 4 by omega]
    simpa using this
theorem ccl_len : ∀ l : List Clu, (ccl l).length = l.length * 4
  | [] => rfl
  | d :: l => by
    have e : ccl (d :: l) = [.int .i64 (d.fr : Int), .int .i64 (d.to : Int), .int .i64 d.k, .int .i64 d.n] ++ ccl l := by simp [ccl]
    rw [e, List.length_append, ccl_len l]; simp; omega
/-- a slice value that reads as a list of clusters -/
def Rd4 (W : World) (v : Value) (l : List Clu) : Prop :=
  ∃ a cap, v = .slice a l.length cap ∧ (l ≠ [] → ∃ g, a = some ⟨g, 0, none⟩ ∧ g < W.heap.size ∧ ∀ k c, l[k]? = some c → W.cell? ⟨g, k * 4, none⟩ = some (.int .i64 c.fr) ∧ W.cell? ⟨g, k * 4 + 1, none⟩ = some (.int .i64 c.to) ∧ W.cell? ⟨g, k * 4 + 2, none⟩ = some (.int .i64 c.k) ∧ W.cell? ⟨g, k * 4 + 3, none⟩ = some (.int .i64 c.n))
theorem Rd4.of_row {W : World} {base : Nat} {v : Value} {l : List Clu} (h : W.ownsRow base 56 4 v l.length (ccl l)) : Rd4 W v l := by
  rcases h.2 with ⟨h0, h1⟩ | ⟨g, cap, cur, hv, _⟩
  · have : l = [] := List.length_eq_zero_iff.1 h1
    subst this
    exact ⟨_, _, h0, fun h => absurd rfl h⟩
  · subst hv
    refine ⟨_, _, rfl, fun _ => ⟨g, rfl, (h.lt g rfl).2, fun k c hk => ?_⟩⟩
    have hkl : k < l.length := (List.getElem?_eq_some_iff.1 hk).1
    have hl := ccl_len l
    obtain ⟨e0, e1, e2, e3⟩ := ccl_get l k c hk
    exact ⟨(h.cellAt (k * 4) (by omega)).trans e0, (h.cellAt (k * 4 + 1) (by omega)).trans e1, (h.cellAt (k * 4 + 2) (by omega)).trans e2, (h.cellAt (k * 4 + 3) (by omega)).trans e3⟩
theorem Rd4.below {W W' : World} {v : Value} {l : List Clu} (h : Rd4 W v l) (hb : Below W.heap.size W W') : Rd4 W' v l := by
  obtain ⟨a, cap, rfl, g⟩ := h
  refine ⟨a, cap, rfl, fun h0 => ?_⟩
  obtain ⟨b, rfl, hlt, k⟩ := g h0
  refine ⟨b, rfl, Nat.lt_of_lt_of_le hlt hb.size, fun j c hj => ?_⟩
  obtain ⟨e0, e1, e2, e3⟩ := k j c hj
  exact ⟨(hb.cell (p := ⟨b, j * 4, none⟩) hlt).trans e0, (hb.cell (p := ⟨b, j * 4 + 1, none⟩) hlt).trans e1, (hb.cell (p := ⟨b, j * 4 + 2, none⟩) hlt).trans e2, (hb.cell (p := ⟨b, j * 4 + 3, none⟩) hlt).trans e3⟩
end Go.Proofs.YtfjoklbiocniiaaDoor
