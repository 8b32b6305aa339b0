/-
  Calls of package cluster as a region that draws its order meets them: each answers the same in every order, and only makes memory. Conditions: the two tables of unicode/utf8 lie as their text lays them; the text can be read.
-/
import Derived.Test.YtjgeeimkcghmoabDoorCFixed
import Derived.Lib.QuietBelow
namespace Go.Proofs.YtjgeeimkcghmoabDoor
open Go.RowKit Go.Sort Bod Wid

/-- a call that only makes memory, in a region that draws its order -/
theorem regrown {f : Nat} {args : Array Value} {v : Value} {W : World} (h : ∀ w, Below W.heap.size W w → Calls Tryd.prog f args w fun e w' => e = .returned v ∧ Below w.heap.size w w') :
    ∀ d os, Calls Tryd.prog f args (grow (redrawn W d) os) fun e w'' => e = .returned v ∧ ∃ p : Regrown, w'' = grow (redrawn W p.d) p.os := fun d os => Calls.regrown_of (h _ (below_regrown W d os))
theorem bound_q {s : ByteArray} {i : Int} {q : Bool} (hs : s.size ≤ maxLen) (hi : i ≤ 9223372036854775807) (hq : cbZ s i = q) {W : World} (hT : Lib.Utf8Tabs 0 1 W) :
    ∀ w, Below W.heap.size W w → Calls Tryd.prog 13 #[.string s, .int .i64 i] w fun e w' => e = .returned (.bool q) ∧ Below w.heap.size w w' := fun w hw => by
  rw [← hq]; exact cbound_any s i hs w (tabs_below hT hw) hi
theorem next_q {s : ByteArray} {i : Int} {m : Nat} (hs : s.size ≤ maxLen) (hm : IsNext s i m) {W : World} (hT : Lib.Utf8Tabs 0 1 W) :
    ∀ w, Below W.heap.size W w → Calls Tryd.prog 12 #[.string s, .int .i64 i] w fun e w' => e = .returned (.int .i64 m) ∧ Below w.heap.size w w' := fun w hw =>
  (cnext_any s i hs w (tabs_below hT hw)).mono fun e w' ⟨m', h1, h2, h3⟩ => ⟨by rw [h1, h2.uniq hm], h3⟩
theorem snap_q {s : ByteArray} {i : Int} {m : Nat} (hs : s.size ≤ maxLen) (hi : i ≤ 9223372036854775807) (hm : IsSnap s i m) {W : World} (hT : Lib.Utf8Tabs 0 1 W) :
    ∀ w, Below W.heap.size W w → Calls Tryd.prog 19 #[.string s, .int .i64 i] w fun e w' => e = .returned (.int .i64 m) ∧ Below w.heap.size w w' := fun w hw =>
  (csnap_any s i hs w (tabs_below hT hw) hi).mono fun e w' ⟨m', h1, h2, h3⟩ => ⟨by rw [h1, h2.uniq hm], h3⟩
/-- .. and from where the law began -/
theorem from_q {f : Nat} {args : Array Value} {v : Value} {w W : World} (h : ∀ w', Below W.heap.size W w' → Calls Tryd.prog f args w' fun e w'' => e = .returned v ∧ Below w'.heap.size w' w'') (hW : Below w.heap.size w W) :
    Calls Tryd.prog f args W fun e w'' => e = .returned v ∧ Below w.heap.size w w'' := (h W (Below.refl _ _)).mono fun _ _ ⟨h1, h2⟩ => ⟨h1, hW.trans (h2.mono hW.size)⟩

/-- the cells of the k-th cluster of a list -/
theorem ccl_get : ∀ (l : List Clu) (k : Nat) (c : Clu), l[k]? = some c → (ccl l)[k * 4]? = some (.int .i64 c.fr) ∧ (ccl l)[k * 4 + 1]? = some (.int .i64 c.to) ∧ (ccl l)[k * 4 + 2]? = some (.int .i64 c.k) ∧ (ccl l)[k * 4 + 3]? = some (.int .i64 c.n)
  | [], _, _, h => by simp at h
  | d :: l, 0, c, h => by
    have : d = c := by simpa using h
    subst this
    simp [ccl]
  | d :: l, k + 1, c, h => by
    have := ccl_get l k c (by simpa using h)
    have e : ccl (d :: l) = [.int .i64 (d.fr : Int), .int .i64 (d.to : Int), .int .i64 d.k, .int .i64 d.n] ++ ccl l := by simp [ccl]
    rw [e, show (k + 1) * 4 = k * 4 + 4 by omega]
    simpa using this
theorem ccl_len : ∀ l : List Clu, (ccl l).length = l.length * 4
  | [] => rfl
  | d :: l => by
    have e : ccl (d :: l) = [.int .i64 (d.fr : Int), .int .i64 (d.to : Int), .int .i64 d.k, .int .i64 d.n] ++ ccl l := by simp [ccl]
    rw [e, List.length_append, ccl_len l]; simp; omega
/-- a slice value that reads as a list of clusters -/
def Rd4 (W : World) (v : Value) (l : List Clu) : Prop :=
  ∃ a cap, v = .slice a l.length cap ∧ (l ≠ [] → ∃ g, a = some ⟨g, 0, none⟩ ∧ g < W.heap.size ∧ ∀ k c, l[k]? = some c → W.cell? ⟨g, k * 4, none⟩ = some (.int .i64 c.fr) ∧ W.cell? ⟨g, k * 4 + 1, none⟩ = some (.int .i64 c.to) ∧ W.cell? ⟨g, k * 4 + 2, none⟩ = some (.int .i64 c.k) ∧ W.cell? ⟨g, k * 4 + 3, none⟩ = some (.int .i64 c.n))
theorem Rd4.of_row {W : World} {base : Nat} {v : Value} {l : List Clu} (h : W.ownsRow base 29 4 v l.length (ccl l)) : Rd4 W v l := by
  rcases h.2 with ⟨h0, h1⟩ | ⟨g, cap, cur, hv, _⟩
  · have : l = [] := List.length_eq_zero_iff.1 h1
    subst this
    exact ⟨_, _, h0, fun h => absurd rfl h⟩
  · subst hv
    refine ⟨_, _, rfl, fun _ => ⟨g, rfl, (h.lt g rfl).2, fun k c hk => ?_⟩⟩
    have hkl : k < l.length := (List.getElem?_eq_some_iff.1 hk).1
    have hl := ccl_len l
    obtain ⟨e0, e1, e2, e3⟩ := ccl_get l k c hk
    exact ⟨(h.cellAt (k * 4) (by omega)).trans e0, (h.cellAt (k * 4 + 1) (by omega)).trans e1, (h.cellAt (k * 4 + 2) (by omega)).trans e2, (h.cellAt (k * 4 + 3) (by omega)).trans e3⟩
theorem Rd4.below {W W' : World} {v : Value} {l : List Clu} (h : Rd4 W v l) (hb : Below W.heap.size W W') : Rd4 W' v l := by
  obtain ⟨a, cap, rfl, g⟩ := h
  refine ⟨a, cap, rfl, fun h0 => ?_⟩
  obtain ⟨b, rfl, hlt, k⟩ := g h0
  refine ⟨b, rfl, Nat.lt_of_lt_of_le hlt hb.size, fun j c hj => ?_⟩
  obtain ⟨e0, e1, e2, e3⟩ := k j c hj
  exact ⟨(hb.cell (p := ⟨b, j * 4, none⟩) hlt).trans e0, (hb.cell (p := ⟨b, j * 4 + 1, none⟩) hlt).trans e1, (hb.cell (p := ⟨b, j * 4 + 2, none⟩) hlt).trans e2, (hb.cell (p := ⟨b, j * 4 + 3, none⟩) hlt).trans e3⟩
end Go.Proofs.YtjgeeimkcghmoabDoor
