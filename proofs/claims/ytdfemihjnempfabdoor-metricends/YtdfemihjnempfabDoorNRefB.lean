/-
  The walk of the document's own two of package metric: what MMath tells. Conditions: the summaries are small; the text is so short that its lists can be made.
-/
import Derived.Test.YtdfemihjnempfabDoorNRef
namespace Go.Proofs.YtdfemihjnempfabDoor
open Go.RowKit Bod Wid

/-- two summaries joined, by their ends -/
def jn2 (x y : Sum) : Sum := ⟨x.by' + y.by', x.un + y.un + kU.of (x.tl ++ y.hd) - kU.of x.tl - kU.of y.hd, x.cl + y.cl + kC.of (x.tl ++ y.hd) - kC.of x.tl - kC.of y.hd, x.ce + y.ce + kN.of (x.tl ++ y.hd) - kN.of x.tl - kN.of y.hd, x.nl + y.nl,
  if x.hd.size < 16 then hd (x.hd ++ y.hd) else x.hd, if y.tl.size < 16 then tl (x.tl ++ y.tl) else y.tl⟩
theorem jn2_smr (a b : ByteArray) : jn2 (smr a) (smr b) = smr (a ++ b) := by
  unfold jn2 smr
  simp only [of_app _ a b, hd_app a b, tl_app a b, nls_app, size_app]
  simp
/-- no number of a summary is great, and its ends are short -/
structure Small (m : Sum) : Prop where
  b : -1152921504606846976 ≤ m.by' ∧ m.by' ≤ 1152921504606846976
  u : -1152921504606846976 ≤ m.un ∧ m.un ≤ 1152921504606846976
  c : -1152921504606846976 ≤ m.cl ∧ m.cl ≤ 1152921504606846976
  e : -1152921504606846976 ≤ m.ce ∧ m.ce ≤ 1152921504606846976
  n : -1152921504606846976 ≤ m.nl ∧ m.nl ≤ 1152921504606846976
  h : m.hd.size ≤ 16
  t : m.tl.size ≤ 16
theorem cnt_bd (s : ByteArray) : (0 ≤ kU.of s ∧ kU.of s ≤ s.size) ∧ (0 ≤ kC.of s ∧ kC.of s ≤ s.size) ∧ (0 ≤ kN.of s ∧ kN.of s ≤ 2 * s.size) := by
  refine ⟨?_, ?_, ?_⟩
  · rw [kU_of]; have := offs_len_le s; omega
  · rw [kC_of]; have := cl_len s; omega
  · rw [kN_of]
    have := sumN_bd (cl s) (cl_n s)
    have := cl_len s
    omega
theorem smr_small {s : ByteArray} (hs : s.size ≤ 4398046511104) : Small (smr s) := by
  obtain ⟨h1, h2, h3⟩ := cnt_bd s
  have h4 := nls_le s
  refine ⟨?_, ?_, ?_, ?_, ?_, ?_, ?_⟩
  · show _ ≤ (s.size : Int) ∧ (s.size : Int) ≤ _; omega
  · show _ ≤ kU.of s ∧ kU.of s ≤ _; omega
  · show _ ≤ kC.of s ∧ kC.of s ≤ _; omega
  · show _ ≤ kN.of s ∧ kN.of s ≤ _; omega
  · show _ ≤ (nls s : Int) ∧ (nls s : Int) ≤ _; omega
  · show (hd s).size ≤ 16; rw [hd_size]; omega
  · show (tl s).size ≤ 16; rw [tl_size]; omega
theorem push3 (a : Array Obj) (o0 o1 o2 : Obj) : (((a.push o0).push o1).push o2)[a.size]? = some o0 ∧ (((a.push o0).push o1).push o2)[a.size + 1]? = some o1 ∧ (((a.push o0).push o1).push o2)[a.size + 1 + 1]? = some o2 := by
  obtain ⟨h0, h1⟩ := push2' a o0 o1
  refine ⟨?_, ?_, ?_⟩
  · rw [Array.getElem?_push, if_neg (by simp only [Array.size_push]; omega)]; exact h0
  · rw [Array.getElem?_push, if_neg (by simp only [Array.size_push]; omega)]; exact h1
  · rw [← Array.size_push o0, ← Array.size_push o1, Array.getElem?_push_size]

theorem cell_lt {W : World} {p : Addr} {v : Value} (h : W.cell? p = some v) : p.block < W.heap.size := by
  unfold World.cell? at h
  cases ho : W.heap[p.block]? with
  | none => simp [ho] at h
  | some o => exact (Array.getElem?_eq_some_iff.1 ho).1
theorem cell_al {W : World} {p : Addr} {v : Value} (h : W.cell? p = some v) : ∀ o, (W.alloc o).cell? p = some v := fun o => (((Below.refl _ W).alloc (Nat.le_refl _) o).cell (p := p) (cell_lt h)).trans h
theorem frozen_al {W : World} {p : Addr} {v : Value} {b : Bool} (h : W.frozen? p = b) (hc : W.cell? p = some v) : ∀ o, (W.alloc o).frozen? p = b := fun o => (((Below.refl _ W).alloc (Nat.le_refl _) o).frozen (p := p) (cell_lt hc)).trans h
theorem set7_box {W : World} {b : Nat} {t : TypeId} {a0 a1 a2 a3 a4 a5 a6 : Value} (h : W.heap[b]? = some (.cells #[a0, a1, a2, a3, a4, a5, a6] t (0, 0))) (u0 u1 u2 u3 u4 u5 u6 : Value) :
    ((((((((W).setCell ⟨b, 0, none⟩ u0).setCell ⟨b, 1, none⟩ u1).setCell ⟨b, 2, none⟩ u2).setCell ⟨b, 3, none⟩ u3).setCell ⟨b, 4, none⟩ u4).setCell ⟨b, 5, none⟩ u5).setCell ⟨b, 6, none⟩ u6).heap[b]? = some (.cells #[u0, u1, u2, u3, u4, u5, u6] t (0, 0)) := by
  have h0 : (W.setCell ⟨b, 0, none⟩ u0).heap[b]? = some (.cells #[u0, a1, a2, a3, a4, a5, a6] t (0, 0)) := set1 (i := 0) u0 h
  have h1 : ((W.setCell ⟨b, 0, none⟩ u0).setCell ⟨b, 1, none⟩ u1).heap[b]? = some (.cells #[u0, u1, a2, a3, a4, a5, a6] t (0, 0)) := set1 (i := 1) u1 h0
  have h2 : (((W.setCell ⟨b, 0, none⟩ u0).setCell ⟨b, 1, none⟩ u1).setCell ⟨b, 2, none⟩ u2).heap[b]? = some (.cells #[u0, u1, u2, a3, a4, a5, a6] t (0, 0)) := set1 (i := 2) u2 h1
  have h3 : ((((W.setCell ⟨b, 0, none⟩ u0).setCell ⟨b, 1, none⟩ u1).setCell ⟨b, 2, none⟩ u2).setCell ⟨b, 3, none⟩ u3).heap[b]? = some (.cells #[u0, u1, u2, u3, a4, a5, a6] t (0, 0)) := set1 (i := 3) u3 h2
  have h4 : (((((W.setCell ⟨b, 0, none⟩ u0).setCell ⟨b, 1, none⟩ u1).setCell ⟨b, 2, none⟩ u2).setCell ⟨b, 3, none⟩ u3).setCell ⟨b, 4, none⟩ u4).heap[b]? = some (.cells #[u0, u1, u2, u3, u4, a5, a6] t (0, 0)) := set1 (i := 4) u4 h3
  have h5 : ((((((W.setCell ⟨b, 0, none⟩ u0).setCell ⟨b, 1, none⟩ u1).setCell ⟨b, 2, none⟩ u2).setCell ⟨b, 3, none⟩ u3).setCell ⟨b, 4, none⟩ u4).setCell ⟨b, 5, none⟩ u5).heap[b]? = some (.cells #[u0, u1, u2, u3, u4, u5, a6] t (0, 0)) := set1 (i := 5) u5 h4
  have h6 : (((((((W.setCell ⟨b, 0, none⟩ u0).setCell ⟨b, 1, none⟩ u1).setCell ⟨b, 2, none⟩ u2).setCell ⟨b, 3, none⟩ u3).setCell ⟨b, 4, none⟩ u4).setCell ⟨b, 5, none⟩ u5).setCell ⟨b, 6, none⟩ u6).heap[b]? = some (.cells #[u0, u1, u2, u3, u4, u5, u6] t (0, 0)) := set1 (i := 6) u6 h5
  exact h6
theorem res7 {W : World} {b : Nat} {t : TypeId} {a0 a1 a2 a3 a4 a5 a6 : Value} (h : W.heap[b]? = some (.cells #[a0, a1, a2, a3, a4, a5, a6] t (0, 0))) (u0 u1 u2 u3 u4 u5 u6 : Value) (o : Obj) :
    (((((((((W).setCell ⟨b, 0, none⟩ u0).setCell ⟨b, 1, none⟩ u1).setCell ⟨b, 2, none⟩ u2).setCell ⟨b, 3, none⟩ u3).setCell ⟨b, 4, none⟩ u4).setCell ⟨b, 5, none⟩ u5).setCell ⟨b, 6, none⟩ u6).alloc o).cell? ⟨b, 0, none⟩ = some u0 ∧ (((((((((W).setCell ⟨b, 0, none⟩ u0).setCell ⟨b, 1, none⟩ u1).setCell ⟨b, 2, none⟩ u2).setCell ⟨b, 3, none⟩ u3).setCell ⟨b, 4, none⟩ u4).setCell ⟨b, 5, none⟩ u5).setCell ⟨b, 6, none⟩ u6).alloc o).cell? ⟨b, 1, none⟩ = some u1 ∧ (((((((((W).setCell ⟨b, 0, none⟩ u0).setCell ⟨b, 1, none⟩ u1).setCell ⟨b, 2, none⟩ u2).setCell ⟨b, 3, none⟩ u3).setCell ⟨b, 4, none⟩ u4).setCell ⟨b, 5, none⟩ u5).setCell ⟨b, 6, none⟩ u6).alloc o).cell? ⟨b, 2, none⟩ = some u2 ∧ (((((((((W).setCell ⟨b, 0, none⟩ u0).setCell ⟨b, 1, none⟩ u1).setCell ⟨b, 2, none⟩ u2).setCell ⟨b, 3, none⟩ u3).setCell ⟨b, 4, none⟩ u4).setCell ⟨b, 5, none⟩ u5).setCell ⟨b, 6, none⟩ u6).alloc o).cell? ⟨b, 3, none⟩ = some u3 ∧ (((((((((W).setCell ⟨b, 0, none⟩ u0).setCell ⟨b, 1, none⟩ u1).setCell ⟨b, 2, none⟩ u2).setCell ⟨b, 3, none⟩ u3).setCell ⟨b, 4, none⟩ u4).setCell ⟨b, 5, none⟩ u5).setCell ⟨b, 6, none⟩ u6).alloc o).cell? ⟨b, 4, none⟩ = some u4 ∧ (((((((((W).setCell ⟨b, 0, none⟩ u0).setCell ⟨b, 1, none⟩ u1).setCell ⟨b, 2, none⟩ u2).setCell ⟨b, 3, none⟩ u3).setCell ⟨b, 4, none⟩ u4).setCell ⟨b, 5, none⟩ u5).setCell ⟨b, 6, none⟩ u6).alloc o).cell? ⟨b, 5, none⟩ = some u5 ∧ (((((((((W).setCell ⟨b, 0, none⟩ u0).setCell ⟨b, 1, none⟩ u1).setCell ⟨b, 2, none⟩ u2).setCell ⟨b, 3, none⟩ u3).setCell ⟨b, 4, none⟩ u4).setCell ⟨b, 5, none⟩ u5).setCell ⟨b, 6, none⟩ u6).alloc o).cell? ⟨b, 6, none⟩ = some u6 := by
  obtain ⟨⟨h0, h1, h2, h3, h4, h5, h6⟩, -⟩ := box7 (set7_box h u0 u1 u2 u3 u4 u5 u6)
  exact ⟨cell_al h0 o, cell_al h1 o, cell_al h2 o, cell_al h3 o, cell_al h4 o, cell_al h5 o, cell_al h6 o⟩
theorem set7_bel {w W : World} {b : Nat} (h : Below w.heap.size w W) (hb : w.heap.size ≤ b) (u0 u1 u2 u3 u4 u5 u6 : Value) (o : Obj) : Below w.heap.size w (((((((((W).setCell ⟨b, 0, none⟩ u0).setCell ⟨b, 1, none⟩ u1).setCell ⟨b, 2, none⟩ u2).setCell ⟨b, 3, none⟩ u3).setCell ⟨b, 4, none⟩ u4).setCell ⟨b, 5, none⟩ u5).setCell ⟨b, 6, none⟩ u6).alloc o) := by
  have := ((((((h.setCell (p := ⟨b, 0, none⟩) hb u0).setCell (p := ⟨b, 1, none⟩) hb u1).setCell (p := ⟨b, 2, none⟩) hb u2).setCell (p := ⟨b, 3, none⟩) hb u3).setCell (p := ⟨b, 4, none⟩) hb u4).setCell (p := ⟨b, 5, none⟩) hb u5).setCell (p := ⟨b, 6, none⟩) hb u6
  exact this.alloc this.size o
/-- what lies where: the two that are joined, the result's box, and others -/
structure TW (w : World) (x y : Sum) (l : List (Nat × Sum)) (W : World) : Prop where
  a : W.heap[w.heap.size]? = some (.cells (scs x) 24 (0, 0))
  b : W.heap[w.heap.size + 1]? = some (.cells (scs y) 24 (0, 0))
  r : W.heap[w.heap.size + 1 + 1]? = some (.cells (scs sm0) 24 (0, 0))
  o : ∀ p ∈ l, W.heap[p.1]? = some (.cells (scs p.2) 24 (0, 0))
  bel : Below w.heap.size w W
theorem TW.below {w : World} {x y : Sum} {l : List (Nat × Sum)} {W W' : World} (h : TW w x y l W) (hb : Below W.heap.size W W') : TW w x y l W' := by
  have kp : ∀ {k : Nat} {o : Obj}, W.heap[k]? = some o → W'.heap[k]? = some o := fun ho => (hb.block _ (Array.getElem?_eq_some_iff.1 ho).1).trans ho
  exact ⟨kp h.a, kp h.b, kp h.r, fun p hp => kp (h.o p hp), h.bel.trans (hb.mono h.bel.size)⟩
theorem TW.push {w : World} {x y : Sum} {l : List (Nat × Sum)} {W W' : World} {m : Sum} (h : TW w x y l W) (hW : W.alloc (.cells (scs m) 24) = W') : TW w x y ((W.heap.size, m) :: l) W' := by
  have h2 := h.below (W' := W') (by rw [← hW]; exact (Below.refl _ W).alloc (Nat.le_refl _) _)
  refine ⟨h2.a, h2.b, h2.r, fun p hp => ?_, h2.bel⟩
  rcases List.mem_cons.1 hp with rfl | hp
  · rw [← hW]; exact World.alloc_heap_new W _
  · exact h2.o p hp
theorem TW.lt {w : World} {x y : Sum} {l : List (Nat × Sum)} {W : World} (h : TW w x y l W) : w.heap.size + 2 < W.heap.size := by
  have := (Array.getElem?_eq_some_iff.1 h.r).1
  omega

end Go.Proofs.YtdfemihjnempfabDoor
