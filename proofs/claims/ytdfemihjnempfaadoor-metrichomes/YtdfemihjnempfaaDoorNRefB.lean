/-
  The walk of the document's own two of package metric: what MMath tells. Conditions: the summaries are small; the text is so short that its lists can be made.
-/
import Derived.Test.YtdfemihjnempfaaDoorNRef
namespace Go.Proofs.YtdfemihjnempfaaDoor
open Go.RowKit Bod Wid

/-- two summaries joined, by their ends -/
def jn2 (x y : Sum) : Sum := ⟨x.by' + y.by', x.un + y.un + kU.of (x.tl ++ y.hd) - kU.of x.tl - kU.of y.hd, x.cl + y.cl + kC.of (x.tl ++ y.hd) - kC.of x.tl - kC.of y.hd, x.ce + y.ce + kN.of (x.tl ++ y.hd) - kN.of x.tl - kN.of y.hd, x.nl + y.nl,
  if x.hd.size < 16 then hd (x.hd ++ y.hd) else x.hd, if y.tl.size < 16 then tl (x.tl ++ y.tl) else y.tl⟩
theorem jn2_smr (a b : ByteArray) : jn2 (smr a) (smr b) = smr (a ++ b) := by
  unfold jn2 smr
  simp only [of_app _ a b, hd_app a b, tl_app a b, nls_app, size_app]
  simp
/-- no number of a summary is great, and its ends are short -/
structure Small (m : Sum) : Prop where
  b : -1152921504606846976 ≤ m.by' ∧ m.by' ≤ 1152921504606846976
  u : -1152921504606846976 ≤ m.un ∧ m.un ≤ 1152921504606846976
  c : -1152921504606846976 ≤ m.cl ∧ m.cl ≤ 1152921504606846976
  e : -1152921504606846976 ≤ m.ce ∧ m.ce ≤ 1152921504606846976
  n : -1152921504606846976 ≤ m.nl ∧ m.nl ≤ 1152921504606846976
  h : m.hd.size ≤ 16
  t : m.tl.size ≤ 16
theorem cnt_bd (s : ByteArray) : (0 ≤ kU.of s ∧ kU.of s ≤ s.size) ∧ (0 ≤ kC.of s ∧ kC.of s ≤ s.size) ∧ (0 ≤ kN.of s ∧ kN.of s ≤ 2 * s.size) := by
  refine ⟨?_, ?_, ?_⟩
  · rw [kU_of]; have := offs_len_le s; omega
  · rw [kC_of]; have := cl_len s; omega
  · rw [kN_of]
    have := sumN_bd (cl s) (cl_n s)
    have := cl_len s
    omega
theorem smr_small {s : ByteArray} (hs : s.size ≤ 4398046511104) : Small (smr s) := by
  obtain ⟨h1, h2, h3⟩ := cnt_bd s
  have h4 := nls_le s
  refine ⟨?_, ?_, ?_, ?_, ?_, ?_, ?_⟩
  · show _ ≤ (s.size : Int) ∧ (s.size : Int) ≤ _; omega
  · show _ ≤ kU.of s ∧ kU.of s ≤ _; omega
  · show _ ≤ kC.of s ∧ kC.of s ≤ _; omega
  · show _ ≤ kN.of s ∧ kN.of s ≤ _; omega
  · show _ ≤ (nls s : Int) ∧ (nls s : Int) ≤ _; omega
  · show (hd s).size ≤ 16; rw [hd_size]; omega
  · show (tl s).size ≤ 16; rw [tl_size]; omega
theorem push3 (a : Array Obj) (o0 o1 o2 : Obj) : (((a.push o0).push o1).push o2)[a.size]? = some o0 ∧ (((a.push o0).push o1).push o2)[a.size + 1]? = some o1 ∧ (((a.push o0).push o1).push o2)[a.size + 1 + 1]? = some o2 := by
  obtain ⟨h0, h1⟩ := push2' a o0 o1
  refine ⟨?_, ?_, ?_⟩
  · rw [Array.getElem?_push, if_neg (by simp only [Array.size_push]; omega)]; exact h0
  · rw [Array.getElem?_push, if_neg (by simp only [Array.size_push]; omega)]; exact h1
  · rw [← Array.size_push o0, ← Array.size_push o1, Array.getElem?_push_size]

theorem cell_lt {W : World} {p : Addr} {v : Value} (h : W.cell? p = some v) : p.block < W.heap.size := by
  unfold World.cell? at h
  cases ho : W.heap[p.block]? with
  | none => simp [ho] at h
  | some o => exact (Array.getElem?_eq_some_iff.1 ho).1
theorem cell_al {W : World} {p : Addr} {v : Value} (h : W.cell? p = some v) : ∀ o, (W.alloc o).cell? p = some v := fun o => (((Below.refl _ W).alloc (Nat.le_refl _) o).cell (p := p) (cell_lt h)).trans h
theorem frozen_al {W : World} {p : Addr} {v : Value} {b : Bool} (h : W.frozen? p = b) (hc : W.cell? p = some v) : ∀ o, (W.alloc o).frozen? p = b := fun o => (((Below.refl _ W).alloc (Nat.le_refl _) o).frozen (p := p) (cell_lt hc)).trans h
theorem set7_box {W : World} {b : Nat} {t : TypeId} {a0 a1 a2 a3 a4 a5 a6 : Value} (h : W.heap[b]? = some (.cells #[a0, a1, a2, a3, a4, a5, a6] t (0, 0))) (u0 u1 u2 u3 u4 u5 u6 : Value) :
    ((((((((W).setCell ⟨b, 0, none⟩ u0).setCell ⟨b, 1, none⟩ u1).setCell ⟨b, 2, none⟩ u2).setCell ⟨b, 3, none⟩ u3).setCell ⟨b, 4, none⟩ u4).setCell ⟨b, 5, none⟩ u5).setCell ⟨b, 6, none⟩ u6).heap[b]? = some (.cells #[u0, u1, u2, u3, u4, u5, u6] t (0, 0)) := by
  have h0 : (W.setCell ⟨b, 0, none⟩ u0).heap[b]? = some (.cells #[u0, a1, a2, a3, a4, a5, a6] t (0, 0)) := set1 (i := 0) u0 h
  have h1 : ((W.setCell ⟨b, 0, none⟩ u0).setCell ⟨b, 1, none⟩ u1).heap[b]? = some (.cells #[u0, u1, a2, a3, a4, a5, a6] t (0, 0)) := set1 (i := 1) u1 h0
  have h2 : (((W.setCell ⟨b, 0, none⟩ u0).setCell ⟨b, 1, none⟩ u1).setCell ⟨b, 2, none⟩ u2).heap[b]? = some (.cells #[u0, u1, u2, a3, a4, a5, a6] t (0, 0)) := set1 (i := 2) u2 h1
  have h3 : ((((W.setCell ⟨b, 0, none⟩ u0).setCell ⟨b, 1, none⟩ u1).setCell ⟨b, 2, none⟩ u2).setCell ⟨b, 3, none⟩ u3).heap[b]? = some (.cells #[u0, u1, u2, u3, a4, a5, a6] t (0, 0)) := set1 (i := 3) u3 h2
  have h4 : (((((W.setCell ⟨b, 0, none⟩ u0).setCell ⟨b, 1, none⟩ u1).setCell ⟨b, 2, none⟩ u2).setCell ⟨b, 3, none⟩ u3).setCell ⟨b, 4, none⟩ u4).heap[b]? = some (.cells #[u0, u1, u2, u3, u4, a5, a6] t (0, 0)) := set1 (i := 4) u4 h3
  have h5 : ((((((W.setCell ⟨b, 0, none⟩ u0).setCell ⟨b, 1, none⟩ u1).setCell ⟨b, 2, none⟩ u2).setCell ⟨b, 3, none⟩ u3).setCell ⟨b, 4, none⟩ u4).setCell ⟨b, 5, none⟩ u5).heap[b]? = some (.cells #[u0, u1, u2, u3, u4, u5, a6] t (0, 0)) := set1 (i := 5) u5 h4
  have h6 : (((((((W.setCell ⟨b, 0, none⟩ u0).setCell ⟨b, 1, none⟩ u1).setCell ⟨b, 2, none⟩ u2).setCell ⟨b, 3, none⟩ u3).setCell ⟨b, 4, none⟩ u4).setCell ⟨b, 5, none⟩ u5).setCell ⟨b, 6, none⟩ u6).heap[b]? = some (.cells #[u0, u1, u2, u3, u4, u5, u6] t (0, 0)) := set1 (i := 6) u6 h5
  exact h6
theorem res7 {W : World} {b : Nat} {t : TypeId} {a0 a1 a2 a3 a4 a5 a6 : Value} (h : W.heap[b]? = some (.cells #[a0, a1, a2, a3, a4, a5, a6] t (0, 0))) (u0 u1 u2 u3 u4 u5 u6 : Value) (o : Obj) :
    (((((((((W).setCell ⟨b, 0, none⟩ u0).setCell ⟨b, 1, none⟩ u1).setCell ⟨b, 2, none⟩ u2).setCell ⟨b, 3, none⟩ u3).setCell ⟨b, 4, none⟩ u4).setCell ⟨b, 5, none⟩ u5).setCell ⟨b, 6, none⟩ u6).alloc o).cell? ⟨b, 0, none⟩ = some u0 ∧ (((((((((W).setCell ⟨b, 0, none⟩ u0).setCell ⟨b, 1, none⟩ u1).setCell ⟨b, 2, none⟩ u2).setCell ⟨b, 3, none⟩ u3).setCell ⟨b, 4, none⟩ u4).setCell ⟨b, 5, none⟩ u5).setCell ⟨b, 6, none⟩ u6).alloc o).cell? ⟨b, 1, none⟩ = some u1 ∧ (((((((((W).setCell ⟨b, 0, none⟩ u0).setCell ⟨b, 1, none⟩ u1).setCell ⟨b, 2, none⟩ u2).setCell ⟨b, 3, none⟩ u3).setCell ⟨b, 4, none⟩ u4).setCell ⟨b, 5, none⟩ u5).setCell ⟨b, 6, none⟩ u6).alloc o).cell? ⟨b, 2, none⟩ = some u2 ∧ (((((((((W).setCell ⟨b, 0, none⟩ u0).setCell ⟨b, 1, none⟩ u1).setCell ⟨b, 2, none⟩ u2).setCell ⟨b, 3, none⟩ u3).setCell ⟨b, 4, none⟩ u4).setCell ⟨b, 5, none⟩ u5).setCell ⟨b, 6, none⟩ u6).alloc o).cell? ⟨b, 3, none⟩ = some u3 ∧ (((((((((W).setCell ⟨b, 0, none⟩ u0).setCell ⟨b, 1, none⟩ u1).setCell ⟨b, 2, none⟩ u2).setCell ⟨b, 3, none⟩ u3).setCell ⟨b, 4, none⟩ u4).setCell ⟨b, 5, none⟩ u5).setCell ⟨b, 6, none⟩ u6).alloc o).cell? ⟨b, 4, none⟩ = some u4 ∧ (((((((((W).setCell ⟨b, 0, none⟩ u0).setCell ⟨b, 1, none⟩ u1).setCell ⟨b, 2, none⟩ u2).setCell ⟨b, 3, none⟩ u3).setCell ⟨b, 4, none⟩ u4).setCell ⟨b, 5, none⟩ u5).setCell ⟨b, 6, none⟩ u6).alloc o).cell? ⟨b, 5, none⟩ = some u5 ∧ (((((((((W).setCell ⟨b, 0, none⟩ u0).setCell ⟨b, 1, none⟩ u1).setCell ⟨b, 2, none⟩ u2).setCell ⟨b, 3, none⟩ u3).setCell ⟨b, 4, none⟩ u4).setCell ⟨b, 5, none⟩ u5).setCell ⟨b, 6, none⟩ u6).alloc o).cell? ⟨b, 6, none⟩ = some u6 := by
  obtain ⟨⟨h0, h1, h2, h3, h4, h5, h6⟩, -⟩ := box7 (set7_box h u0 u1 u2 u3 u4 u5 u6)
  exact ⟨cell_al h0 o, cell_al h1 o, cell_al h2 o, cell_al h3 o, cell_al h4 o, cell_al h5 o, cell_al h6 o⟩
theorem set7_bel {w W : World} {b : Nat} (h : Below w.heap.size w W) (hb : w.heap.size ≤ b) (u0 u1 u2 u3 u4 u5 u6 : Value) (o : Obj) : Below w.heap.size w (((((((((W).setCell ⟨b, 0, none⟩ u0).setCell ⟨b, 1, none⟩ u1).setCell ⟨b, 2, none⟩ u2).setCell ⟨b, 3, none⟩ u3).setCell ⟨b, 4, none⟩ u4).setCell ⟨b, 5, none⟩ u5).setCell ⟨b, 6, none⟩ u6).alloc o) := by
  have := ((((((h.setCell (p := ⟨b, 0, none⟩) hb u0).setCell (p := ⟨b, 1, none⟩) hb u1).setCell (p := ⟨b, 2, none⟩) hb u2).setCell (p := ⟨b, 3, none⟩) hb u3).setCell (p := ⟨b, 4, none⟩) hb u4).setCell (p := ⟨b, 5, none⟩) hb u5).setCell (p := ⟨b, 6, none⟩) hb u6
  exact this.alloc this.size o
/-- what lies where: the two that are joined, the result's box, and others -/
structure TW (w : World) (x y : Sum) (l : List (Nat × Sum)) (W : World) : Prop where
  a : W.heap[w.heap.size]? = some (.cells (scs x) 25 (0, 0))
  b : W.heap[w.heap.size + 1]? = some (.cells (scs y) 25 (0, 0))
  r : W.heap[w.heap.size + 1 + 1]? = some (.cells (scs sm0) 25 (0, 0))
  o : ∀ p ∈ l, W.heap[p.1]? = some (.cells (scs p.2) 25 (0, 0))
  bel : Below w.heap.size w W
theorem TW.below {w : World} {x y : Sum} {l : List (Nat × Sum)} {W W' : World} (h : TW w x y l W) (hb : Below W.heap.size W W') : TW w x y l W' := by
  have kp : ∀ {k : Nat} {o : Obj}, W.heap[k]? = some o → W'.heap[k]? = some o := fun ho => (hb.block _ (Array.getElem?_eq_some_iff.1 ho).1).trans ho
  exact ⟨kp h.a, kp h.b, kp h.r, fun p hp => kp (h.o p hp), h.bel.trans (hb.mono h.bel.size)⟩
theorem TW.push {w : World} {x y : Sum} {l : List (Nat × Sum)} {W W' : World} {m : Sum} (h : TW w x y l W) (hW : W.alloc (.cells (scs m) 25) = W') : TW w x y ((W.heap.size, m) :: l) W' := by
  have h2 := h.below (W' := W') (by rw [← hW]; exact (Below.refl _ W).alloc (Nat.le_refl _) _)
  refine ⟨h2.a, h2.b, h2.r, fun p hp => ?_, h2.bel⟩
  rcases List.mem_cons.1 hp with rfl | hp
  · rw [← hW]; exact World.alloc_heap_new W _
  · exact h2.o p hp
theorem TW.lt {w : World} {x y : Sum} {l : List (Nat × Sum)} {W : World} (h : TW w x y l W) : w.heap.size + 2 < W.heap.size := by
  have := (Array.getElem?_eq_some_iff.1 h.r).1
  omega

set_option maxRecDepth 100000 in
set_option maxHeartbeats 4000000 in
theorem rtwo_any (x y : Sum) (hx : Small x) (hy : Small y) (w : World) :
    Calls Tryd.prog 32 #[sv x, sv y] w fun e W' => e = .returned (sv (jn2 x y)) ∧ Below w.heap.size w W' := by
  obtain ⟨m1, e1⟩ : ∃ m, smr (x.tl ++ y.hd) = m := ⟨_, rfl⟩
  obtain ⟨m2, e2⟩ : ∃ m, smr x.tl = m := ⟨_, rfl⟩
  obtain ⟨m3, e3⟩ : ∃ m, smr y.hd = m := ⟨_, rfl⟩
  have zx := hx.t
  have zy := hy.h
  have z1 : (x.tl ++ y.hd).size ≤ 32 := by rw [size_app]; omega
  have C1 : Hid (∀ W, Calls Tryd.prog 11 #[.string (x.tl ++ y.hd)] W fun e W' => e = .returned (sv m1) ∧ Below W.heap.size W W') := fun W => by rw [← e1]; exact rmeasure_any _ (by omega) W
  have C2 : Hid (∀ W, Calls Tryd.prog 11 #[.string x.tl] W fun e W' => e = .returned (sv m2) ∧ Below W.heap.size W W') := fun W => by rw [← e2]; exact rmeasure_any _ (by omega) W
  have C3 : Hid (∀ W, Calls Tryd.prog 11 #[.string y.hd] W fun e W' => e = .returned (sv m3) ∧ Below W.heap.size W W') := fun W => by rw [← e3]; exact rmeasure_any _ (by omega) W
  have hJ : jn2 x y = ⟨x.by' + y.by', x.un + y.un + m1.un - m2.un - m3.un, x.cl + y.cl + m1.cl - m2.cl - m3.cl, x.ce + y.ce + m1.ce - m2.ce - m3.ce, x.nl + y.nl, if x.hd.size < 16 then hd (x.hd ++ y.hd) else x.hd, if y.tl.size < 16 then tl (x.tl ++ y.tl) else y.tl⟩ := by
    rw [← e1, ← e2, ← e3]; rfl
  have s1 : Small m1 := by rw [← e1]; exact smr_small (by omega)
  have s2 : Small m2 := by rw [← e2]; exact smr_small (by omega)
  have s3 : Small m3 := by rw [← e3]; exact smr_small (by omega)
  obtain ⟨W0, hW0⟩ : ∃ W0, ((w.alloc (.cells (scs x) 25)).alloc (.cells (scs y) 25)).alloc (.cells #[.int .i64 0, .int .i64 0, .int .i64 0, .int .i64 0, .int .i64 0, .string ⟨#[]⟩, .string ⟨#[]⟩] 25) = W0 := ⟨_, rfl⟩
  have HT0 : Hid (TW w x y [] W0) := by
    obtain ⟨p0, p1, p2⟩ := push3 w.heap (.cells (scs x) 25) (.cells (scs y) 25) (.cells (scs sm0) 25)
    show TW w x y [] W0
    rw [← hW0]
    exact ⟨p0, p1, p2, fun p h => (by cases h), (((Below.refl _ w).alloc (Nat.le_refl _) _).alloc (by simp) _).alloc (by simp; omega) _⟩
  obtain ⟨⟨-, -, -, -, -, -, x6⟩, -⟩ := box7 HT0.out.a
  obtain ⟨⟨-, -, -, -, -, y5, -⟩, -⟩ := box7 HT0.out.b
  have HJ : Hid _ := hJ
  obtain ⟨bx0, bx1, bx2, bx3, bx4, -, -⟩ := hx
  obtain ⟨by0, by1, by2, by3, by4, zy5, zy6⟩ := hy
  obtain ⟨-, s11, s12, s13, -, -, -⟩ := s1
  obtain ⟨-, s21, s22, s23, -, -, -⟩ := s2
  obtain ⟨-, s31, s32, s33, -, -, -⟩ := s3
  have CH : Hid (∀ W, Calls Tryd.prog 25 #[.string (x.hd ++ y.hd)] W fun e w' => e = .returned (.string (hd (x.hd ++ y.hd))) ∧ W = w') := rhead_any _
  have CT : Hid (∀ W, Calls Tryd.prog 26 #[.string (x.tl ++ y.tl)] W fun e w' => e = .returned (.string (tl (x.tl ++ y.tl))) ∧ W = w') := rtail_any _ (by rw [size_app]; unfold maxLen; omega)
  clear hJ e1 e2 e3
  by_cases hx16 : x.hd.size < 16
  all_goals by_cases hy16 : y.tl.size < 16
  all_goals go_enter Tryd.func32, Tryd.ntmps32
  all_goals go_wp2_with (first | (go_at_call 11; refine (C1.out _).mono ?_; clear C1; rintro e w1 ⟨rfl, hb1⟩; obtain ⟨W1, hW1⟩ : ∃ W1, w1.alloc (.cells #[.int .i64 m1.by', .int .i64 m1.un, .int .i64 m1.cl, .int .i64 m1.ce, .int .i64 m1.nl, .string m1.hd, .string m1.tl] 25) = W1 := ⟨_, rfl⟩; have HT1 : Hid (TW w x y [(w1.heap.size, m1)] W1) := TW.push (HT0.out.below hb1) hW1; clear hb1 x6 y5 HT0 hW0; obtain ⟨⟨-, -, -, -, -, -, x6⟩, -⟩ := box7 HT1.out.a) | (go_at_call 11; refine (C2.out _).mono ?_; clear C2; rintro e w2 ⟨rfl, hb2⟩; obtain ⟨W2, hW2⟩ : ∃ W2, w2.alloc (.cells #[.int .i64 m2.by', .int .i64 m2.un, .int .i64 m2.cl, .int .i64 m2.ce, .int .i64 m2.nl, .string m2.hd, .string m2.tl] 25) = W2 := ⟨_, rfl⟩; have HT2 : Hid (TW w x y [(w2.heap.size, m2), (w1.heap.size, m1)] W2) := TW.push (HT1.out.below hb2) hW2; clear hb2 x6 HT1 hW1; obtain ⟨⟨-, -, -, -, -, y5, -⟩, -⟩ := box7 HT2.out.b) | (go_at_call 11; refine (C3.out _).mono ?_; clear C3; rintro e w3 ⟨rfl, hb3⟩; obtain ⟨W3, hW3⟩ : ∃ W3, w3.alloc (.cells #[.int .i64 m3.by', .int .i64 m3.un, .int .i64 m3.cl, .int .i64 m3.ce, .int .i64 m3.nl, .string m3.hd, .string m3.tl] 25) = W3 := ⟨_, rfl⟩; have HT3 : Hid (TW w x y [(w3.heap.size, m3), (w2.heap.size, m2), (w1.heap.size, m1)] W3) := TW.push (HT2.out.below hb3) hW3; clear hb3 y5 HT2 hW2; obtain ⟨⟨x0, x1, x2, x3, x4, x5, x6⟩, -⟩ := box7 HT3.out.a; obtain ⟨⟨y0, y1, y2, y3, y4, y5, y6⟩, -⟩ := box7 HT3.out.b; obtain ⟨⟨r0, r1, r2, r3, r4, r5, r6⟩, f0, f1, f2, f3, f4, f5, f6⟩ := box7 HT3.out.r; obtain ⟨⟨-, q1, q2, q3, -, -, -⟩, -⟩ := box7 (HT3.out.o _ (.head _)); obtain ⟨⟨-, k1, k2, k3, -, -, -⟩, -⟩ := box7 (HT3.out.o _ (.tail _ (.head _))); obtain ⟨⟨-, j1, j2, j3, -, -, -⟩, -⟩ := box7 (HT3.out.o _ (.tail _ (.tail _ (.head _)))); have hl3 := HT3.out.lt; have X1 := cell_al x1; have X2 := cell_al x2; have X3 := cell_al x3; have X5 := cell_al x5; have X6 := cell_al x6; have Y1 := cell_al y1; have Y2 := cell_al y2; have Y3 := cell_al y3; have Y5 := cell_al y5; have Y6 := cell_al y6; have Q1 := cell_al q1; have Q2 := cell_al q2; have Q3 := cell_al q3; have K1 := cell_al k1; have K2 := cell_al k2; have K3 := cell_al k3; have J1 := cell_al j1; have J2 := cell_al j2; have J3 := cell_al j3; have R0 := cell_al r0; have F0 := frozen_al f0 r0; have R1 := cell_al r1; have F1 := frozen_al f1 r1; have R2 := cell_al r2; have F2 := frozen_al f2 r2; have R3 := cell_al r3; have F3 := frozen_al f3 r3; have R4 := cell_al r4; have F4 := frozen_al f4 r4; have R5 := cell_al r5; have F5 := frozen_al f5 r5; have R6 := cell_al r6; have F6 := frozen_al f6 r6; clear x1 x2 x3 x5 x6 y1 y2 y3 y5 y6 q1 q2 q3 k1 k2 k3 j1 j2 j3) | (go_at_call 25; refine (CH.out _).mono ?_; clear CH; rintro e w' ⟨rfl, rfl⟩) | (go_at_call 26; refine (CT.out _).mono ?_; clear CT; rintro e w' ⟨rfl, rfl⟩))
  all_goals have RS := res7 HT3.out.r
  all_goals exact bodyPost_ret (v := sv (jn2 x y)) (by simp [results, Tryd.results32, go_sem, Hid.out HJ, hx16, hy16, RS]) rfl ⟨rfl, set7_bel HT3.out.bel (by omega) _ _ _ _ _ _ _ _⟩
end Go.Proofs.YtdfemihjnempfaaDoor
