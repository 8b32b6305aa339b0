/-
  What package metric answers for one text: Measure; summaries held against each other. Conditions: the two tables of unicode/utf8 lie as their text lays them; the text is so short that the document's own lists of it can be made.
-/
import Derived.Test.YtgagpmeknpjkpaaGreatDoorMConB
namespace Go.Proofs.YtgagpmeknpjkpaaGreatDoor
open Go.RowKit Bod Wid

theorem sum_ext {x y : Sum} (h0 : x.by' = y.by') (h1 : x.un = y.un) (h2 : x.cl = y.cl) (h3 : x.ce = y.ce) (h4 : x.nl = y.nl) (h5 : x.hd = y.hd) (h6 : x.tl = y.tl) : x = y := by
  cases x; cases y
  simp only at h0 h1 h2 h3 h4 h5 h6
  subst h0 h1 h2 h3 h4 h5 h6
  rfl
theorem sv_same (x y : Sum) (h : x = y) (w : World) : (binOp .eql 64 (sv x) (sv y)).run Tryz.prog w = .ok (.bool true) w := by
  subst h
  simp [go_sem, sv]
theorem sv_apart (x y : Sum) (h : x ≠ y) (w : World) : (binOp .eql 64 (sv x) (sv y)).run Tryz.prog w = .ok (.bool false) w := by
  simp [go_sem, sv]
  intro h0 h1 h2 h3 h4 h5 h6
  rw [Lib.toList_data, Lib.toList_data] at h5 h6
  exact h (sum_ext h0 h1 h2 h3 h4 (ext_data h5) (ext_data h6))
/-- what lies where in Measure: the result's box, the summary under way -/
structure MS (w : World) (b : Nat) (m : Sum) (W : World) : Prop where
  res : W.heap[w.heap.size]? = some (.cells (scs sm0) 64 (0, 0))
  box : W.heap[b]? = some (.cells (scs m) 64 (0, 0))
  bel : Below w.heap.size w W
  lt : w.heap.size < b
theorem MS.below {w : World} {b : Nat} {m : Sum} {W W' : World} (h : MS w b m W) (hb : Below W.heap.size W W') : MS w b m W' := by
  have kp : ∀ {k : Nat} {o : Obj}, W.heap[k]? = some o → W'.heap[k]? = some o := fun ho => (hb.block _ (Array.getElem?_eq_some_iff.1 ho).1).trans ho
  exact ⟨kp h.res, kp h.box, h.bel.trans (hb.mono h.bel.size), h.lt⟩
theorem MS.set {w : World} {b : Nat} {m : Sum} {W : World} (h : MS w b m W) (m' : Sum) (i : Nat) (v : Value) (hv : (scs m).setIfInBounds i v = scs m') : MS w b m' (W.setCell ⟨b, i, none⟩ v) := by
  have hg := gcell W b i v
  have := h.lt
  exact ⟨(hg.block _ (Array.getElem?_eq_some_iff.1 h.res).1 (fun e => by have := Option.some.inj e; omega)).trans h.res, by rw [← hv]; exact set1 v h.box, h.bel.setCell (p := ⟨b, i, none⟩) (by simp; omega) _, h.lt⟩
set_option maxRecDepth 100000 in
set_option maxHeartbeats 2000000 in
theorem measure_any (s : ByteArray) (hs : s.size ≤ 288230376151711744) (w : World) (hT : Lib.Utf8Tabs 1 2 w) (hlo0 : 1 < w.heap.size) (hlo1 : 2 < w.heap.size) :
    Calls Tryz.prog 52 #[.string s] w fun e W' => e = .returned (sv (smr s)) ∧ Below w.heap.size w W' := by
  obtain ⟨m, hm⟩ : ∃ m, smr s = m := ⟨_, rfl⟩
  obtain ⟨p, q, e0⟩ : ∃ p q, smc s = ⟨m.by', m.un, m.cl, m.ce, m.nl, p, q⟩ := ⟨⟨#[]⟩, ⟨#[]⟩, by rw [← hm]; rfl⟩
  have e1 : hd s = m.hd := by rw [← hm]; rfl
  have e2 : tl s = m.tl := by rw [← hm]; rfl
  have z1 := hd_size s
  have z2 := tl_size s
  rw [e1] at z1
  rw [e2] at z2
  obtain ⟨W0, hW0⟩ : ∃ W0, w.alloc (.cells #[.int .i64 0, .int .i64 0, .int .i64 0, .int .i64 0, .int .i64 0, .string ⟨#[]⟩, .string ⟨#[]⟩] 64) = W0 := ⟨_, rfl⟩
  have hb0 : Below w.heap.size w W0 := by rw [← hW0]; exact (Below.refl _ w).alloc (Nat.le_refl _) _
  have r0 : W0.heap[w.heap.size]? = some (.cells (scs sm0) 64 (0, 0)) := by rw [← hW0]; exact World.alloc_heap_new w _
  have hz0 : w.heap.size < W0.heap.size := (Array.getElem?_eq_some_iff.1 r0).1
  have CC : Hid (Calls Tryz.prog 66 #[.string s] W0 fun e W' => e = .returned (sv ⟨m.by', m.un, m.cl, m.ce, m.nl, p, q⟩) ∧ Hid (W'.heap[w.heap.size]? = some (.cells (scs sm0) 64 (0, 0)) ∧ Below w.heap.size w W' ∧ w.heap.size < W'.heap.size)) := by
    have := counted_any s (by unfold maxLen; omega) (by omega) W0 (tabs_below hT hb0) (Nat.lt_of_lt_of_le hlo0 hb0.size) (Nat.lt_of_lt_of_le hlo1 hb0.size)
    rw [e0] at this
    exact this.mono fun e W' ⟨h1, h2⟩ => ⟨h1, (h2.block _ hz0).trans r0, hb0.trans (h2.mono hb0.size), Nat.lt_of_lt_of_le hz0 h2.size⟩
  have CF : Hid (∀ W, Calls Tryz.prog 67 #[.string s] W fun e w' => e = .returned (.string m.hd) ∧ W = w') := fun W => by rw [← e1]; exact first_any s W
  have CL : Hid (∀ W, Calls Tryz.prog 68 #[.string s] W fun e w' => e = .returned (.string m.tl) ∧ W = w') := fun W => by rw [← e2]; exact last_any s (by unfold maxLen; omega) W
  have CO : Hid (∀ W b, MS w b m W → Calls Tryz.prog 69 #[sv m] W fun e w' => e = .returned (sv m) ∧ MS w b m w') := fun W b h => (owned_any m (by omega) (by omega) W).mono fun e W' ⟨h1, h2⟩ => ⟨h1, h.below h2⟩
  rw [hm]
  clear hT hlo0 hlo1 e0 e1 e2 z1 z2 hb0 r0 hz0 hm hs
  go_enter Tryz.func52, Tryz.ntmps52
  go_wp2_with (first | (go_at_call 66; refine CC.out.mono ?_; clear CC hW0; rintro e w1 ⟨rfl, hq⟩; obtain ⟨W1, hW1⟩ : ∃ W1, w1.alloc (.cells #[.int .i64 m.by', .int .i64 m.un, .int .i64 m.cl, .int .i64 m.ce, .int .i64 m.nl, .string p, .string q] 64) = W1 := ⟨_, rfl⟩; have HM : Hid (MS w w1.heap.size ⟨m.by', m.un, m.cl, m.ce, m.nl, p, q⟩ W1) := (by show MS _ _ _ _; rw [← hW1]; exact ⟨(Below.heap_alloc _ _ _ hq.out.2.2).trans hq.out.1, World.alloc_heap_new w1 _, hq.out.2.1.alloc hq.out.2.1.size _, hq.out.2.2⟩); obtain ⟨⟨x0, x1, x2, x3, x4, x5, x6⟩, g0, g1, g2, g3, g4, g5, g6⟩ := box7 HM.out.box; clear hq) | (go_at_call 67; refine (CF.out _).mono ?_; clear CF; rintro e w' ⟨rfl, rfl⟩) | (go_at_call 68; refine (CL.out _).mono ?_; clear CL; rintro e w' ⟨rfl, rfl⟩) | (go_at_call 69; refine (CO.out _ _ ((HM.out.set ⟨m.by', m.un, m.cl, m.ce, m.nl, m.hd, q⟩ 5 _ rfl).set m 6 _ rfl)).mono ?_; clear CO x0 x1 x2 x3 x4 x5 x6 g0 g1 g2 g3 g4 g5 g6 HM; rintro e w2 ⟨rfl, h⟩; have HM2 : Hid (MS w w1.heap.size m w2) := h; obtain ⟨⟨z0, z1, z2, z3, z4, z5, z6⟩, f0, f1, f2, f3, f4, f5, f6⟩ := box7 h.res; have hl : w.heap.size < w2.heap.size := (Array.getElem?_eq_some_iff.1 h.res).1; clear h))
  exact bodyPost_ret (v := sv m) (by simp [results, Tryz.results52, go_sem, z0, z1, z2, z3, z4, z5, z6]) rfl ⟨rfl, set7_below HM2.out.bel _ _ _ _ _ _ _⟩
end Go.Proofs.YtgagpmeknpjkpaaGreatDoor
