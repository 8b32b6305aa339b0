/-
  Two buffers of package gap side by side, and the law's own done. No conditions beyond.
-/
import Derived.Test.YtgagpmeknpjkpaaDoorGLaw
import Derived.Test.YtgagpmeknpjkpaaDoorUOps
namespace Go.Proofs.YtgagpmeknpjkpaaDoor
open Go.RowKit Bod

/-- what the law's done makes of a buffer and answers -/
def gDone (g : Gp) (x : Opr) : Gp × ByteArray × Int :=
  if x.k = 1 then ((gRep g x.a 0 x.s).1, eBA, (gRep g x.a 0 x.s).2.2)
  else if x.k = 2 then gRep g x.a x.b eBA
  else if x.k = 3 then gRep g x.a x.b x.s
  else if x.k = 5 then ((gReset g x.s).1, eBA, (gReset g x.s).2)
  else (g, eBA, 0)
theorem gRep_same {g h : Gp} (e1 : g.s = h.s) (e2 : g.l = h.l) (a c : Int) (put : ByteArray) : (gRep g a c put).2 = (gRep h a c put).2 ∧ (gRep g a c put).1.s = (gRep h a c put).1.s ∧ (gRep g a c put).1.l = (gRep h a c put).1.l := by
  obtain ⟨s, p, l⟩ := g
  obtain ⟨s', p', l'⟩ := h
  dsimp only at e1 e2
  subst e1 e2
  unfold gRep
  by_cases ho : gOut ⟨s, p, l⟩ a c
  · rw [if_pos ho, if_pos (show gOut ⟨s, p', l⟩ a c from ho)]
    exact ⟨rfl, rfl, rfl⟩
  · rw [if_neg ho, if_neg (show ¬ gOut ⟨s, p', l⟩ a c from ho)]
    dsimp only
    split <;> exact ⟨rfl, rfl, rfl⟩
theorem gReset_same {g h : Gp} (e1 : g.s = h.s) (e2 : g.l = h.l) (s : ByteArray) : (gReset g s).2 = (gReset h s).2 ∧ (gReset g s).1.s = (gReset h s).1.s ∧ (gReset g s).1.l = (gReset h s).1.l := by
  unfold gReset
  rw [e2]
  split
  · exact ⟨rfl, rfl, rfl⟩
  · exact ⟨rfl, e1, e2⟩
theorem gDone_same {g h : Gp} (e1 : g.s = h.s) (e2 : g.l = h.l) (x : Opr) : (gDone g x).2 = (gDone h x).2 ∧ (gDone g x).1.s = (gDone h x).1.s ∧ (gDone g x).1.l = (gDone h x).1.l := by
  unfold gDone
  split
  · obtain ⟨h1, h2, h3⟩ := gRep_same e1 e2 x.a 0 x.s
    exact ⟨by rw [h1], h2, h3⟩
  · split
    · exact gRep_same e1 e2 _ _ _
    · split
      · exact gRep_same e1 e2 _ _ _
      · split
        · obtain ⟨h1, h2, h3⟩ := gReset_same e1 e2 x.s
          exact ⟨by rw [h1], h2, h3⟩
        · exact ⟨rfl, e1, e2⟩

set_option maxRecDepth 100000 in
set_option maxHeartbeats 2000000 in
theorem done_is {w : World} {v : Value} {o : Option (Nat × Option Nat)} {g : Gp} {n : Nat} (h : Is w v o g n) (x : Opr) (hx : x.fit) :
    Calls Tryd.prog 10 #[v, ov x] w fun e w' => e = .returned (.tuple #[.string (gDone g x).2.1, .int .i64 (gDone g x).2.2]) ∧ Wk w v o n (gDone g x).1 (gDone g x).2.2 w' := by
  obtain ⟨k, a, b, s⟩ := x
  obtain ⟨x1, x2, x3, x4⟩ := hx
  obtain ⟨W0, hW0⟩ : ∃ W0, w.alloc (.cells #[.int .i64 k, .int .i64 a, .int .i64 b, .string s] 36) = W0 := ⟨_, rfl⟩
  have hB : Below w.heap.size w W0 := by rw [← hW0]; exact (Below.refl _ w).alloc (Nat.le_refl _) _
  have hI := h.below hB
  have up : ∀ {g' : Gp} {err : Int} {w' : World}, Wk W0 v o n g' err w' → Wk w v o n g' err w' := fun ⟨o2, n2, i1, i2, i3, i4⟩ => ⟨o2, n2, i1, i2.step hB, i3.step hB, i4⟩
  have CI : Hid (Calls Tryd.prog 20 #[v, .int .i64 a, .string s] W0 fun x w' => x = .returned (.int .i64 (gRep g a 0 s).2.2) ∧ Wk w v o n (gRep g a 0 s).1 (gRep g a 0 s).2.2 w') := (ins_is hI a x2 s).mono fun x w' ⟨e, k⟩ => ⟨e, up k⟩
  have CD : Hid (Calls Tryd.prog 24 #[v, .int .i64 a, .int .i64 b] W0 fun x w' => x = .returned (.tuple #[.string (gRep g a b eBA).2.1, .int .i64 (gRep g a b eBA).2.2]) ∧ Wk w v o n (gRep g a b eBA).1 (gRep g a b eBA).2.2 w') := (del_is hI a b x2).mono fun x w' ⟨e, k⟩ => ⟨e, up k⟩
  have CR : Hid (Calls Tryd.prog 14 #[v, .int .i64 a, .int .i64 b, .string s] W0 fun x w' => x = .returned (.tuple #[.string (gRep g a b s).2.1, .int .i64 (gRep g a b s).2.2]) ∧ Wk w v o n (gRep g a b s).1 (gRep g a b s).2.2 w') := (rep_is hI a b x2 s).mono fun x w' ⟨e, k⟩ => ⟨e, up k⟩
  have CT : Hid (Calls Tryd.prog 21 #[v, .string s] W0 fun x w' => x = .returned (.int .i64 (gReset g s).2) ∧ Wk w v o n (gReset g s).1 (gReset g s).2 w') := (reset_is hI s).mono fun x w' ⟨e, k⟩ => ⟨e, up k⟩
  have HN : Hid (Wk w v o n g 0 W0) := ⟨o, n, hI, Chs.below hB, Nws.refl _ _, fun _ => rfl⟩
  have y0 : W0.cell? ⟨w.heap.size, 0, none⟩ = some (.int .i64 k) ∧ W0.cell? ⟨w.heap.size, 1, none⟩ = some (.int .i64 a) ∧ W0.cell? ⟨w.heap.size, 2, none⟩ = some (.int .i64 b) ∧ W0.cell? ⟨w.heap.size, 3, none⟩ = some (.string s) := by
    have := box4 (show W0.heap[w.heap.size]? = some (.cells #[.int .i64 k, .int .i64 a, .int .i64 b, .string s] 36 (0, 0)) by rw [← hW0]; exact World.alloc_heap_new w _)
    exact this.1
  obtain ⟨z0, z1, z2, z3⟩ := y0
  clear h hI up hB x1 x2 x3 x4
  unfold gDone ov
  dsimp only
  by_cases h1 : k = 1
  · rw [if_pos h1]
    subst h1
    go_enter Tryd.func10, Tryd.ntmps10
    go_wp2_with (go_at_call 20; refine CI.out.mono ?_; clear CI; rintro x w1 ⟨rfl, hk⟩)
    exact bodyPost_ret (v := .tuple #[.string eBA, .int .i64 (gRep g a 0 s).2.2]) (by simp [results, Tryd.results10, go_sem, eBA]) rfl ⟨rfl, hk⟩
  · rw [if_neg h1]
    by_cases h2 : k = 2
    · rw [if_pos h2]
      subst h2
      go_enter Tryd.func10, Tryd.ntmps10
      go_wp2_with (go_at_call 24; refine CD.out.mono ?_; clear CD; rintro x w1 ⟨rfl, hk⟩)
      exact bodyPost_ret (v := .tuple #[.string (gRep g a b eBA).2.1, .int .i64 (gRep g a b eBA).2.2]) (by simp [results, Tryd.results10, go_sem]) rfl ⟨rfl, hk⟩
    · rw [if_neg h2]
      by_cases h3 : k = 3
      · rw [if_pos h3]
        subst h3
        go_enter Tryd.func10, Tryd.ntmps10
        go_wp2_with (go_at_call 14; refine CR.out.mono ?_; clear CR; rintro x w1 ⟨rfl, hk⟩)
        exact bodyPost_ret (v := .tuple #[.string (gRep g a b s).2.1, .int .i64 (gRep g a b s).2.2]) (by simp [results, Tryd.results10, go_sem]) rfl ⟨rfl, hk⟩
      · rw [if_neg h3]
        by_cases h5 : k = 5
        · rw [if_pos h5]
          subst h5
          go_enter Tryd.func10, Tryd.ntmps10
          go_wp2_with (go_at_call 21; refine CT.out.mono ?_; clear CT; rintro x w1 ⟨rfl, hk⟩)
          exact bodyPost_ret (v := .tuple #[.string eBA, .int .i64 (gReset g s).2]) (by simp [results, Tryd.results10, go_sem, eBA]) rfl ⟨rfl, hk⟩
        · rw [if_neg h5]
          go_enter Tryd.func10, Tryd.ntmps10
          go_wp2
          exact bodyPost_ret (v := .tuple #[.string eBA, .int .i64 0]) (by simp [results, Tryd.results10, go_sem, eBA]) rfl ⟨rfl, HN.out⟩

/-- two buffers, all of them beyond n0, that share nothing; below n0 the world is as w -/
def Two (n0 : Nat) (w : World) (ba bb : Nat) (ga gb : Gp) (W : World) : Prop :=
  ∃ ra na rb nb, PB W ba ra ga na ∧ PB W bb rb gb nb ∧ (ba ≠ bb ∧ ra ≠ some bb ∧ rb ≠ some ba ∧ (∀ k, ra = some k → rb ≠ some k)) ∧ (n0 ≤ ba ∧ n0 ≤ bb ∧ (∀ k, ra = some k → n0 ≤ k) ∧ ∀ k, rb = some k → n0 ≤ k) ∧ Below n0 w W
theorem Two.bel {n0 : Nat} {w W : World} {ba bb : Nat} {ga gb : Gp} (h : Two n0 w ba bb ga gb W) : Below n0 w W := by
  obtain ⟨_, _, _, _, _, _, _, _, h⟩ := h; exact h
theorem Two.low {n0 : Nat} {w W W' : World} {ba bb : Nat} {ga gb : Gp} (h : Two n0 w ba bb ga gb W) (hn : n0 ≤ w.heap.size) (hb : Below W.heap.size W W') : Two n0 w ba bb ga gb W' := by
  obtain ⟨ra, na, rb, nb, h1, h2, h3, h4, h5⟩ := h
  exact ⟨ra, na, rb, nb, h1.below hb, h2.below hb, h3, h4, h5.trans (hb.mono (Nat.le_trans hn h5.size))⟩
theorem Two.swap {n0 : Nat} {w W : World} {ba bb : Nat} {ga gb : Gp} (h : Two n0 w ba bb ga gb W) : Two n0 w bb ba gb ga W := by
  obtain ⟨ra, na, rb, nb, h1, h2, ⟨a1, a2, a3, a4⟩, ⟨b1, b2, b3, b4⟩, h5⟩ := h
  exact ⟨rb, nb, ra, na, h2, h1, ⟨Ne.symm a1, a3, a2, fun k e1 e2 => a4 k e2 e1⟩, ⟨b2, b1, b4, b3⟩, h5⟩
/-- a call on the first -/
theorem Two.fst {n0 : Nat} {w W : World} {ba bb : Nat} {ga gb : Gp} (h : Two n0 w ba bb ga gb W) (hn : n0 ≤ w.heap.size) :
    ∃ ra na, Is W (.pointer (some ⟨ba, 0, none⟩)) (some (ba, ra)) ga na ∧ ∀ g' err W', Wk W (.pointer (some ⟨ba, 0, none⟩)) (some (ba, ra)) na g' err W' → Two n0 w ba bb g' gb W' := by
  obtain ⟨ra, na, rb, nb, h1, h2, ⟨a1, a2, a3, a4⟩, ⟨b1, b2, b3, b4⟩, h5⟩ := h
  refine ⟨ra, na, ⟨rfl, h1⟩, fun g' err W' ⟨o2, n2, i1, i2, ⟨r2, e2, i3⟩, _⟩ => ?_⟩
  subst e2
  have hb := h2.lt
  refine ⟨r2, n2, rb, nb, i1.2, h2.kept i2 (Ne.symm a1) a2 (fun k hk => ⟨fun e => a3 (by rw [hk, e]), fun e => a4 k e hk⟩), ?_, ?_, ch_below h5 hn i2 b1 b3⟩
  · rcases i3 with rfl | ⟨j, rfl, hj⟩
    · exact ⟨a1, a2, a3, a4⟩
    · refine ⟨a1, fun e => by cases e; omega, a3, fun k hk e => ?_⟩
      cases hk
      have := (h2.row e).2
      omega
  · rcases i3 with rfl | ⟨j, rfl, hj⟩
    · exact ⟨b1, b2, b3, b4⟩
    · refine ⟨b1, b2, fun k hk => ?_, b4⟩
      cases hk
      have := h5.size
      omega
end Go.Proofs.YtgagpmeknpjkpaaDoor
