/-
  Two copies side by side: what the law's line a, b := copied(f), copied(g) has done at each point. No program is walked in this text; no conditions.
-/
import Derived.Test.YtcgnfjcbafmbgaaDoorPCow
namespace Go.Proofs.YtcgnfjcbafmbgaaDoor
open Go.RowKit Go.Shelf Bod Wid
def zer4 : Array Value := #[.int .i64 0, .slice none 0 0, .int .i64 0, .int .i64 0]
structure Sd (X : World) (f : Fm) (v0 : Value) (dl dc da ds : Bool) (yl yc ya : Value) (W : World) (L H b : Nat) : Prop where
  ld : dl = true → yl = v0
  cp : dc = true → X.heap.size ≤ L ∧ L ≤ H ∧ H ≤ W.heap.size ∧ Rds L H yc f W
  al : da = true → ya = .pointer (some ⟨b, 0, none⟩) ∧ X.heap.size ≤ b ∧ b < W.heap.size ∧ (ds = false → W.heap[b]? = some (.cells zer4 26 (0, 0)))
  st : ds = true → dc = true ∧ da = true ∧ ∃ a k, yc = .agg #[.int .i64 f.w, .slice a f.rows.length k, .int .i64 f.r, .int .i64 f.c] ∧ W.heap[b]? = some (.cells #[.int .i64 f.w, .slice a f.rows.length k, .int .i64 f.r, .int .i64 f.c] 26 (0, 0))
  nb : dc = true → da = true → ¬ (L ≤ b ∧ b < H)
def Owns (da dc : Bool) (L H b x : Nat) : Prop := (da = true ∧ x = b) ∨ (dc = true ∧ L ≤ x ∧ x < H)
section
variable {X W W' : World} {f : Fm} {v0 yl yc ya : Value} {dl dc da ds : Bool} {L H b : Nat}
theorem Sd.lt (h : Sd X f v0 dl dc da ds yl yc ya W L H b) {x : Nat} (hx : Owns da dc L H b x) : x < W.heap.size := by
  rcases hx with ⟨h1, rfl⟩ | ⟨h1, h2, h3⟩
  · exact (h.al h1).2.2.1
  · have := (h.cp h1).2.2.1; omega
theorem Sd.mv (h : Sd X f v0 dl dc da ds yl yc ya W L H b) (hs : W.heap.size ≤ W'.heap.size) (hk : ∀ x, Owns da dc L H b x → W'.heap[x]? = W.heap[x]?) : Sd X f v0 dl dc da ds yl yc ya W' L H b := by
  refine ⟨h.ld, fun e => ?_, fun e => ?_, fun e => ?_, h.nb⟩
  · obtain ⟨h1, h2, h3, h4⟩ := h.cp e
    exact ⟨h1, h2, Nat.le_trans h3 hs, h4.mv fun g q1 q2 => hk g (.inr ⟨e, q1, q2⟩)⟩
  · obtain ⟨h1, h2, h3, h4⟩ := h.al e
    exact ⟨h1, h2, Nat.lt_of_lt_of_le h3 hs, fun q => (hk b (.inl ⟨e, rfl⟩)).trans (h4 q)⟩
  · obtain ⟨h1, h2, a, k, h3, h4⟩ := h.st e
    exact ⟨h1, h2, a, k, h3, (hk b (.inl ⟨h2, rfl⟩)).trans h4⟩
theorem Sd.below (h : Sd X f v0 dl dc da ds yl yc ya W L H b) (hb : Below W.heap.size W W') : Sd X f v0 dl dc da ds yl yc ya W' L H b := h.mv hb.size fun x hx => hb.block x (h.lt hx)
theorem Sd.load (h : Sd X f v0 dl dc da ds yl yc ya W L H b) : Sd X f v0 true dc da ds v0 yc ya W L H b := ⟨fun _ => rfl, h.cp, h.al, h.st, h.nb⟩
theorem Sd.call (h : Sd X f v0 dl dc da ds yl yc ya W L H b) (hn : dc = false) (hX : X.heap.size ≤ W.heap.size) (hb : Below W.heap.size W W') {z : Value} (hr : Rds W.heap.size W'.heap.size z f W') : Sd X f v0 dl true da ds yl z ya W' W.heap.size W'.heap.size b := by
  have hds : ds = false := by
    cases e : ds with
    | false => rfl
    | true => rw [(h.st e).1] at hn; cases hn
  have h' := h.below hb
  refine ⟨h.ld, fun _ => ⟨hX, hb.size, Nat.le_refl _, hr⟩, h'.al, ?_, fun _ e => ?_⟩
  · rw [hds]; intro e; cases e
  · have := (h.al e).2.2.1; omega
theorem Sd.alloc (h : Sd X f v0 dl dc da ds yl yc ya W L H b) (hn : da = false) (hX : X.heap.size ≤ W.heap.size) : Sd X f v0 dl dc true ds yl yc (.pointer (some ⟨W.heap.size, 0, none⟩)) (W.alloc (.cells zer4 26)) L H W.heap.size := by
  have hds : ds = false := by
    cases e : ds with
    | false => rfl
    | true => rw [(h.st e).2.1] at hn; cases hn
  have h' := h.below (W' := W.alloc (.cells zer4 26)) ((Below.refl _ W).alloc (Nat.le_refl _) _)
  refine ⟨h.ld, h'.cp, fun _ => ⟨rfl, hX, by simp, fun _ => World.alloc_heap_new _ _⟩, ?_, fun e _ => ?_⟩
  · rw [hds]; intro e; cases e
  · have := (h.cp e).2.2.1; omega
theorem Sd.store (h : Sd X f v0 dl dc da ds yl yc ya W L H b) (hc : dc = true) (ha : da = true) {a : Option Addr} {k : Nat} (hy : yc = .agg #[.int .i64 f.w, .slice a f.rows.length k, .int .i64 f.r, .int .i64 f.c]) (hg : W.grownBy W' (some b)) (hw : W'.heap[b]? = some (.cells #[.int .i64 f.w, .slice a f.rows.length k, .int .i64 f.r, .int .i64 f.c] 26 (0, 0))) : Sd X f v0 dl dc da true yl yc ya W' L H b := by
  obtain ⟨h1, h2, h3, h4⟩ := h.cp hc
  obtain ⟨g1, g2, g3, -⟩ := h.al ha
  refine ⟨h.ld, fun _ => ⟨h1, h2, Nat.le_trans h3 hg.size, h4.mv fun g q1 q2 => hg.block g (by omega) (fun e => h.nb hc ha (by cases e; exact ⟨q1, q2⟩))⟩, fun _ => ⟨g1, g2, Nat.lt_of_lt_of_le g3 hg.size, fun e => by cases e⟩, fun _ => ⟨hc, ha, a, k, hy, hw⟩, h.nb⟩
end
/-- both sides -/
def Tw (X : World) (f g : Fm) (v1 v2 : Value) (d : Nat → Bool) (y : Nat → Value) (W : World) : Prop :=
  Below X.heap.size X W ∧ ∃ L1 H1 b1 L2 H2 b2, Sd X f v1 (d 0) (d 1) (d 4) (d 6) (y 0) (y 1) (y 4) W L1 H1 b1 ∧ Sd X g v2 (d 2) (d 3) (d 5) (d 7) (y 2) (y 3) (y 5) W L2 H2 b2 ∧ ∀ x, Owns (d 4) (d 1) L1 H1 b1 x → ¬ Owns (d 5) (d 3) L2 H2 b2 x
section
variable {X W W' : World} {f g : Fm} {v1 v2 : Value} {d : Nat → Bool} {y : Nat → Value}
theorem Tw.start (hd : ∀ k, d k = false) (hb : Below X.heap.size X W) : Tw X f g v1 v2 d y W := by
  refine ⟨hb, 0, 0, 0, 0, 0, 0, ⟨?_, ?_, ?_, ?_, ?_⟩, ⟨?_, ?_, ?_, ?_, ?_⟩, ?_⟩
  all_goals first | (intro e; rw [hd] at e; cases e) | (intro x hx; rcases hx with ⟨e, -⟩ | ⟨e, -⟩ <;> (rw [hd] at e; cases e))
theorem Tw.load1 (h : Tw X f g v1 v2 d y W) : Tw X f g v1 v2 (dset d 0) (updY y 0 v1) W := by
  obtain ⟨hb, L1, H1, b1, L2, H2, b2, s1, s2, hd⟩ := h
  exact ⟨hb, L1, H1, b1, L2, H2, b2, s1.load, s2, hd⟩
theorem Tw.load2 (h : Tw X f g v1 v2 d y W) : Tw X f g v1 v2 (dset d 2) (updY y 2 v2) W := by
  obtain ⟨hb, L1, H1, b1, L2, H2, b2, s1, s2, hd⟩ := h
  exact ⟨hb, L1, H1, b1, L2, H2, b2, s1, s2.load, hd⟩
theorem Tw.call1 (h : Tw X f g v1 v2 d y W) (hn : d 1 = false) (hw : Below W.heap.size W W') {z : Value} (hr : Rds W.heap.size W'.heap.size z f W') : Tw X f g v1 v2 (dset d 1) (updY y 1 z) W' := by
  obtain ⟨hb, L1, H1, b1, L2, H2, b2, s1, s2, hd⟩ := h
  refine ⟨hb.trans (hw.mono hb.size), W.heap.size, W'.heap.size, b1, L2, H2, b2, s1.call hn hb.size hw hr, s2.below hw, fun x hx hy => ?_⟩
  have := s2.lt hy
  rcases hx with hx | ⟨-, q, -⟩
  · exact hd x (.inl hx) hy
  · omega
theorem Tw.call2 (h : Tw X f g v1 v2 d y W) (hn : d 3 = false) (hw : Below W.heap.size W W') {z : Value} (hr : Rds W.heap.size W'.heap.size z g W') : Tw X f g v1 v2 (dset d 3) (updY y 3 z) W' := by
  obtain ⟨hb, L1, H1, b1, L2, H2, b2, s1, s2, hd⟩ := h
  refine ⟨hb.trans (hw.mono hb.size), L1, H1, b1, W.heap.size, W'.heap.size, b2, s1.below hw, s2.call hn hb.size hw hr, fun x hx hy => ?_⟩
  have := s1.lt hx
  rcases hy with hy | ⟨-, q, -⟩
  · exact hd x hx (.inl hy)
  · omega
theorem Tw.alloc1 (h : Tw X f g v1 v2 d y W) (hn : d 4 = false) : Tw X f g v1 v2 (dset d 4) (updY y 4 (.pointer (some ⟨W.heap.size, 0, none⟩))) (W.alloc (.cells zer4 26)) := by
  obtain ⟨hb, L1, H1, b1, L2, H2, b2, s1, s2, hd⟩ := h
  have hw : Below W.heap.size W (W.alloc (.cells zer4 26)) := (Below.refl _ W).alloc (Nat.le_refl _) _
  refine ⟨hb.trans (hw.mono hb.size), L1, H1, W.heap.size, L2, H2, b2, s1.alloc hn hb.size, s2.below hw, fun x hx hy => ?_⟩
  have := s2.lt hy
  rcases hx with ⟨-, rfl⟩ | hx
  · omega
  · exact hd x (.inr hx) hy
theorem Tw.alloc2 (h : Tw X f g v1 v2 d y W) (hn : d 5 = false) : Tw X f g v1 v2 (dset d 5) (updY y 5 (.pointer (some ⟨W.heap.size, 0, none⟩))) (W.alloc (.cells zer4 26)) := by
  obtain ⟨hb, L1, H1, b1, L2, H2, b2, s1, s2, hd⟩ := h
  have hw : Below W.heap.size W (W.alloc (.cells zer4 26)) := (Below.refl _ W).alloc (Nat.le_refl _) _
  refine ⟨hb.trans (hw.mono hb.size), L1, H1, b1, L2, H2, W.heap.size, s1.below hw, s2.alloc hn hb.size, fun x hx hy => ?_⟩
  have := s1.lt hx
  rcases hy with ⟨-, rfl⟩ | hy
  · omega
  · exact hd x hx (.inr hy)
theorem rd_form {W : World} {v : Value} {f : Fm} (h : RdFm W v f) : ∃ a k, v = .agg #[.int .i64 f.w, .slice a f.rows.length k, .int .i64 f.r, .int .i64 f.c] := by
  obtain ⟨rv, rfl, h⟩ := h
  obtain ⟨a, k, rfl, -⟩ := h.get
  exact ⟨a, k, rfl⟩
/-- what the first store does -/
theorem Tw.store1 (h : Tw X f g v1 v2 d y W) (hc : d 1 = true) (ha : d 4 = true) (hn : d 6 = false) : ∃ a k b, y 1 = .agg #[.int .i64 f.w, .slice a f.rows.length k, .int .i64 f.r, .int .i64 f.c] ∧ y 4 = .pointer (some ⟨b, 0, none⟩) ∧ W.heap[b]? = some (.cells zer4 26 (0, 0)) ∧
    ∀ W' : World, W.grownBy W' (some b) → W'.os = W.os ∧ W'.tape = W.tape ∧ W'.output = W.output → W'.heap[b]? = some (.cells #[.int .i64 f.w, .slice a f.rows.length k, .int .i64 f.r, .int .i64 f.c] 26 (0, 0)) → Tw X f g v1 v2 (dset d 6) y W' := by
  obtain ⟨hb, L1, H1, b1, L2, H2, b2, s1, s2, hd⟩ := h
  obtain ⟨a, k, e⟩ := rd_form (s1.cp hc).2.2.2.rd
  obtain ⟨g1, g2, g3, g4⟩ := s1.al ha
  refine ⟨a, k, b1, e, g1, g4 hn, fun W' hg ho hw => ⟨⟨ho.1.trans hb.os, ho.2.1.trans hb.tape, ho.2.2.trans hb.output, Nat.le_trans hb.size hg.size, fun x hx => (hg.block x (Nat.lt_of_lt_of_le hx hb.size) (fun q => by cases q; omega)).trans (hb.block x hx)⟩, L1, H1, b1, L2, H2, b2, s1.store hc ha e hg hw, s2.mv hg.size fun x hx => hg.block x (s2.lt hx) (fun q => by cases q; exact hd _ (.inl ⟨ha, rfl⟩) hx), hd⟩⟩
theorem Tw.store2 (h : Tw X f g v1 v2 d y W) (hc : d 3 = true) (ha : d 5 = true) (hn : d 7 = false) : ∃ a k b, y 3 = .agg #[.int .i64 g.w, .slice a g.rows.length k, .int .i64 g.r, .int .i64 g.c] ∧ y 5 = .pointer (some ⟨b, 0, none⟩) ∧ W.heap[b]? = some (.cells zer4 26 (0, 0)) ∧
    ∀ W' : World, W.grownBy W' (some b) → W'.os = W.os ∧ W'.tape = W.tape ∧ W'.output = W.output → W'.heap[b]? = some (.cells #[.int .i64 g.w, .slice a g.rows.length k, .int .i64 g.r, .int .i64 g.c] 26 (0, 0)) → Tw X f g v1 v2 (dset d 7) y W' := by
  obtain ⟨hb, L1, H1, b1, L2, H2, b2, s1, s2, hd⟩ := h
  obtain ⟨a, k, e⟩ := rd_form (s2.cp hc).2.2.2.rd
  obtain ⟨g1, g2, g3, g4⟩ := s2.al ha
  refine ⟨a, k, b2, e, g1, g4 hn, fun W' hg ho hw => ⟨⟨ho.1.trans hb.os, ho.2.1.trans hb.tape, ho.2.2.trans hb.output, Nat.le_trans hb.size hg.size, fun x hx => (hg.block x (Nat.lt_of_lt_of_le hx hb.size) (fun q => by cases q; omega)).trans (hb.block x hx)⟩, L1, H1, b1, L2, H2, b2, s1.mv hg.size fun x hx => hg.block x (s1.lt hx) (fun q => by cases q; exact hd _ hx (.inl ⟨ha, rfl⟩)), s2.store hc ha e hg hw, hd⟩⟩
/-- at the end -/
theorem Tw.fin (h : Tw X f g v1 v2 d y W) (h6 : d 6 = true) (h7 : d 7 = true) : ∃ a1 k1 b1 a2 k2 b2, (y 4 = .pointer (some ⟨b1, 0, none⟩) ∧ y 5 = .pointer (some ⟨b2, 0, none⟩)) ∧ Below X.heap.size X W ∧ (W.heap[b1]? = some (.cells #[.int .i64 f.w, .slice a1 f.rows.length k1, .int .i64 f.r, .int .i64 f.c] 26 (0, 0)) ∧ W.heap[b2]? = some (.cells #[.int .i64 g.w, .slice a2 g.rows.length k2, .int .i64 g.r, .int .i64 g.c] 26 (0, 0))) ∧ RdFm W (.agg #[.int .i64 f.w, .slice a1 f.rows.length k1, .int .i64 f.r, .int .i64 f.c]) f ∧ RdFm W (.agg #[.int .i64 g.w, .slice a2 g.rows.length k2, .int .i64 g.r, .int .i64 g.c]) g := by
  obtain ⟨hb, L1, H1, b1, L2, H2, b2, s1, s2, hd⟩ := h
  obtain ⟨c1, e1, a1, k1, q1, r1⟩ := s1.st h6
  obtain ⟨c2, e2, a2, k2, q2, r2⟩ := s2.st h7
  have t1 := (s1.cp c1).2.2.2.rd
  have t2 := (s2.cp c2).2.2.2.rd
  rw [q1] at t1
  rw [q2] at t2
  exact ⟨a1, k1, b1, a2, k2, b2, ⟨(s1.al e1).1, (s2.al e2).1⟩, hb, ⟨r1, r2⟩, t1, t2⟩
end
end Go.Proofs.YtcgnfjcbafmbgaaDoor
