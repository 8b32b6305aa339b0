/-
  The document's own layer 16: Lines, lineOf, column, place, step, Go and Span. Conditions: those of each theorem.
-/
import Derived.Test.YtenkmidlipjobaaGreatDoorPkQA
import Derived.Test.YtenkmidlipjobaaGreatDoorPkYA
import Derived.Deep.Cut
import Derived.Sort.QuietIn
import Derived.Lib.AppendZeros
import Derived.Maps.AppendAt
import Derived.Deep.RegionLaw
import Derived.Test.YtenkmidlipjobaaGreatDoorYBnd
import Derived.Test.YtenkmidlipjobaaGreatDoorPkWR
import Derived.Deep.DeepCutAuto
import Derived.Test.YtenkmidlipjobaaGreatDoorPkQB
namespace Go.Proofs.YtenkmidlipjobaaGreatDoor.Sto
open Go.RowKit Go.Shelf Bod Wid

theorem q_keep {W W' : World} {base c n : Nat} {e : TypeId} {v : Value} {xs : List Value} (h : W.ownsRow base e c v n xs) (e2 : ∀ g, v.ownBlock = some g → W'.heap[g]? = W.heap[g]?) : W'.ownsRow base e c v n xs := by
  refine ⟨h.1, ?_⟩
  rcases h.2 with ⟨h1, h2⟩ | ⟨g, cap, cur, h1, hb, hc, h3⟩
  · exact .inl ⟨h1, h2⟩
  · exact .inr ⟨g, cap, cur, h1, hb, (e2 g (by rw [h1]; rfl)).trans hc, h3⟩
theorem q_blk {W : World} {base c n g : Nat} {e : TypeId} {v : Value} {xs : List Value} (h : W.ownsRow base e c v n xs) (hg : v.ownBlock = some g) : (∃ cur, W.heap[g]? = some (.cells cur e (0, 0))) ∧ base ≤ g ∧ g < W.heap.size := by
  rcases h.2 with ⟨h1, h2⟩ | ⟨k, cap, cur, h1, hb, hc, h3⟩
  · rw [h1] at hg; cases hg
  · rw [h1] at hg
    injection hg with hg
    subst hg
    exact ⟨⟨cur, hc⟩, hb, (Array.getElem?_eq_some_iff.1 hc).1⟩
theorem q_slice {W : World} {base c n : Nat} {e : TypeId} {v : Value} {xs : List Value} (h : W.ownsRow base e c v n xs) : ∃ a k, v = .slice a n k := by
  rcases h.2 with ⟨rfl, rfl⟩ | ⟨g, cap, cur, rfl, _⟩
  · exact ⟨_, _, rfl⟩
  · exact ⟨_, _, rfl⟩
theorem q_grown2 {A B C : World} {r : Option Nat} (h : A.grownBy B r) (g : B.grownBy C r) : A.grownBy C r :=
  ⟨g.os.trans h.os, g.tape.trans h.tape, g.output.trans h.output, Nat.le_trans h.size g.size, fun k hk hne => (g.block k (Nat.lt_of_lt_of_le hk h.size) hne).trans (h.block k hk hne)⟩
theorem infoC : (Tryz.prog.info? 110).map (fun i => (i.zero, i.size, i.bytes)) = some (some (.agg #[.int .i64 0, .int .i64 0, .int .i64 0, .int .i64 0]), 4, 32) := by kernel_rfl
theorem infoL : (Tryz.prog.info? 77).map (fun i => (i.zero, i.size, i.bytes)) = some (some (.agg #[.int .i64 0, .int .i64 0, .slice none 0 0]), 3, 40) := by kernel_rfl
/-- one cluster more in a row of the call's own: as an equation -/
theorem appC_run {W : World} {base n : Nat} {v : Value} {l : List Clu} {c : Clu} (hown : W.ownsRow base 110 4 v n (ccl l)) (hn : n ≤ 2147483648) (hb : base ≤ W.heap.size) : ∃ v' W', (Builtin.append_ #[75, 75] 75 #[v, .slice (some ⟨W.heap.size, 0, none⟩) 1 1]).run Tryz.prog (W.alloc (.cells #[.int .i64 c.fr, .int .i64 c.to, .int .i64 c.k, .int .i64 c.n] 110)) = .ok v' W' ∧ W'.ownsRow base 110 4 v' (n + 1) (ccl (l ++ [c])) ∧ W.grownBy W' v.ownBlock ∧ ∀ g, v'.ownBlock = some g → v.ownBlock = some g ∨ W.heap.size ≤ g := by
  obtain ⟨i0, hi, hz0, hz1, hz2⟩ := info_parts infoC
  have hA := World.grownBy_alloc W (.cells #[.int .i64 c.fr, .int .i64 c.to, .int .i64 c.k, .int .i64 c.n] 110) v.ownBlock
  obtain ⟨v', w', h1, h2, h3, _, h4⟩ := run_append_own_at (P := Tryz.prog) (W.alloc (.cells #[.int .i64 c.fr, .int .i64 c.to, .int .i64 c.k, .int .i64 c.n] 110)) base 75 75 110 i0 _ 4 32 Tryz.underlying75 hi hz0 hz1 hz2 rfl (by decide) v n (ccl l) (hown.alloc _) ⟨W.heap.size, 0, none⟩ 1 1 [.int .i64 c.fr, .int .i64 c.to, .int .i64 c.k, .int .i64 c.n] rfl (World.news_of_block (World.alloc_heap_new W _)) (by simp [Value.oneCell']) (by unfold maxLen; omega) (by omega) (by have := hA.size; omega)
  refine ⟨v', w', h1, ?_, q_grown2 hA h3, fun g e => ?_⟩
  · rw [ccl_snoc]; exact h2
  · rcases h4 with h | h
    · exact .inl (h ▸ e)
    · rw [h] at e; have := Option.some.inj e; exact .inr (by have := hA.size; omega)
/-- the cells of lines whose clusters lie in rows -/
def lcl (L : List (Lz × Value)) : List Value := L.flatMap fun o => [.int .i64 (o.1.1 : Int), .int .i64 (o.1.2.1 : Int), o.2]
theorem lcl_snoc (L : List (Lz × Value)) (o : Lz × Value) : lcl (L ++ [o]) = lcl L ++ [.int .i64 (o.1.1 : Int), .int .i64 (o.1.2.1 : Int), o.2] := by simp [lcl]
/-- one line more in a row of the call's own -/
theorem appL_run {W : World} {base n : Nat} {v : Value} {l : List (Lz × Value)} {o : Lz × Value} (hown : W.ownsRow base 77 3 v n (lcl l)) (ho : Value.oneCell' o.2) (hn : n ≤ 2147483648) (hb : base ≤ W.heap.size) : ∃ v' W', (Builtin.append_ #[73, 73] 73 #[v, .slice (some ⟨W.heap.size, 0, none⟩) 1 1]).run Tryz.prog (W.alloc (.cells #[.int .i64 o.1.1, .int .i64 o.1.2.1, o.2] 77)) = .ok v' W' ∧ W'.ownsRow base 77 3 v' (n + 1) (lcl (l ++ [o])) ∧ W.grownBy W' v.ownBlock ∧ ∀ g, v'.ownBlock = some g → v.ownBlock = some g ∨ W.heap.size ≤ g := by
  obtain ⟨i0, hi, hz0, hz1, hz2⟩ := info_parts infoL
  have hA := World.grownBy_alloc W (.cells #[.int .i64 o.1.1, .int .i64 o.1.2.1, o.2] 77) v.ownBlock
  obtain ⟨v', w', h1, h2, h3, _, h4⟩ := run_append_own_at (P := Tryz.prog) (W.alloc (.cells #[.int .i64 o.1.1, .int .i64 o.1.2.1, o.2] 77)) base 73 73 77 i0 _ 3 40 Tryz.underlying73 hi hz0 hz1 hz2 rfl (by decide) v n (lcl l) (hown.alloc _) ⟨W.heap.size, 0, none⟩ 1 1 [.int .i64 o.1.1, .int .i64 o.1.2.1, o.2] rfl (World.news_of_block (World.alloc_heap_new W _)) (by simp [Value.oneCell']; exact ho) (by unfold maxLen; omega) (by omega) (by have := hA.size; omega)
  refine ⟨v', w', h1, ?_, q_grown2 hA h3, fun g e => ?_⟩
  · rw [lcl_snoc]; exact h2
  · rcases h4 with h | h
    · exact .inl (h ▸ e)
    · rw [h] at e; have := Option.some.inj e; exact .inr (by have := hA.size; omega)
/-- Lines under way: the list of clusters, the line in its box, its clusters, the lines that are over -/
structure Lg (w : World) (s : ByteArray) (lv : Value) (nb f t : Nat) (av : Value) (acc : List Clu) (ov : Value) (outs : List (Lz × Value)) (W : World) : Prop where
  bel : Below w.heap.size w W
  lst : W.ownsRow w.heap.size 110 4 lv (cl s).length (ccl (cl s))
  box : W.heap[nb]? = some (.cells #[.int .i64 f, .int .i64 t, av] 77 (0, 0))
  nbl : w.heap.size ≤ nb
  arow : W.ownsRow w.heap.size 110 4 av acc.length (ccl acc)
  orow : W.ownsRow w.heap.size 77 3 ov outs.length (lcl outs)
  each : ∀ o ∈ outs, W.ownsRow w.heap.size 110 4 o.2 o.1.2.2.length (ccl o.1.2.2)
  sepA : ∀ g, av.ownBlock = some g → lv.ownBlock ≠ some g ∧ ∀ o ∈ outs, o.2.ownBlock ≠ some g
  sepO : ov.ownBlock ≠ some nb
section
variable {w : World} {s : ByteArray} {lv : Value} {nb f t : Nat} {av : Value} {acc : List Clu} {ov : Value} {outs : List (Lz × Value)} {W : World}
theorem q_ne {W : World} {base c n g nb : Nat} {v : Value} {xs vs : List Value} {a : Array Value} (h : W.ownsRow base 110 c v n xs) (hg : v.ownBlock = some g) (hb : W.heap[nb]? = some (.cells a 77 (0, 0))) (_ : vs = vs) : g ≠ nb := by
  obtain ⟨⟨cur, h1⟩, -, -⟩ := q_blk h hg
  rintro rfl
  rw [hb] at h1
  injection h1 with h1
  injection h1 with _ h1
  exact absurd h1 (by decide)
theorem q_ne2 {W : World} {base base' c c' n n' g g' : Nat} {v v' : Value} {xs xs' : List Value} (h : W.ownsRow base 110 c v n xs) (hg : v.ownBlock = some g) (h' : W.ownsRow base' 77 c' v' n' xs') (hg' : v'.ownBlock = some g') : g ≠ g' := by
  obtain ⟨⟨cur, h1⟩, -, -⟩ := q_blk h hg
  obtain ⟨⟨cur', h2⟩, -, -⟩ := q_blk h' hg'
  rintro rfl
  rw [h2] at h1
  injection h1 with h1
  injection h1 with _ h1
  exact absurd h1 (by decide)
theorem Lg.lt (h : Lg w s lv nb f t av acc ov outs W) : nb < W.heap.size := (Array.getElem?_eq_some_iff.1 h.box).1
theorem Lg.heap (h : Lg w s lv nb f t av acc ov outs W) {W' : World} (e : W'.heap = W.heap) (hb : Below w.heap.size w W') : Lg w s lv nb f t av acc ov outs W' :=
  have k : ∀ g, W'.heap[g]? = W.heap[g]? := fun g => by rw [e]
  ⟨hb, q_keep h.lst (fun g _ => k g), (k nb).trans h.box, h.nbl, q_keep h.arow (fun g _ => k g), q_keep h.orow (fun g _ => k g), fun o ho => q_keep (h.each o ho) (fun g _ => k g), h.sepA, h.sepO⟩
theorem Lg.drew (h : Lg w s lv nb f t av acc ov outs W) : Lg w s lv nb f t av acc ov outs W.drew := h.heap rfl (below_drew h.bel)
/-- a number of the box is set -/
theorem Lg.setT (h : Lg w s lv nb f t av acc ov outs W) (t' : Nat) : Lg w s lv nb f t' av acc ov outs (W.setCell ⟨nb, 1, none⟩ (.int .i64 t')) := by
  have g := gcell W nb 1 (.int .i64 t')
  have kp : ∀ {b : Nat}, b < W.heap.size → b ≠ nb → (W.setCell ⟨nb, 1, none⟩ (.int .i64 t')).heap[b]? = W.heap[b]? := fun hb hne => g.block _ hb (fun e => hne (by injection e))
  have kC : ∀ {v : Value} {n : Nat} {xs : List Value}, W.ownsRow w.heap.size 110 4 v n xs → (W.setCell ⟨nb, 1, none⟩ (.int .i64 t')).ownsRow w.heap.size 110 4 v n xs := fun hr => q_keep hr (fun b hb => kp (q_blk hr hb).2.2 (q_ne (vs := []) hr hb h.box rfl))
  exact ⟨h.bel.setCell (p := ⟨nb, 1, none⟩) (by simpa using h.nbl) _, kC h.lst, by simpa using set1 (i := 1) (.int .i64 t') h.box, h.nbl, kC h.arow, q_keep h.orow (fun b hb => kp (q_blk h.orow hb).2.2 (fun e => h.sepO (by rw [← e]; exact hb))), fun o ho => kC (h.each o ho), h.sepA, h.sepO⟩
/-- one cluster more in the line -/
theorem Lg.addC (h : Lg w s lv nb f t av acc ov outs W) {c : Clu} (hl : acc.length ≤ 2147483648) : ∃ a' c' W', (Builtin.append_ #[75, 75] 75 #[av, .slice (some ⟨W.heap.size, 0, none⟩) 1 1]).run Tryz.prog (W.alloc (.cells #[.int .i64 c.fr, .int .i64 c.to, .int .i64 c.k, .int .i64 c.n] 110)) = .ok (.slice a' (acc.length + 1) c') W' ∧ W'.heap[nb]? = some (.cells #[.int .i64 f, .int .i64 t, av] 77 (0, 0)) ∧ Lg w s lv nb f t (.slice a' (acc.length + 1) c') (acc ++ [c]) ov outs (W'.setCell ⟨nb, 2, none⟩ (.slice a' (acc.length + 1) c')) := by
  obtain ⟨v', W', h1, h2, h3, h4⟩ := appC_run (c := c) h.arow hl h.bel.size
  obtain ⟨a', c', rfl⟩ := q_slice h2
  have kp : ∀ {b : Nat}, b < W.heap.size → av.ownBlock ≠ some b → W'.heap[b]? = W.heap[b]? := fun hb hne => h3.block _ hb (fun e => hne e.symm)
  have hbx : W'.heap[nb]? = some (.cells #[.int .i64 f, .int .i64 t, av] 77 (0, 0)) := (kp h.lt (fun e => q_ne (vs := []) h.arow e h.box rfl rfl)).trans h.box
  have g := gcell W' nb 2 (.slice a' (acc.length + 1) c')
  have kp2 : ∀ {b : Nat}, b < W'.heap.size → b ≠ nb → (W'.setCell ⟨nb, 2, none⟩ (.slice a' (acc.length + 1) c')).heap[b]? = W'.heap[b]? := fun hb hne => g.block _ hb (fun e => hne (by injection e))
  have sz := h3.size
  have far : ∀ k, av.ownBlock = some k → w.heap.size ≤ k := fun k e => (q_blk h.arow e).2.1
  have hB : Below w.heap.size w W' := h.bel.grown h3 (by have := h.bel.size; omega) far
  have kC : ∀ {v : Value} {n : Nat} {xs : List Value}, W.ownsRow w.heap.size 110 4 v n xs → (∀ b, av.ownBlock = some b → v.ownBlock ≠ some b) → (W'.setCell ⟨nb, 2, none⟩ (.slice a' (acc.length + 1) c')).ownsRow w.heap.size 110 4 v n xs := fun hr hs => q_keep hr (fun b hb => by
    have hlt := (q_blk hr hb).2.2
    rw [kp2 (by omega) (q_ne (vs := []) hr hb h.box rfl)]
    exact kp hlt (fun e => hs b e hb))
  refine ⟨a', c', W', h1, hbx, hB.setCell (p := ⟨nb, 2, none⟩) (by simpa using h.nbl) _, kC h.lst (fun b e => (h.sepA b e).1), by simpa using set1 (i := 2) (.slice a' (acc.length + 1) c') hbx, h.nbl, ?_, ?_, fun o ho => kC (h.each o ho) (fun b e => (h.sepA b e).2 o ho), fun b hb => ?_, h.sepO⟩
  · rw [List.length_append]
    exact q_keep h2 (fun b hb => kp2 (q_blk h2 hb).2.2 (fun e => by
      rcases h4 b hb with q | q
      · exact q_ne (vs := []) h.arow q h.box rfl e
      · have := h.lt; omega))
  · refine q_keep h.orow (fun b hb => ?_)
    have hlt := (q_blk h.orow hb).2.2
    rw [kp2 (by omega) (fun e => h.sepO (by rw [← e]; exact hb))]
    exact kp hlt (fun e => q_ne2 h.arow e h.orow hb rfl)
  · rcases h4 b hb with q | q
    · exact h.sepA b q
    · exact ⟨fun e => by have := (q_blk h.lst e).2.2; omega, fun o ho e => by have := (q_blk (h.each o ho) e).2.2; omega⟩
theorem set3 {W : World} {b : Nat} {x y z : Value} {t : TypeId} (h : W.heap[b]? = some (.cells #[x, y, z] t (0, 0))) (u v q : Value) : (((W.setCell ⟨b, 0, none⟩ u).setCell ⟨b, 1, none⟩ v).setCell ⟨b, 2, none⟩ q).heap[b]? = some (.cells #[u, v, q] t (0, 0)) ∧ W.grownBy (((W.setCell ⟨b, 0, none⟩ u).setCell ⟨b, 1, none⟩ v).setCell ⟨b, 2, none⟩ q) (some b) := by
  have s1 := set1 (i := 0) u h
  have s2 := set1 (i := 1) v s1
  have s3 := set1 (i := 2) q s2
  exact ⟨by simpa using s3, q_grown2 (q_grown2 (gcell W b 0 u) (gcell _ b 1 v)) (gcell _ b 2 q)⟩
/-- one line more in the list; then another one in the box -/
theorem Lg.addL (h : Lg w s lv nb f t av acc ov outs W) (hl : outs.length ≤ 2147483648) : ∃ v' W', (Builtin.append_ #[73, 73] 73 #[ov, .slice (some ⟨W.heap.size, 0, none⟩) 1 1]).run Tryz.prog (W.alloc (.cells #[.int .i64 f, .int .i64 t, av] 77)) = .ok v' W' ∧ W'.heap[nb]? = some (.cells #[.int .i64 f, .int .i64 t, av] 77 (0, 0)) ∧ W'.ownsRow w.heap.size 77 3 v' (outs ++ [((f, t, acc), av)]).length (lcl (outs ++ [((f, t, acc), av)])) ∧ (∀ o ∈ outs ++ [((f, t, acc), av)], W'.ownsRow w.heap.size 110 4 o.2 o.1.2.2.length (ccl o.1.2.2)) ∧ Below w.heap.size w W' ∧ W'.ownsRow w.heap.size 110 4 lv (cl s).length (ccl (cl s)) ∧ ∀ f' t' : Nat, Lg w s lv nb f' t' (.slice none 0 0) [] v' (outs ++ [((f, t, acc), av)]) (((W'.setCell ⟨nb, 0, none⟩ (.int .i64 f')).setCell ⟨nb, 1, none⟩ (.int .i64 t')).setCell ⟨nb, 2, none⟩ (.slice none 0 0)) := by
  obtain ⟨aa, ac, hav⟩ := q_slice h.arow
  obtain ⟨v', W', h1, h2, h3, h4⟩ := appL_run (o := ((f, t, acc), av)) h.orow (by rw [hav]; simp [Value.oneCell']) hl h.bel.size
  have kp : ∀ {b : Nat}, b < W.heap.size → ov.ownBlock ≠ some b → W'.heap[b]? = W.heap[b]? := fun hb hne => h3.block _ hb (fun e => hne e.symm)
  have hbx : W'.heap[nb]? = some (.cells #[.int .i64 f, .int .i64 t, av] 77 (0, 0)) := (kp h.lt h.sepO).trans h.box
  have sz := h3.size
  have far : ∀ k, ov.ownBlock = some k → w.heap.size ≤ k := fun k e => (q_blk h.orow e).2.1
  have hB : Below w.heap.size w W' := h.bel.grown h3 (by have := h.bel.size; omega) far
  have kD : ∀ {v : Value} {n : Nat} {xs : List Value}, W.ownsRow w.heap.size 110 4 v n xs → W'.ownsRow w.heap.size 110 4 v n xs := fun hr => q_keep hr (fun b hb => kp (q_blk hr hb).2.2 (fun e => q_ne2 hr hb h.orow e rfl))
  have hE : ∀ o ∈ outs ++ [((f, t, acc), av)], W.ownsRow w.heap.size 110 4 o.2 o.1.2.2.length (ccl o.1.2.2) := fun o ho => by
    rcases List.mem_append.1 ho with q | q
    · exact h.each o q
    · simp only [List.mem_singleton] at q; subst q; exact h.arow
  have hno : v'.ownBlock ≠ some nb := fun e => by
    rcases h4 nb e with q | q
    · exact h.sepO q
    · have := h.lt; omega
  have h2' : W'.ownsRow w.heap.size 77 3 v' (outs ++ [((f, t, acc), av)]).length (lcl (outs ++ [((f, t, acc), av)])) := by rw [List.length_append]; exact h2
  refine ⟨v', W', h1, hbx, h2', fun o ho => kD (hE o ho), hB, kD h.lst, fun f' t' => ?_⟩
  obtain ⟨s1, s2⟩ := set3 hbx (.int .i64 f') (.int .i64 t') (.slice none 0 0)
  have kp2 : ∀ {b : Nat}, b < W'.heap.size → b ≠ nb → (((W'.setCell ⟨nb, 0, none⟩ (.int .i64 f')).setCell ⟨nb, 1, none⟩ (.int .i64 t')).setCell ⟨nb, 2, none⟩ (.slice none 0 0)).heap[b]? = W'.heap[b]? := fun hb hne => s2.block _ hb (fun e => hne (by injection e))
  have kC : ∀ {v : Value} {n : Nat} {xs : List Value}, W.ownsRow w.heap.size 110 4 v n xs → (((W'.setCell ⟨nb, 0, none⟩ (.int .i64 f')).setCell ⟨nb, 1, none⟩ (.int .i64 t')).setCell ⟨nb, 2, none⟩ (.slice none 0 0)).ownsRow w.heap.size 110 4 v n xs := fun hr => q_keep (kD hr) (fun b hb => kp2 (by have := (q_blk hr hb).2.2; omega) (q_ne (vs := []) hr hb h.box rfl))
  exact ⟨hB.grown s2 (by have := hB.size; omega) (fun k e => by injection e with e; subst e; exact h.nbl), kC h.lst, s1, h.nbl, World.ownsRow_nil _ _ _ _, q_keep h2' (fun b hb => kp2 (q_blk h2' hb).2.2 (fun e => hno (by rw [← e]; exact hb))), fun o ho => kC (hE o ho), (fun b hb => by cases hb), hno⟩
end
end Go.Proofs.YtenkmidlipjobaaGreatDoor.Sto
namespace Go.Proofs.YtenkmidlipjobaaGreatDoor.Sto
open Go.RowKit Go.Shelf Bod Wid

/-- an append whose run is known, as one step of a region that draws its order -/
theorem step_appQ {ops : Array Oper} {o : Oper} {a : Act} {w : World} {K : Act → World → Prop} {Q : Exit → Act → World → Prop} {E : Prop} (hgd : o.guard = none) (s x : Operand) (t : TypeId)
    (ho : o.op = .call { callee := .builtin .append, args := #[s, x], argTypes := #[t, t] }) (vs vx : Value) (hs : a.eval s = vs) (hx : a.eval x = vx) (v' : Value) (w' : World)
    (hr : (Builtin.append_ #[t, t] o.type #[vs, vx]).run Tryz.prog w = .ok v' w') (hK : K (a.put o.dst v') w') : if Region.wanted o (yielded ops a.tmps) = true then Oper.wp Tryz.prog o a w K Q else E := by
  have hw : Region.wanted o (yielded ops a.tmps) = true := by simp [Region.wanted, hgd]
  rw [if_pos hw]
  exact Lib.wp_append_run w s x t t ho vs vx hs hx v' w' hr hK
/-- a slice that reads as a list of lines -/
def RdL (W : World) (v : Value) (L : List Lz) : Prop :=
  ∃ a cap, v = .slice a L.length cap ∧ (L ≠ [] → ∃ g, a = some ⟨g, 0, none⟩ ∧ g < W.heap.size ∧ ∀ (k : Nat) (z : Lz), L[k]? = some z → W.cell? ⟨g, k * 3, none⟩ = some (.int .i64 z.1) ∧ W.cell? ⟨g, k * 3 + 1, none⟩ = some (.int .i64 z.2.1) ∧ ∃ sv, W.cell? ⟨g, k * 3 + 2, none⟩ = some sv ∧ Rd4 W sv z.2.2)
theorem RdL.below {W W' : World} {v : Value} {L : List Lz} (h : RdL W v L) (hb : Below W.heap.size W W') : RdL W' v L := by
  obtain ⟨a, cap, rfl, g⟩ := h
  refine ⟨a, cap, rfl, fun h0 => ?_⟩
  obtain ⟨b, rfl, hlt, k⟩ := g h0
  refine ⟨b, rfl, Nat.lt_of_lt_of_le hlt hb.size, fun j z hj => ?_⟩
  obtain ⟨e0, e1, sv, e2, e3⟩ := k j z hj
  exact ⟨(hb.cell (p := ⟨b, j * 3, none⟩) hlt).trans e0, (hb.cell (p := ⟨b, j * 3 + 1, none⟩) hlt).trans e1, sv, (hb.cell (p := ⟨b, j * 3 + 2, none⟩) hlt).trans e2, e3.below hb⟩
theorem lcl_get : ∀ (L : List (Lz × Value)) (k : Nat) (o : Lz × Value), L[k]? = some o → (lcl L)[k * 3]? = some (.int .i64 o.1.1) ∧ (lcl L)[k * 3 + 1]? = some (.int .i64 o.1.2.1) ∧ (lcl L)[k * 3 + 2]? = some o.2
  | [], _, _, h => by simp at h
  | d :: l, 0, c, h => by
    have : d = c := by simpa using h
    subst this
    simp [lcl]
  | d :: l, k + 1, c, h => by
    have := lcl_get l k c (by simpa using h)
    have e : lcl (d :: l) = [.int .i64 (d.1.1 : Int), .int .i64 (d.1.2.1 : Int), d.2] ++ lcl l := by simp [lcl]
    rw [e, show (k + 1) * 3 = k * 3 + 3 by omega]
    simpa using this
theorem lcl_len : ∀ L : List (Lz × Value), (lcl L).length = L.length * 3
  | [] => rfl
  | d :: l => by
    have e : lcl (d :: l) = [.int .i64 (d.1.1 : Int), .int .i64 (d.1.2.1 : Int), d.2] ++ lcl l := by simp [lcl]
    rw [e, List.length_append, lcl_len l]; simp; omega
theorem RdL.of_row {W : World} {base : Nat} {v : Value} {L : List (Lz × Value)} (h : W.ownsRow base 77 3 v L.length (lcl L)) (he : ∀ o ∈ L, W.ownsRow base 110 4 o.2 o.1.2.2.length (ccl o.1.2.2)) : RdL W v (L.map (·.1)) := by
  rcases h.2 with ⟨h0, h1⟩ | ⟨g, cap, cur, hv, _⟩
  · have : L = [] := List.length_eq_zero_iff.1 h1
    subst this
    exact ⟨_, _, h0, fun h => absurd rfl h⟩
  · subst hv
    refine ⟨some ⟨g, 0, none⟩, cap, by rw [List.length_map], fun _ => ⟨g, rfl, (h.lt g rfl).2, fun k z hk => ?_⟩⟩
    rw [List.getElem?_map] at hk
    obtain ⟨o, ho, rfl⟩ : ∃ o, L[k]? = some o ∧ o.1 = z := by simpa using hk
    have hkl : k < L.length := (List.getElem?_eq_some_iff.1 ho).1
    have hl := lcl_len L
    obtain ⟨e0, e1, e2⟩ := lcl_get L k o ho
    exact ⟨(h.cellAt (k * 3) (by omega)).trans e0, (h.cellAt (k * 3 + 1) (by omega)).trans e1, o.2, (h.cellAt (k * 3 + 2) (by omega)).trans e2, Rd4.of_row (he o (List.mem_of_getElem? ho))⟩
theorem boxQ {W : World} {b : Nat} {x y z : Value} {t : TypeId} (h : W.heap[b]? = some (.cells #[x, y, z] t (0, 0))) : (W.cell? ⟨b, 0, none⟩ = some x ∧ W.cell? ⟨b, 1, none⟩ = some y ∧ W.cell? ⟨b, 2, none⟩ = some z) ∧ W.frozen? ⟨b, 0, none⟩ = false ∧ W.frozen? ⟨b, 1, none⟩ = false ∧ W.frozen? ⟨b, 2, none⟩ = false ∧ b < W.heap.size := by
  refine ⟨⟨by simp [World.cell?, h], by simp [World.cell?, h], by simp [World.cell?, h]⟩, by simp [World.frozen?, h], by simp [World.frozen?, h], by simp [World.frozen?, h], (Array.getElem?_eq_some_iff.1 h).1⟩
set_option maxRecDepth 100000 in
set_option maxHeartbeats 4000000 in
theorem rLines_any (s : ByteArray) (hs : s.size ≤ 1073741824) (w : World) : Calls Tryz.prog 33 #[.string s] w fun e W' => ∃ v, e = .returned v ∧ RdL W' v (lsL s) ∧ Below w.heap.size w W' := by
  have hcl := cl_len s
  obtain ⟨N, hN⟩ : ∃ N, (cl s).length = N := ⟨_, rfl⟩
  have HN : Hid ((cl s).length = N ∧ N ≤ s.size ∧ s.size ≤ 1073741824) := ⟨hN, by omega, hs⟩
  have hNl : (N : Int) ≤ 1073741824 := by omega
  have C0 : Hid (Calls Tryz.prog 63 #[.string s] w fun e W' => ∃ a c, e = .returned (.slice a N c) ∧ Hid (W'.ownsRow w.heap.size 110 4 (.slice a N c) (cl s).length (ccl (cl s)) ∧ Below w.heap.size w W')) := (rlist_any s (by omega) w).mono fun e W' ⟨v, q1, q2, q3⟩ => by
    obtain ⟨a, c, rfl⟩ := q_slice q2
    rw [hN] at q1
    refine ⟨a, c, q1, ?_, q3⟩
    rw [← hN]; exact q2
  clear hN hs hcl
  go_enter Tryz.func33, Tryz.ntmps33
  go_upto_region 4 with (go_at_call 63; refine C0.out.mono ?_; clear C0; rintro e w1 ⟨la, lc, rfl, H1⟩)
  have HL : Hid (Lg w s (.slice la N lc) w1.heap.size 0 0 (.slice none 0 0) [] (.slice none 0 0) [] (w1.alloc (.cells #[.int .i64 0, .int .i64 0, .slice none 0 0] 77))) :=
    ⟨H1.out.2.alloc H1.out.2.size _, H1.out.1.alloc _, World.alloc_heap_new _ _, H1.out.2.size, World.ownsRow_nil _ _ _ _, World.ownsRow_nil _ _ _ _, (fun o ho => by simp at ho), (fun g hg => by cases hg), (fun e => by cases e)⟩
  obtain ⟨nb, hnb⟩ : ∃ nb, w1.heap.size = nb := ⟨_, rfl⟩
  generalize w1.alloc (.cells #[.int .i64 0, .int .i64 0, .slice none 0 0] 77) = W1 at HL ⊢
  rw [hnb] at HL ⊢
  clear hnb H1
  go_wp2
  go_loopw [3, 6] (fun t3 t6 wr => ∃ (ov : Value) (i : Nat), ov = t3 ∧ t6 = .int .i64 i ∧ i ≤ N ∧ Hid (∃ f t av acc outs, Lg w s (.slice la N lc) nb f t av acc ov outs wr ∧ outs.map (·.1) ++ lnL s.size f acc ((cl s).drop i) = lsL s ∧ acc.length ≤ i ∧ outs.length ≤ i)) (fun _ t6 _ => N - (intOf t6).toNat)
  case atStart => exact ⟨_, 0, rfl, rfl, Nat.zero_le _, 0, 0, _, [], [], HL.out, rfl, Nat.le_refl _, Nat.le_refl _⟩
  case round =>
    clear HL
    obtain ⟨ov, i, rfl, rfl, hi, HL⟩ := hrel
    obtain ⟨f, t, av, acc, outs, hG, hE, hA, hO⟩ := HL.out
    obtain ⟨aa, ac, rfl⟩ := q_slice hG.arow
    clear HL
    by_cases hlt : i < N
    · have hlt' : (i : Int) < N := by omega
      obtain ⟨c, hc⟩ : ∃ c, (cl s)[i]? = some c := ⟨(cl s)[i]'(by rw [HN.out.1]; exact hlt), List.getElem?_eq_getElem _⟩
      obtain ⟨a', cap', e1, k1⟩ := Rd4.of_row hG.lst
      injection e1 with e1 e2 e3
      clear e2
      subst e1 e3
      obtain ⟨g, rfl, hg, hcell⟩ := k1 (fun e => by rw [e] at hc; simp at hc)
      obtain ⟨x0, x1, x2, x3⟩ := hcell i c hc
      obtain ⟨⟨b0, b1, b2⟩, f0, f1, f2, hbl⟩ := boxQ hG.box
      have hdrop : (cl s).drop i = c :: (cl s).drop (i + 1) := (List.getElem?_eq_some_iff.1 hc) |> fun ⟨h1, h2⟩ => by rw [← h2]; exact List.drop_eq_getElem_cons h1
      rw [hdrop] at hE
      unfold lnL at hE
      have HG : Hid (Lg w s (.slice (some ⟨g, 0, none⟩) N lc) nb f t (.slice aa acc.length ac) acc ov outs wr) := hG
      have HA : Hid (acc.length ≤ i ∧ outs.length ≤ i) := ⟨hA, hO⟩
      have HC : Hid ((cl s)[i]? = some c) := hc
      clear hG hcell k1 hc hdrop
      by_cases hk : c.k = 1
      · rw [if_pos hk] at hE
        have hk1 : (c.k == 1) = true := by simp [hk]
        have hk2 : decide (c.k = 1) = true := by simp [hk]
        have HE : Hid ((outs ++ [((f, c.fr, acc), Value.slice aa acc.length ac)]).map (·.1) ++ lnL s.size c.to [] ((cl s).drop (i + 1)) = lsL s) := by
          show _ = _
          rw [← hE]; simp
        clear hE hk
        go_upto_region 9 with fail
        have HT : Hid (Lg w s (.slice (some ⟨g, 0, none⟩) N lc) nb f c.fr (.slice aa acc.length ac) acc ov outs (wr.setCell ⟨nb, 1, none⟩ (.int .i64 c.fr))) := HG.out.setT c.fr
        generalize wr.setCell ⟨nb, 1, none⟩ (.int .i64 c.fr) = W2 at HT ⊢
        obtain ⟨v', W', hrun, hbx, hrow, heach, hB, hlst, hL2⟩ := HT.out.addL (by have := HA.out.2; have := HN.out; omega)
        clear b0 b1 b2 f0 f1 f2 hbl x0 x1 x2 x3 HG
        obtain ⟨⟨b0, b1, b2⟩, f0, f1, f2, hbl⟩ := boxQ HT.out.box
        obtain ⟨a', cap', e1, k1⟩ := Rd4.of_row hlst
        injection e1 with e1 e2 e3
        clear e2
        subst e3
        obtain ⟨g', e4, hg', hcell⟩ := k1 (fun e => by have := HC.out; rw [e] at this; simp at this)
        rw [← e1] at e4
        obtain rfl : g = g' := by injection e4 with e4; injection e4
        obtain ⟨x0, x1, x2, x3⟩ := hcell i c HC.out
        obtain ⟨⟨y0, y1, y2⟩, z0, z1, z2, zbl⟩ := boxQ hbx
        have HL2 : Hid (∀ f' t' : Nat, Lg w s (.slice (some ⟨g, 0, none⟩) N lc) nb f' t' (.slice none 0 0) [] v' (outs ++ [((f, c.fr, acc), .slice aa acc.length ac)]) (((W'.setCell ⟨nb, 0, none⟩ (.int .i64 f')).setCell ⟨nb, 1, none⟩ (.int .i64 t')).setCell ⟨nb, 2, none⟩ (.slice none 0 0))) := hL2
        clear hL2 hrow heach hB hlst hbx k1 hcell e1 e4 HT
        go_wp2_with (at_builtin; refine Lib.wpList_append_run _ rfl _ _ _ _ rfl _ _ rfl rfl _ _ hrun ?_; clear hrun)
        exact ⟨⟨v', i + 1, rfl, by go_num, by omega, c.to, 0, _, [], _, HL2.out c.to 0, HE.out, Nat.zero_le _, by have := HA.out.2; simp; omega⟩, by simp [intOf]; omega⟩
      · rw [if_neg hk] at hE
        have hk1 : (c.k == 1) = false := by simp [hk]
        have hk2 : decide (c.k = 1) = false := by simp [hk]
        have HE : Hid (outs.map (·.1) ++ lnL s.size f (acc ++ [c]) ((cl s).drop (i + 1)) = lsL s) := hE
        clear hE
        go_upto_region 11 with fail
        obtain ⟨a', c', W', hrun, hbx, hL2⟩ := HG.out.drew.addC (c := c) (by have := HA.out.1; have := HN.out; omega)
        obtain ⟨⟨y0, y1, y2⟩, z0, z1, z2, zbl⟩ := boxQ hbx
        have HL2 : Hid (Lg w s (.slice (some ⟨g, 0, none⟩) N lc) nb f t (.slice a' (acc.length + 1) c') (acc ++ [c]) ov outs (W'.setCell ⟨nb, 2, none⟩ (.slice a' (acc.length + 1) c'))) := hL2
        clear hL2 hbx HG
        go_region_law (refine step_appQ rfl (.tmp 39) (.tmp 44) 75 rfl _ _ rfl rfl _ _ hrun ?_)
        all_goals go_wp2
        all_goals go_roundw
        all_goals first
          | exact ⟨ov, i + 1, rfl, by go_num, by omega, f, t, _, _, outs, HL2.out, HE.out, by have := HA.out.1; simp; omega, by have := HA.out.2; omega⟩
          | (simp [intOf]; omega)
    · have hlt' : ¬ ((i : Int) < N) := by omega
      obtain ⟨⟨b0, b1, b2⟩, f0, f1, f2, hbl⟩ := boxQ hG.box
      have hd : (cl s).drop i = [] := by rw [List.drop_eq_nil_iff, HN.out.1]; omega
      rw [hd] at hE
      unfold lnL at hE
      have HE : Hid ((outs ++ [((f, s.size, acc), Value.slice aa acc.length ac)]).map (·.1) = lsL s) := by
        show _ = _
        rw [← hE]; simp
      have HG : Hid (Lg w s (.slice la N lc) nb f t (.slice aa acc.length ac) acc ov outs wr) := hG
      have HA : Hid (acc.length ≤ i ∧ outs.length ≤ i) := ⟨hA, hO⟩
      clear hG hE hd
      go_upto_region 13 with fail
      have HT : Hid (Lg w s (.slice la N lc) nb f s.size (.slice aa acc.length ac) acc ov outs (wr.setCell ⟨nb, 1, none⟩ (.int .i64 s.size))) := HG.out.setT s.size
      generalize wr.setCell ⟨nb, 1, none⟩ (.int .i64 s.size) = W2 at HT ⊢
      obtain ⟨v', W', hrun, hbx, hrow, heach, hB, hlst, hL2⟩ := HT.out.addL (by have := HA.out.2; have := HN.out; omega)
      have HR : Hid (RdL W' v' (lsL s) ∧ Below w.heap.size w W') := by
        refine ⟨?_, hB⟩
        rw [← HE.out]
        exact RdL.of_row hrow heach
      clear b0 b1 b2 f0 f1 f2 hbl HG hL2 hrow heach hB hlst hbx
      obtain ⟨⟨b0, b1, b2⟩, f0, f1, f2, hbl⟩ := boxQ HT.out.box
      go_wp2_with (at_builtin; refine Lib.wpList_append_run _ rfl _ _ _ _ rfl _ _ rfl rfl _ _ hrun ?_; clear hrun)
      go_ret
      exact ⟨v', rfl, HR.out.1, HR.out.2⟩
end Go.Proofs.YtenkmidlipjobaaGreatDoor.Sto
namespace Go.Proofs.YtenkmidlipjobaaGreatDoor.Sto
open Go.RowKit Go.Shelf Bod Wid

theorem snp_neg (s : ByteArray) {i : Int} (h : i < 0) : snp s i = 0 := (snp_is s i).uniq ⟨cb_zero s, .inl (by omega), fun j _ h2 => cb_out (.inl h2)⟩
theorem snp_zero (s : ByteArray) : snp s 0 = 0 := snp_self (s := s) (a := 0) (cb_zero s)
set_option maxRecDepth 100000 in
set_option maxHeartbeats 1000000 in
theorem rsnap16_any (s : ByteArray) (i : Int) (hs : s.size ≤ 2097152) (w : World) : Calls Tryz.prog 34 #[.string s, .int .i64 i] w fun e W' => e = .returned (.int .i64 (snp s i : Nat)) ∧ Below w.heap.size w W' := by
  by_cases h : i < 0
  · have C : Hid (Calls Tryz.prog 64 #[.string s, .int .i64 0] w fun e W' => e = .returned (.int .i64 (snp s i : Nat)) ∧ Hid (Below w.heap.size w W')) := (rsnap_any s 0 hs w).mono fun e W' ⟨m, q1, q2, q3⟩ => ⟨by rw [q1, q2.uniq (snp_is s 0), snp_zero, snp_neg s h], q3⟩
    generalize snp s i = m at C ⊢
    clear hs
    go_enter Tryz.func34, Tryz.ntmps34
    go_wp2_with (go_at_call 64; refine C.out.mono ?_; clear C; rintro e w1 ⟨rfl, HB⟩)
    go_ret
    exact ⟨rfl, HB.out⟩
  · have C : Hid (Calls Tryz.prog 64 #[.string s, .int .i64 i] w fun e W' => e = .returned (.int .i64 (snp s i : Nat)) ∧ Hid (Below w.heap.size w W')) := (rsnap_any s i hs w).mono fun e W' ⟨m, q1, q2, q3⟩ => ⟨by rw [q1, q2.uniq (snp_is s i)], q3⟩
    generalize snp s i = m at C ⊢
    clear hs
    go_enter Tryz.func34, Tryz.ntmps34
    go_wp2_with (go_at_call 64; refine C.out.mono ?_; clear C; rintro e w1 ⟨rfl, HB⟩)
    go_ret
    exact ⟨rfl, HB.out⟩
set_option maxRecDepth 100000 in
set_option maxHeartbeats 1000000 in
theorem rMotion_any (k : Int) (w : World) : Calls Tryz.prog 14 #[.int .i64 k] w fun e W' => e = .returned (.bool (decide (4 ≤ k ∧ k ≤ 13))) ∧ Below w.heap.size w W' := by
  by_cases h1 : 4 ≤ k
  · by_cases h2 : k ≤ 13
    · rw [decide_eq_true ⟨h1, h2⟩]
      go_enter Tryz.func14, Tryz.ntmps14
      go_wp2
      go_ret
      exact ⟨rfl, Below.refl _ _⟩
    · rw [decide_eq_false (fun x => h2 x.2)]
      go_enter Tryz.func14, Tryz.ntmps14
      go_wp2
      go_ret
      exact ⟨rfl, Below.refl _ _⟩
  · rw [decide_eq_false (fun x => h1 x.1)]
    go_enter Tryz.func14, Tryz.ntmps14
    go_wp2
    go_ret
    exact ⟨rfl, Below.refl _ _⟩
/-- a list of lines, where it lies -/
theorem RdL.at {W : World} {v : Value} {s : ByteArray} (h : RdL W v (lsL s)) : ∃ g cap, v = .slice (some ⟨g, 0, none⟩) (cn s 0 s.size + 1) cap ∧ ∀ (k : Nat) (z : Lz), (lsL s)[k]? = some z → W.cell? ⟨g, k * 3, none⟩ = some (.int .i64 z.1) ∧ W.cell? ⟨g, k * 3 + 1, none⟩ = some (.int .i64 z.2.1) ∧ ∃ sv, W.cell? ⟨g, k * 3 + 2, none⟩ = some sv ∧ Rd4 W sv z.2.2 := by
  obtain ⟨a, cap, rfl, h2⟩ := h
  have hl := (lsL_is s).2
  obtain ⟨g, rfl, -, h3⟩ := h2 (fun e => by rw [e] at hl; simp at hl)
  exact ⟨g, cap, by rw [hl], h3⟩
set_option maxRecDepth 100000 in
set_option maxHeartbeats 1000000 in
theorem rlineOf_any {w : World} {v : Value} {s : ByteArray} (h : RdL w v (lsL s)) (hs : s.size ≤ 1073741824) (p : Nat) (hp : cbZ s p = true) : Calls Tryz.prog 35 #[v, .int .i64 p] w fun e W' => e = .returned (.int .i64 (cn s 0 p : Nat)) ∧ Below w.heap.size w W' := by
  obtain ⟨g, cap, rfl, hc⟩ := h.at
  have hpl := cb_le hp
  have hcm := cn_mono (s := s) (a := 0) (b := p) (c := s.size) (by omega) hpl
  have hcs := cn_le (s := s) (a := 0) (c := s.size) (Nat.le_refl _)
  obtain ⟨n, hn⟩ : ∃ n, cn s 0 p = n := ⟨_, rfl⟩
  obtain ⟨N, hN⟩ : ∃ N, cn s 0 s.size + 1 = N := ⟨_, rfl⟩
  have HC : Hid (∀ (k : Nat), k ≤ n → ∃ x y : Nat, w.cell? ⟨g, k * 3, none⟩ = some (.int .i64 x) ∧ w.cell? ⟨g, k * 3 + 1, none⟩ = some (.int .i64 y) ∧ (k < n → ¬ (x ≤ p ∧ p ≤ y)) ∧ (k = n → x ≤ p ∧ p ≤ y)) := fun k hk => by
    obtain ⟨z, hz, -, -⟩ := lsL_at (s := s) (l := k) (by omega)
    obtain ⟨c0, c1, -⟩ := hc k z hz
    refine ⟨_, _, c0, c1, fun hk => lsL_no hz (by omega), fun hk => ?_⟩
    subst hk
    rw [← hn] at hz
    exact lsL_in hp hz
  rw [hn, hN]
  have hnN : n < N := by omega
  have hNl : (N : Int) ≤ 1073741825 := by omega
  clear hc hn hN h hp hcm hcs
  go_enter Tryz.func35, Tryz.ntmps35
  go_wp2
  go_loopw [5] (fun t wr => ∃ k : Nat, t = .int .i64 k ∧ k ≤ n ∧ w = wr) (fun t _ => n - (intOf t).toNat)
  case atStart => exact ⟨0, rfl, Nat.zero_le _, rfl⟩
  case round =>
    obtain ⟨k, rfl, hk, rfl⟩ := hrel
    obtain ⟨x, y, c0, c1, d0, d1⟩ := HC.out k hk
    have hkN : (k : Int) < N := by omega
    by_cases he : k = n
    · have d2 := d1 he
      have d3 : (x : Int) ≤ p := by omega
      have d4 : (p : Int) ≤ y := by omega
      have HK : Hid (k = n) := he
      clear he d0 d1
      go_wp2
      go_ret
      exact ⟨ret_int (by rw [HK.out]), Below.refl _ _⟩
    · have d2 := d0 (by omega)
      clear d0 d1
      by_cases hx : x ≤ p
      · have d3 : (x : Int) ≤ p := by omega
        have d4 : ¬ ((p : Int) ≤ y) := by omega
        go_wp2
        exact ⟨⟨k + 1, by go_num, by omega, trivial⟩, by simp [intOf]; omega⟩
      · have d3 : ¬ ((x : Int) ≤ p) := by omega
        go_wp2
        exact ⟨⟨k + 1, by go_num, by omega, trivial⟩, by simp [intOf]; omega⟩
theorem colS_snoc (p : Nat) (l : List Clu) (c : Clu) : colS p (l ++ [c]) = colS p l + (if c.to ≤ p then c.n else 0) := by rw [colS_app]; simp [colS]
theorem take_snoc {l : List Clu} {i : Nat} {c : Clu} (h : l[i]? = some c) : l.take (i + 1) = l.take i ++ [c] := by rw [List.take_add_one, h]; rfl
/-- a line in a box of the call's own, and its clusters -/
structure Lb3 (w : World) (x y : Nat) (a : Option Addr) (n cap : Nat) (cs : List Clu) (W : World) : Prop where
  box : W.heap[w.heap.size]? = some (.cells #[.int .i64 x, .int .i64 y, .slice a n cap] 77 (0, 0))
  rd : Rd4 W (.slice a n cap) cs
  bel : Below w.heap.size w W
theorem Lb3.cell {w W : World} {x y : Nat} {a : Option Addr} {n cap : Nat} {cs : List Clu} (h : Lb3 w x y a n cap cs W) {i : Nat} {c : Clu} (hc : cs[i]? = some c) : ∃ g, a = some ⟨g, 0, none⟩ ∧ W.cell? ⟨g, i * 4 + 1, none⟩ = some (.int .i64 c.to) ∧ W.cell? ⟨g, i * 4 + 3, none⟩ = some (.int .i64 c.n) := by
  obtain ⟨a', cap', e, h2⟩ := h.rd
  injection e with e1 _ e3
  subst e1 e3
  obtain ⟨g, rfl, -, h3⟩ := h2 (fun e => by rw [e] at hc; simp at hc)
  obtain ⟨c0, c1, c2, c3⟩ := h3 i c hc
  exact ⟨g, rfl, c1, c3⟩
set_option maxRecDepth 100000 in
set_option maxHeartbeats 1000000 in
theorem rcol_any {w : World} {sv : Value} {cs : List Clu} (hr : Rd4 w sv cs) (hl : cs.length ≤ 1073741824) (hn : ∀ c ∈ cs, 0 ≤ c.n ∧ c.n ≤ 2) (x y p : Nat) : Calls Tryz.prog 36 #[.agg #[.int .i64 x, .int .i64 y, sv], .int .i64 p] w fun e W' => e = .returned (.int .i64 (colS p cs)) ∧ Below w.heap.size w W' := by
  have hr0 := hr
  obtain ⟨a, cap, rfl, -⟩ := hr
  obtain ⟨N, hN⟩ : ∃ N, cs.length = N := ⟨_, rfl⟩
  obtain ⟨W0, hW0⟩ : ∃ W0, w.alloc (.cells #[.int .i64 x, .int .i64 y, .slice a N cap] 77) = W0 := ⟨_, rfl⟩
  have HB : Hid (Lb3 w x y a N cap cs W0) := by
    show Lb3 _ _ _ _ _ _ _ _
    rw [← hW0]
    refine ⟨World.alloc_heap_new _ _, ?_, (Below.refl _ w).alloc (Nat.le_refl _) _⟩
    rw [hN] at hr0
    exact hr0.below ((Below.refl _ w).alloc (Nat.le_refl _) _)
  have HN : Hid (cs.length = N ∧ ∀ c ∈ cs, 0 ≤ c.n ∧ c.n ≤ 2) := ⟨hN, hn⟩
  obtain ⟨R, hR⟩ : ∃ R, colS p cs = R := ⟨_, rfl⟩
  have HR : Hid (colS p cs = R) := hR
  rw [hN] at hl
  have hNl : (N : Int) ≤ 1073741824 := by omega
  rw [hN, hR]
  clear hr0 hN hn hR
  obtain ⟨⟨b0, b1, b2⟩, -, -, -, -⟩ := boxQ HB.out.box
  go_enter Tryz.func36, Tryz.ntmps36
  go_wp2
  clear hW0
  go_loopw [5, 6] (fun t5 t6 wr => ∃ (m : Int) (i : Nat), t5 = .int .i64 m ∧ t6 = .int .i64 i ∧ i ≤ N ∧ 0 ≤ m ∧ m ≤ 2 * i ∧ Hid (m = colS p (cs.take i)) ∧ W0 = wr) (fun _ t6 _ => N - (intOf t6).toNat)
  case atStart => exact ⟨0, 0, rfl, rfl, Nat.zero_le _, by omega, by omega, rfl, rfl⟩
  case round =>
    obtain ⟨m, i, rfl, rfl, hi, hm1, hm2, HM, rfl⟩ := hrel
    by_cases hlt : i < N
    · have hlt' : (i : Int) < N := by omega
      obtain ⟨c, hc⟩ : ∃ c, cs[i]? = some c := ⟨cs[i]'(by rw [HN.out.1]; exact hlt), List.getElem?_eq_getElem _⟩
      obtain ⟨g, rfl, x1, x3⟩ := HB.out.cell hc
      have hcn := HN.out.2 c (List.mem_of_getElem? hc)
      have HS : Hid (colS p (cs.take (i + 1)) = colS p (cs.take i) + (if c.to ≤ p then c.n else 0)) := by rw [take_snoc hc]; exact colS_snoc _ _ _
      obtain ⟨ct, hct⟩ : ∃ ct, c.to = ct := ⟨_, rfl⟩
      obtain ⟨cN, hcN⟩ : ∃ cN, c.n = cN := ⟨_, rfl⟩
      rw [hct] at x1 HS
      rw [hcN] at x3 HS hcn
      clear hc hct hcN
      by_cases hle : ct ≤ p
      · have hle' : (ct : Int) ≤ p := by omega
        go_wp2
        exact ⟨⟨m + cN, i + 1, rfl, by go_num, by omega, by omega, by omega, by show m + cN = _; rw [HS.out, if_pos hle, HM.out], trivial⟩, by simp [intOf]; omega⟩
      · have hle' : ¬ ((ct : Int) ≤ p) := by omega
        go_wp2
        exact ⟨⟨m, i + 1, rfl, by go_num, by omega, by omega, by omega, by show m = _; rw [HS.out, if_neg hle, HM.out]; omega, trivial⟩, by simp [intOf]; omega⟩
    · have hlt' : ¬ ((i : Int) < N) := by omega
      have HE : Hid (m = R) := by
        show m = R
        rw [HM.out, ← HR.out, List.take_of_length_le (by rw [HN.out.1]; omega)]
      clear HM
      go_wp2
      go_ret
      exact ⟨ret_int HE.out, HB.out.bel⟩
theorem plcS_snoc (c : Int) : ∀ (l : List Clu) (b : Nat) (n : Int) (d : Clu), plcS c b n (l ++ [d]) = if n + sumN l + d.n ≤ c then d.to else plcS c b n l
  | [], b, n, d => by
    have e : n + sumN [] + d.n = n + d.n := by show n + 0 + d.n = _; omega
    simp only [List.nil_append, plcS]
    by_cases h : n + d.n ≤ c
    · rw [if_pos h, if_pos (by omega)]
    · rw [if_neg h, if_neg (by omega)]
  | e :: l, b, n, d => by
    have ih := plcS_snoc c l (if n + e.n ≤ c then e.to else b) (n + e.n) d
    have e2 : sumN (e :: l) = e.n + sumN l := rfl
    simp only [List.cons_append, plcS]
    rw [ih]
    by_cases h : n + e.n + sumN l + d.n ≤ c
    · rw [if_pos h, if_pos (show n + sumN (e :: l) + d.n ≤ c by omega)]
    · rw [if_neg h, if_neg (show ¬ n + sumN (e :: l) + d.n ≤ c by omega)]
theorem sum_snoc (l : List Clu) (c : Clu) : sumN (l ++ [c]) = sumN l + c.n := by rw [sumN_app]; show _ + (c.n + 0) = _; omega
set_option maxRecDepth 100000 in
set_option maxHeartbeats 1000000 in
theorem rplc_any {w : World} {sv : Value} {cs : List Clu} (hr : Rd4 w sv cs) (hl : cs.length ≤ 1073741824) (hn : ∀ c ∈ cs, 0 ≤ c.n ∧ c.n ≤ 2) (x y : Nat) (c : Int) : Calls Tryz.prog 43 #[.agg #[.int .i64 x, .int .i64 y, sv], .int .i64 c] w fun e W' => e = .returned (.int .i64 (plcS c x 0 cs : Nat)) ∧ Below w.heap.size w W' := by
  have hr0 := hr
  obtain ⟨a, cap, rfl, -⟩ := hr
  obtain ⟨N, hN⟩ : ∃ N, cs.length = N := ⟨_, rfl⟩
  obtain ⟨W0, hW0⟩ : ∃ W0, w.alloc (.cells #[.int .i64 x, .int .i64 y, .slice a N cap] 77) = W0 := ⟨_, rfl⟩
  have HB : Hid (Lb3 w x y a N cap cs W0) := by
    show Lb3 _ _ _ _ _ _ _ _
    rw [← hW0]
    refine ⟨World.alloc_heap_new _ _, ?_, (Below.refl _ w).alloc (Nat.le_refl _) _⟩
    rw [hN] at hr0
    exact hr0.below ((Below.refl _ w).alloc (Nat.le_refl _) _)
  have HN : Hid (cs.length = N ∧ ∀ c ∈ cs, 0 ≤ c.n ∧ c.n ≤ 2) := ⟨hN, hn⟩
  obtain ⟨R, hR⟩ : ∃ R, plcS c x 0 cs = R := ⟨_, rfl⟩
  have HR : Hid (plcS c x 0 cs = R) := hR
  rw [hN] at hl
  have hNl : (N : Int) ≤ 1073741824 := by omega
  rw [hN, hR]
  clear hr0 hN hn hR
  obtain ⟨⟨b0, b1, b2⟩, -, -, -, -⟩ := boxQ HB.out.box
  go_enter Tryz.func43, Tryz.ntmps43
  go_wp2
  clear hW0
  go_loopw [5, 6, 7] (fun t5 t6 t7 wr => ∃ (q : Nat) (m : Int) (i : Nat), t5 = .int .i64 q ∧ t6 = .int .i64 m ∧ t7 = .int .i64 i ∧ i ≤ N ∧ 0 ≤ m ∧ m ≤ 2 * i ∧ Hid (m = sumN (cs.take i) ∧ q = plcS c x 0 (cs.take i)) ∧ W0 = wr) (fun _ _ t7 _ => N - (intOf t7).toNat)
  case atStart => exact ⟨x, 0, 0, rfl, rfl, rfl, Nat.zero_le _, by omega, by omega, ⟨rfl, rfl⟩, rfl⟩
  case round =>
    obtain ⟨q, m, i, rfl, rfl, rfl, hi, hm1, hm2, HM, rfl⟩ := hrel
    by_cases hlt : i < N
    · have hlt' : (i : Int) < N := by omega
      obtain ⟨d, hc⟩ : ∃ d, cs[i]? = some d := ⟨cs[i]'(by rw [HN.out.1]; exact hlt), List.getElem?_eq_getElem _⟩
      obtain ⟨g, rfl, x1, x3⟩ := HB.out.cell hc
      have hcn := HN.out.2 d (List.mem_of_getElem? hc)
      have HS : Hid (sumN (cs.take (i + 1)) = m + d.n ∧ plcS c x 0 (cs.take (i + 1)) = if m + d.n ≤ c then d.to else q) := by
        rw [take_snoc hc, sum_snoc, plcS_snoc, ← HM.out.1, ← HM.out.2]
        exact ⟨rfl, by rw [Int.zero_add]⟩
      obtain ⟨ct, hct⟩ : ∃ ct, d.to = ct := ⟨_, rfl⟩
      obtain ⟨cN, hcN⟩ : ∃ cN, d.n = cN := ⟨_, rfl⟩
      rw [hct] at x1 HS
      rw [hcN] at x3 HS hcn
      clear hc hct hcN
      by_cases hle : m + cN ≤ c
      · have HT : Hid (sumN (cs.take (i + 1)) = m + cN ∧ plcS c x 0 (cs.take (i + 1)) = ct) := ⟨HS.out.1, by rw [HS.out.2, if_pos hle]⟩
        clear HS HM
        go_wp2
        exact ⟨⟨ct, m + cN, i + 1, rfl, rfl, by go_num, by omega, by omega, by omega, ⟨HT.out.1.symm, HT.out.2.symm⟩, trivial⟩, by simp [intOf]; omega⟩
      · have HT : Hid (sumN (cs.take (i + 1)) = m + cN ∧ plcS c x 0 (cs.take (i + 1)) = q) := ⟨HS.out.1, by rw [HS.out.2, if_neg hle]⟩
        clear HS HM
        go_wp2
        exact ⟨⟨q, m + cN, i + 1, rfl, rfl, by go_num, by omega, by omega, by omega, ⟨HT.out.1.symm, HT.out.2.symm⟩, trivial⟩, by simp [intOf]; omega⟩
    · have hlt' : ¬ ((i : Int) < N) := by omega
      have HE : Hid (q = R) := by
        show q = R
        rw [HM.out.2, ← HR.out, List.take_of_length_le (by rw [HN.out.1]; omega)]
      clear HM
      go_wp2
      go_ret
      exact ⟨ret_int (by rw [HE.out]), HB.out.bel⟩
theorem lsL_cs {s : ByteArray} {l : Nat} {z : Lz} (hz : (lsL s)[l]? = some z) (hs : s.size ≤ 1073741824) : z.2.2.length ≤ 1073741824 ∧ ∀ c ∈ z.2.2, 0 ≤ c.n ∧ c.n ≤ 2 := by
  have h := (lsL_is s).1 l z hz
  rw [h.2]
  have hle := h.1.le
  have hz2 := size_extract s z.1 z.2.1 hle.2
  refine ⟨by rw [List.length_map]; have := cl_len (s.extract z.1 z.2.1); omega, fun c hc => ?_⟩
  obtain ⟨d, hd, rfl⟩ := List.mem_map.1 hc
  exact cl_n _ d hd
/-- one line of the list: where it lies; its column and place -/
theorem RdL.line {w : World} {v : Value} {s : ByteArray} (h : RdL w v (lsL s)) (hs : s.size ≤ 1073741824) {l : Nat} (hl : l ≤ cn s 0 s.size) : ∃ g cap x y a n c, v = .slice (some ⟨g, 0, none⟩) (cn s 0 s.size + 1) cap ∧ (∀ W, Below w.heap.size w W → W.cell? ⟨g, l * 3, none⟩ = some (.int .i64 (x : Nat)) ∧ W.cell? ⟨g, l * 3 + 1, none⟩ = some (.int .i64 (y : Nat)) ∧ W.cell? ⟨g, l * 3 + 2, none⟩ = some (.slice a n c)) ∧ lspF s l = some (x, y) ∧
    (∀ W (p : Nat), Below w.heap.size w W → cbZ s p = true → cn s 0 p = l → Calls Tryz.prog 36 #[.agg #[.int .i64 x, .int .i64 y, .slice a n c], .int .i64 p] W fun e W' => e = .returned (.int .i64 (colF s p)) ∧ Below W.heap.size W W') ∧
    (∀ W (q : Int), Below w.heap.size w W → 0 ≤ q → Calls Tryz.prog 43 #[.agg #[.int .i64 x, .int .i64 y, .slice a n c], .int .i64 q] W fun e W' => e = .returned (.int .i64 (plcF s l q : Nat)) ∧ Below W.heap.size W W') := by
  obtain ⟨g, cap, e, hc⟩ := h.at
  obtain ⟨z, hz, hS, -⟩ := lsL_at hl
  obtain ⟨b1, b2⟩ := lsL_cs hz hs
  obtain ⟨c0, c1, sv, c2, hr⟩ := hc l z hz
  have hr0 := hr
  obtain ⟨a, c, rfl, -⟩ := hr
  have hlt : g < w.heap.size := by
    unfold World.cell? at c0
    cases ho : w.heap[g]? with
    | none => simp [ho] at c0
    | some o => exact (Array.getElem?_eq_some_iff.1 ho).1
  refine ⟨g, cap, z.1, z.2.1, a, z.2.2.length, c, e, fun W hW => ⟨(hW.cell (p := ⟨g, l * 3, none⟩) hlt).trans c0, (hW.cell (p := ⟨g, l * 3 + 1, none⟩) hlt).trans c1, (hW.cell (p := ⟨g, l * 3 + 2, none⟩) hlt).trans c2⟩, lspF_eq hS, fun W p hW hp hpl => ?_, fun W q hW hq => ?_⟩
  · subst hpl
    have := rcol_any (hr0.below hW) b1 b2 z.1 z.2.1 p
    rw [col_sum hp hz] at this
    exact this
  · have := rplc_any (hr0.below hW) b1 b2 z.1 z.2.1 q
    rw [plc_sum hq hz] at this
    exact this
end Go.Proofs.YtenkmidlipjobaaGreatDoor.Sto
namespace Go.Proofs.YtenkmidlipjobaaGreatDoor.Sto
open Go.RowKit Go.Shelf Bod Wid

/-- a list of lines in later worlds, and one of its lines -/
structure La (w : World) (s : ByteArray) (l g N cap x y : Nat) (a : Option Addr) (n c : Nat) : Prop where
  rd : RdL w (.slice (some ⟨g, 0, none⟩) N cap) (lsL s)
  cell : ∀ W, Below w.heap.size w W → W.cell? ⟨g, l * 3, none⟩ = some (.int .i64 (x : Nat)) ∧ W.cell? ⟨g, l * 3 + 1, none⟩ = some (.int .i64 (y : Nat)) ∧ W.cell? ⟨g, l * 3 + 2, none⟩ = some (.slice a n c)
  sp : lspF s l = some (x, y)
  col : ∀ W (p : Nat), Below w.heap.size w W → cbZ s p = true → cn s 0 p = l → Calls Tryz.prog 36 #[.agg #[.int .i64 x, .int .i64 y, .slice a n c], .int .i64 p] W fun e W' => e = .returned (.int .i64 (colF s p)) ∧ Below W.heap.size W W'
  plc : ∀ W (q : Int), Below w.heap.size w W → 0 ≤ q → Calls Tryz.prog 43 #[.agg #[.int .i64 x, .int .i64 y, .slice a n c], .int .i64 q] W fun e W' => e = .returned (.int .i64 (plcF s l q : Nat)) ∧ Below W.heap.size W W'
theorem RdL.la {w : World} {v : Value} {s : ByteArray} (h : RdL w v (lsL s)) (hs : s.size ≤ 1073741824) {l : Nat} (hl : l ≤ cn s 0 s.size) : ∃ g cap x y a n c, v = .slice (some ⟨g, 0, none⟩) (cn s 0 s.size + 1) cap ∧ La w s l g (cn s 0 s.size + 1) cap x y a n c := by
  obtain ⟨g, cap, x, y, a, n, c, rfl, h1, h2, h3, h4⟩ := h.line hs hl
  exact ⟨g, cap, x, y, a, n, c, rfl, h, h1, h2, h3, h4⟩
theorem cn_sz {s : ByteArray} {p : Nat} (h : p ≤ s.size) : cn s 0 p ≤ cn s 0 s.size ∧ cn s 0 s.size ≤ s.size := by
  have h1 := cn_mono (s := s) (a := 0) (b := p) (c := s.size) (by omega) h
  have h2 := cn_le (s := s) (a := 0) (c := s.size) (Nat.le_refl _)
  omega
set_option maxRecDepth 100000 in
set_option maxHeartbeats 1000000 in
theorem rColumn_any (s : ByteArray) (hs : s.size ≤ 2097152) (i : Int) (w : World) : Calls Tryz.prog 19 #[.string s, .int .i64 i] w fun e W' => e = .returned (.int .i64 (colF s (snp s i))) ∧ Below w.heap.size w W' := by
  have hp := (snp_is s i).cb
  have hb := cn_sz (cb_le hp)
  have C1 : Hid (∀ W, Calls Tryz.prog 34 #[.string s, .int .i64 i] W fun e W' => e = .returned (.int .i64 (snp s i : Nat)) ∧ Hid (Below W.heap.size W W')) := fun W => rsnap16_any s i hs W
  generalize snp s i = p at hp hb C1 ⊢
  obtain ⟨l, hl⟩ : ∃ l, cn s 0 p = l := ⟨_, rfl⟩
  obtain ⟨N, hN⟩ : ∃ N, cn s 0 s.size + 1 = N := ⟨_, rfl⟩
  have C0 : Hid (Calls Tryz.prog 33 #[.string s] w fun e W' => ∃ (g cap x y : Nat) (a : Option Addr) (n c : Nat), e = .returned (.slice (some ⟨g, 0, none⟩) N cap) ∧ Hid (La W' s l g N cap x y a n c ∧ Below w.heap.size w W')) := (rLines_any s (by omega) w).mono fun e W' ⟨v, q1, q2, q3⟩ => by
    obtain ⟨g, cap, x, y, a, n, c, e, hA⟩ := q2.la (l := l) (by omega) (by omega)
    rw [hN] at e hA
    exact ⟨g, cap, x, y, a, n, c, by rw [q1, e], hA, q3⟩
  have HP : Hid (cbZ s p = true ∧ cn s 0 p = l ∧ s.size ≤ 2097152) := ⟨hp, hl, hs⟩
  have hlN : (l : Int) < N := by omega
  have hNl : (N : Int) ≤ 2097153 := by omega
  obtain ⟨R, hR⟩ : ∃ R, colF s p = R := ⟨_, rfl⟩
  have HR : Hid (colF s p = R) := hR
  rw [hR]
  clear hp hb hl hN hR hs
  go_enter Tryz.func19, Tryz.ntmps19
  go_upto_region 2 with (go_at_call 33; refine C0.out.mono ?_; clear C0; rintro e X ⟨g, cap, x, y, a, n, c, rfl, HL⟩)
  have HB0 : Hid (Below X.heap.size X X) := Below.refl _ _
  have D1 : Hid (∀ W, Hid (Below X.heap.size X W) → Calls Tryz.prog 34 #[.string s, .int .i64 i] W fun e W' => e = .returned (.int .i64 (p : Nat)) ∧ Hid (Below X.heap.size X W')) := fun W hW => (C1.out W).mono fun e W' ⟨q1, q2⟩ => ⟨q1, Below.on hW.out q2.out⟩
  have D2 : Hid (∀ W, Hid (Below X.heap.size X W) → Calls Tryz.prog 35 #[.slice (some ⟨g, 0, none⟩) N cap, .int .i64 p] W fun e W' => e = .returned (.int .i64 (l : Nat)) ∧ Hid (Below X.heap.size X W')) := fun W hW => (rlineOf_any (HL.out.1.rd.below hW.out) (by have := HP.out.2.2; omega) p HP.out.1).mono fun e W' ⟨q1, q2⟩ => ⟨by rw [q1, HP.out.2.1], Below.on hW.out q2⟩
  have D3 : Hid (∀ W, Hid (Below X.heap.size X W) → Calls Tryz.prog 36 #[.agg #[.int .i64 x, .int .i64 y, .slice a n c], .int .i64 p] W fun e W' => e = .returned (.int .i64 R) ∧ Hid (Below X.heap.size X W')) := fun W hW => (HL.out.1.col W p hW.out HP.out.1 HP.out.2.1).mono fun e W' ⟨q1, q2⟩ => ⟨by rw [q1, HR.out], Below.on hW.out q2⟩
  clear C1 HR HP
  go_wp2_with (first
    | (go_at_call 34; refine (D1.out _ HB0).mono ?_; clear D1 HB0; rintro e w2 ⟨rfl, HB⟩)
    | (go_at_call 35; refine (D2.out _ HB).mono ?_; clear D2 HB; rintro e w3 ⟨rfl, HB⟩; obtain ⟨c0, c1, c2⟩ := HL.out.1.cell _ HB.out)
    | (go_at_call 36; refine (D3.out _ HB).mono ?_; clear D3 HB c0 c1 c2; rintro e w4 ⟨rfl, HB⟩))
  go_ret
  exact ⟨rfl, Below.on HL.out.2 HB.out⟩
set_option maxRecDepth 100000 in
set_option maxHeartbeats 2000000 in
theorem rPlace_any (s : ByteArray) (hs : s.size ≤ 2097152) (i q : Int) (w : World) : Calls Tryz.prog 21 #[.string s, .int .i64 i, .int .i64 q] w fun e W' => e = .returned (.int .i64 (plcF s (hl s i) q : Nat)) ∧ Below w.heap.size w W' := by
  have hb := cn_sz (s := s) (p := s.size) (Nat.le_refl _)
  have hin := hl_in s i
  obtain ⟨l, hl'⟩ := Int.eq_ofNat_of_zero_le hin.1
  obtain ⟨N, hN⟩ : ∃ N, cn s 0 s.size + 1 = N := ⟨_, rfl⟩
  have hi : hl s i = if i < 0 then 0 else if (N : Int) ≤ i then (N : Int) - 1 else i := by
    unfold hl
    split
    · omega
    · split <;> omega
  rw [hl'] at hi hin ⊢
  obtain ⟨q2, hq2⟩ : ∃ q2, max q 0 = q2 := ⟨_, rfl⟩
  have hq : plcF s (l : Int) q = plcF s (l : Int) q2 := by
    obtain ⟨x, y, hS⟩ := line_ex (s := s) (l := (l : Int)) hin
    have h1 := plc_is (c := q) hS
    have h2 := plc_is (c := q2) hS
    rw [show max q2 0 = max q 0 by omega] at h2
    exact h1.uniq h2
  have C0 : Hid (Calls Tryz.prog 33 #[.string s] w fun e W' => ∃ (g cap x y : Nat) (a : Option Addr) (n c : Nat), e = .returned (.slice (some ⟨g, 0, none⟩) N cap) ∧ Hid (La W' s l g N cap x y a n c ∧ Below w.heap.size w W')) := (rLines_any s (by omega) w).mono fun e W' ⟨v, q1, q2, q3⟩ => by
    obtain ⟨g, cap, x, y, a, n, c, e, hA⟩ := q2.la (l := l) (by omega) (by omega)
    rw [hN] at e hA
    exact ⟨g, cap, x, y, a, n, c, by rw [q1, e], hA, q3⟩
  have hlN : (l : Int) < N := by omega
  have hNl : (N : Int) ≤ 2097153 := by omega
  have hN1 : (1 : Int) ≤ N := by omega
  obtain ⟨R, hR⟩ : ∃ R, plcF s (l : Int) q2 = R := ⟨_, rfl⟩
  have HR : Hid (plcF s (l : Int) q2 = R) := hR
  have hq0 : 0 ≤ q2 := by omega
  rw [hq, hR]
  clear hb hN hR hs hq hin hl'
  go_enter Tryz.func21, Tryz.ntmps21
  go_upto_if 11 with (go_at_call 33; refine C0.out.mono ?_; clear C0; rintro e X ⟨g, cap, x, y, a, n, c, rfl, HL⟩)
  have HB0 : Hid (Below X.heap.size X X) := Below.refl _ _
  have D3 : Hid (∀ W, Hid (Below X.heap.size X W) → Calls Tryz.prog 43 #[.agg #[.int .i64 x, .int .i64 y, .slice a n c], .int .i64 q2] W fun e W' => e = .returned (.int .i64 (R : Nat)) ∧ Hid (Below X.heap.size X W')) := fun W hW => (HL.out.1.plc W q2 hW.out hq0).mono fun e W' ⟨q1, q2⟩ => ⟨by rw [q1, HR.out], Below.on hW.out q2⟩
  obtain ⟨c0, c1, c2⟩ := HL.out.1.cell _ HB0.out
  clear HR
  go_cut [1] (fun t1 wc => t1 = .int .i64 (max i 0) ∧ X = wc)
  case first =>
    by_cases h : i < 0
    · go_wp2
      go_meet
      case rel => first | exact ⟨rfl, rfl⟩ | exact ⟨by rw [show max i 0 = 0 by omega], rfl⟩
    · go_wp2
      go_meet
      case rel => first | exact ⟨rfl, rfl⟩ | exact ⟨by rw [show max i 0 = i by omega], rfl⟩
  case rest =>
    obtain ⟨rfl, rfl⟩ := hcut
    go_upto_if 15 with fail
    go_cut [1] (fun t1 wc => t1 = .int .i64 (l : Int) ∧ X = wc)
    case first =>
      by_cases h : (N : Int) ≤ max i 0
      · have hz : (N : Int) - 1 = l := by rw [hi]; split <;> (try split) <;> omega
        clear hi
        go_wp2
        go_meet
        case rel => first | exact ⟨rfl, rfl⟩ | exact ⟨by rw [hz], rfl⟩
      · have hz : max i 0 = l := by rw [hi]; split <;> (try split) <;> omega
        clear hi
        go_wp2
        go_meet
        case rel => first | exact ⟨rfl, rfl⟩ | exact ⟨by rw [hz], rfl⟩
    case rest =>
      obtain ⟨rfl, rfl⟩ := hcut
      clear hi
      go_upto_if 20 with fail
      go_cut [2] (fun t2 wc => t2 = .int .i64 q2 ∧ X = wc)
      case first =>
        by_cases h : q < 0
        · have hz : q2 = 0 := by omega
          go_wp2
          go_meet
          case rel => first | exact ⟨rfl, rfl⟩ | exact ⟨by rw [hz], rfl⟩
        · have hz : q2 = q := by omega
          go_wp2
          go_meet
          case rel => first | exact ⟨rfl, rfl⟩ | exact ⟨by rw [hz], rfl⟩
      case rest =>
        obtain ⟨rfl, rfl⟩ := hcut
        clear hq2
        go_wp2_with (go_at_call 43; refine (D3.out _ HB0).mono ?_; clear D3 HB0 c0 c1 c2; rintro e w4 ⟨rfl, HB⟩)
        go_ret
        exact ⟨rfl, Below.on HL.out.2 HB.out⟩
theorem heldQ {s : ByteArray} {p : Nat} (h : p ≤ s.size) : heldN s p = p := by unfold heldN; omega
/-- a step of the document: what it answers -/
def StA (s : ByteArray) (k : Int) (p : Nat) (q : Int) (e : Ending) : Prop := ∃ X : Nat, e = .returned (.tuple #[.int .i64 X, .bool (lead s k p q 1).2]) ∧ ((lead s k p q 1).2 = true → X = (lead s k p q 1).1)
section
variable {w : World} {v : Value} {s : ByteArray} (h : RdL w v (lsL s)) (hs : s.size ≤ 2097152) (p : Nat) (hp : cbZ s p = true) (q : Int)
include h hs hp in
set_option maxRecDepth 100000 in
set_option maxHeartbeats 1000000 in
theorem rstep4 : Calls Tryz.prog 37 #[.string s, v, .int .i64 4, .int .i64 p, .int .i64 q] w fun e W' => StA s 4 p q e ∧ Below w.heap.size w W' := by
  obtain ⟨g, cap, x, y, a, n, c, rfl, hA⟩ := h.la (l := cn s 0 p) (by omega) (cn_sz (cb_le hp)).1
  have hpl := cb_le hp
  have C1 : Hid (Calls Tryz.prog 35 #[.slice (some ⟨g, 0, none⟩) (cn s 0 s.size + 1) cap, .int .i64 p] w fun e W' => e = .returned (.int .i64 (cn s 0 p : Nat)) ∧ Hid (Below w.heap.size w W')) := rlineOf_any h (by omega) p hp
  have C2 : Hid (∀ W, Hid (Below w.heap.size w W) → Calls Tryz.prog 65 #[.string s, .int .i64 p] W fun e W' => e = .returned (.int .i64 (pvC s p : Nat)) ∧ Hid (Below w.heap.size w W')) := fun W hW => (rprev_any s p hs W).mono fun e W' ⟨m, q1, q2, q3⟩ => ⟨by rw [q1, q2.uniq (pvC_is s p)], Below.on hW.out q3⟩
  by_cases hc : 0 < p
  · have hc' : (0 : Int) < p := by omega
    have HL : Hid (lead s 4 p q 1 = (pvC s p, true)) := by show (itr (pvC s) 0 1 p, !decide ((p : Int) = (0 : Nat))) = _; rw [itr_on 0 (by omega)]; simp [itr]; omega
    generalize pvC s p = X at C2 HL
    generalize cn s 0 p = l at C1
    generalize cn s 0 s.size + 1 = N at C1
    clear h hs hp hA
    go_enter Tryz.func37, Tryz.ntmps37
    go_wp2_with (first
      | (go_at_call 35; refine C1.out.mono ?_; clear C1; rintro e w1 ⟨rfl, HB⟩)
      | (go_at_call 65; refine (C2.out _ HB).mono ?_; clear C2 HB; rintro e w2 ⟨rfl, HB⟩))
    go_ret2
    exact ⟨⟨X, by rw [HL.out]; rfl, fun _ => by rw [HL.out]⟩, HB.out⟩
  · have hc' : ¬ ((0 : Int) < p) := by omega
    have HL : Hid ((lead s 4 p q 1).2 = false) := by show (!decide ((p : Int) = (0 : Nat))) = false; simp; omega
    generalize pvC s p = X at C2
    generalize cn s 0 p = l at C1
    generalize cn s 0 s.size + 1 = N at C1
    clear h hs hp hA
    go_enter Tryz.func37, Tryz.ntmps37
    go_wp2_with (first
      | (go_at_call 35; refine C1.out.mono ?_; clear C1; rintro e w1 ⟨rfl, HB⟩)
      | (go_at_call 65; refine (C2.out _ HB).mono ?_; clear C2 HB; rintro e w2 ⟨rfl, HB⟩))
    go_ret2
    exact ⟨⟨X, by rw [HL.out]; rfl, fun e => by rw [HL.out] at e; cases e⟩, HB.out⟩
include h hs hp in
set_option maxRecDepth 100000 in
set_option maxHeartbeats 1000000 in
theorem rstep5 : Calls Tryz.prog 37 #[.string s, v, .int .i64 5, .int .i64 p, .int .i64 q] w fun e W' => StA s 5 p q e ∧ Below w.heap.size w W' := by
  obtain ⟨g, cap, x, y, a, n, c, rfl, hA⟩ := h.la (l := cn s 0 p) (by omega) (cn_sz (cb_le hp)).1
  have hpl := cb_le hp
  have C1 : Hid (Calls Tryz.prog 35 #[.slice (some ⟨g, 0, none⟩) (cn s 0 s.size + 1) cap, .int .i64 p] w fun e W' => e = .returned (.int .i64 (cn s 0 p : Nat)) ∧ Hid (Below w.heap.size w W')) := rlineOf_any h (by omega) p hp
  have C2 : Hid (∀ W, Hid (Below w.heap.size w W) → Calls Tryz.prog 66 #[.string s, .int .i64 p] W fun e W' => e = .returned (.int .i64 (nxt s p : Nat)) ∧ Hid (Below w.heap.size w W')) := fun W hW => (rnext_any s p hs W).mono fun e W' ⟨m, q1, q2, q3⟩ => ⟨by rw [q1, q2.uniq (nxt_is s p)], Below.on hW.out q3⟩
  by_cases hc : p < s.size
  · have hc' : (p : Int) < s.size := by omega
    have HL : Hid (lead s 5 p q 1 = (nxt s p, true)) := by show (itr (nxt s) s.size 1 p, !decide ((p : Int) = s.size)) = _; rw [itr_on 0 (by omega)]; simp [itr]; omega
    generalize nxt s p = X at C2 HL
    generalize cn s 0 p = l at C1
    generalize cn s 0 s.size + 1 = N at C1
    clear h hs hp hA
    go_enter Tryz.func37, Tryz.ntmps37
    go_wp2_with (first
      | (go_at_call 35; refine C1.out.mono ?_; clear C1; rintro e w1 ⟨rfl, HB⟩)
      | (go_at_call 66; refine (C2.out _ HB).mono ?_; clear C2 HB; rintro e w2 ⟨rfl, HB⟩))
    go_ret2
    exact ⟨⟨X, by rw [HL.out]; rfl, fun _ => by rw [HL.out]⟩, HB.out⟩
  · have hc' : ¬ ((p : Int) < s.size) := by omega
    have HL : Hid ((lead s 5 p q 1).2 = false) := by show (!decide ((p : Int) = s.size)) = false; simp; omega
    generalize nxt s p = X at C2
    generalize cn s 0 p = l at C1
    generalize cn s 0 s.size + 1 = N at C1
    clear h hs hp hA
    go_enter Tryz.func37, Tryz.ntmps37
    go_wp2_with (first
      | (go_at_call 35; refine C1.out.mono ?_; clear C1; rintro e w1 ⟨rfl, HB⟩)
      | (go_at_call 66; refine (C2.out _ HB).mono ?_; clear C2 HB; rintro e w2 ⟨rfl, HB⟩))
    go_ret2
    exact ⟨⟨X, by rw [HL.out]; rfl, fun e => by rw [HL.out] at e; cases e⟩, HB.out⟩
include h hs hp in
set_option maxRecDepth 100000 in
set_option maxHeartbeats 1000000 in
theorem rstep6 : Calls Tryz.prog 37 #[.string s, v, .int .i64 6, .int .i64 p, .int .i64 q] w fun e W' => StA s 6 p q e ∧ Below w.heap.size w W' := by
  obtain ⟨g, cap, x, y, a, n, c, rfl, hA⟩ := h.la (l := cn s 0 p) (by omega) (cn_sz (cb_le hp)).1
  have hpl := cb_le hp
  have C1 : Hid (Calls Tryz.prog 35 #[.slice (some ⟨g, 0, none⟩) (cn s 0 s.size + 1) cap, .int .i64 p] w fun e W' => e = .returned (.int .i64 (cn s 0 p : Nat)) ∧ Hid (Below w.heap.size w W')) := rlineOf_any h (by omega) p hp
  have C2 : Hid (∀ W, Hid (Below w.heap.size w W) → Calls Tryz.prog 67 #[.string s, .int .i64 p] W fun e W' => e = .returned (.int .i64 (behindW (words s) p : Nat)) ∧ Hid (Below w.heap.size w W')) := fun W hW => (rbehind_any s p (by omega) W).mono fun e W' ⟨q1, q3⟩ => ⟨by rw [q1, heldQ hpl], Below.on hW.out q3⟩
  by_cases hc : 0 < p
  · have hc' : (0 : Int) < p := by omega
    have HL : Hid (lead s 6 p q 1 = (behindW (words s) p, true)) := by show (itr (behindW (words s)) 0 1 p, !decide ((p : Int) = (0 : Nat))) = _; rw [itr_on 0 (by omega)]; simp [itr]; omega
    generalize behindW (words s) p = X at C2 HL
    generalize cn s 0 p = l at C1
    generalize cn s 0 s.size + 1 = N at C1
    clear h hs hp hA
    go_enter Tryz.func37, Tryz.ntmps37
    go_wp2_with (first
      | (go_at_call 35; refine C1.out.mono ?_; clear C1; rintro e w1 ⟨rfl, HB⟩)
      | (go_at_call 67; refine (C2.out _ HB).mono ?_; clear C2 HB; rintro e w2 ⟨rfl, HB⟩))
    go_ret2
    exact ⟨⟨X, by rw [HL.out]; rfl, fun _ => by rw [HL.out]⟩, HB.out⟩
  · have hc' : ¬ ((0 : Int) < p) := by omega
    have HL : Hid ((lead s 6 p q 1).2 = false) := by show (!decide ((p : Int) = (0 : Nat))) = false; simp; omega
    generalize behindW (words s) p = X at C2
    generalize cn s 0 p = l at C1
    generalize cn s 0 s.size + 1 = N at C1
    clear h hs hp hA
    go_enter Tryz.func37, Tryz.ntmps37
    go_wp2_with (first
      | (go_at_call 35; refine C1.out.mono ?_; clear C1; rintro e w1 ⟨rfl, HB⟩)
      | (go_at_call 67; refine (C2.out _ HB).mono ?_; clear C2 HB; rintro e w2 ⟨rfl, HB⟩))
    go_ret2
    exact ⟨⟨X, by rw [HL.out]; rfl, fun e => by rw [HL.out] at e; cases e⟩, HB.out⟩
include h hs hp in
set_option maxRecDepth 100000 in
set_option maxHeartbeats 1000000 in
theorem rstep7 : Calls Tryz.prog 37 #[.string s, v, .int .i64 7, .int .i64 p, .int .i64 q] w fun e W' => StA s 7 p q e ∧ Below w.heap.size w W' := by
  obtain ⟨g, cap, x, y, a, n, c, rfl, hA⟩ := h.la (l := cn s 0 p) (by omega) (cn_sz (cb_le hp)).1
  have hpl := cb_le hp
  have C1 : Hid (Calls Tryz.prog 35 #[.slice (some ⟨g, 0, none⟩) (cn s 0 s.size + 1) cap, .int .i64 p] w fun e W' => e = .returned (.int .i64 (cn s 0 p : Nat)) ∧ Hid (Below w.heap.size w W')) := rlineOf_any h (by omega) p hp
  have C2 : Hid (∀ W, Hid (Below w.heap.size w W) → Calls Tryz.prog 68 #[.string s, .int .i64 p] W fun e W' => e = .returned (.int .i64 (aheadW (words s) s.size p : Nat)) ∧ Hid (Below w.heap.size w W')) := fun W hW => (rahead_any s p (by omega) W).mono fun e W' ⟨q1, q3⟩ => ⟨by rw [q1, heldQ hpl], Below.on hW.out q3⟩
  by_cases hc : p < s.size
  · have hc' : (p : Int) < s.size := by omega
    have HL : Hid (lead s 7 p q 1 = (aheadW (words s) s.size p, true)) := by show (itr (aheadW (words s) s.size) s.size 1 p, !decide ((p : Int) = s.size)) = _; rw [itr_on 0 (by omega)]; simp [itr]; omega
    generalize aheadW (words s) s.size p = X at C2 HL
    generalize cn s 0 p = l at C1
    generalize cn s 0 s.size + 1 = N at C1
    clear h hs hp hA
    go_enter Tryz.func37, Tryz.ntmps37
    go_wp2_with (first
      | (go_at_call 35; refine C1.out.mono ?_; clear C1; rintro e w1 ⟨rfl, HB⟩)
      | (go_at_call 68; refine (C2.out _ HB).mono ?_; clear C2 HB; rintro e w2 ⟨rfl, HB⟩))
    go_ret2
    exact ⟨⟨X, by rw [HL.out]; rfl, fun _ => by rw [HL.out]⟩, HB.out⟩
  · have hc' : ¬ ((p : Int) < s.size) := by omega
    have HL : Hid ((lead s 7 p q 1).2 = false) := by show (!decide ((p : Int) = s.size)) = false; simp; omega
    generalize aheadW (words s) s.size p = X at C2
    generalize cn s 0 p = l at C1
    generalize cn s 0 s.size + 1 = N at C1
    clear h hs hp hA
    go_enter Tryz.func37, Tryz.ntmps37
    go_wp2_with (first
      | (go_at_call 35; refine C1.out.mono ?_; clear C1; rintro e w1 ⟨rfl, HB⟩)
      | (go_at_call 68; refine (C2.out _ HB).mono ?_; clear C2 HB; rintro e w2 ⟨rfl, HB⟩))
    go_ret2
    exact ⟨⟨X, by rw [HL.out]; rfl, fun e => by rw [HL.out] at e; cases e⟩, HB.out⟩
include h hs hp in
set_option maxRecDepth 100000 in
set_option maxHeartbeats 1000000 in
theorem rstep8 : Calls Tryz.prog 37 #[.string s, v, .int .i64 8, .int .i64 p, .int .i64 q] w fun e W' => StA s 8 p q e ∧ Below w.heap.size w W' := by
  obtain ⟨g, cap, x, y, a, n, c, rfl, hA⟩ := h.la (l := cn s 0 p) (by omega) (cn_sz (cb_le hp)).1
  have hb := cn_sz (cb_le hp)
  have C1 : Hid (Calls Tryz.prog 35 #[.slice (some ⟨g, 0, none⟩) (cn s 0 s.size + 1) cap, .int .i64 p] w fun e W' => e = .returned (.int .i64 (cn s 0 p : Nat)) ∧ Hid (Below w.heap.size w W')) := rlineOf_any h (by omega) p hp
  have HL : Hid (lead s 8 p q 1 = (x, true)) := by
    show (((lspF s (cn s 0 p)).getD (0, 0)).1, true) = _
    rw [hA.sp]; rfl
  have HC : Hid (∀ W, Below w.heap.size w W → W.cell? ⟨g, cn s 0 p * 3, none⟩ = some (.int .i64 (x : Nat)) ∧ W.cell? ⟨g, cn s 0 p * 3 + 1, none⟩ = some (.int .i64 (y : Nat)) ∧ W.cell? ⟨g, cn s 0 p * 3 + 2, none⟩ = some (.slice a n c)) := hA.cell
  generalize cn s 0 p = l at C1 HC hb
  obtain ⟨N, hN⟩ : ∃ N, cn s 0 s.size + 1 = N := ⟨_, rfl⟩
  rw [hN] at C1 ⊢
  have hlN : (l : Int) < N := by omega
  have hNl : (N : Int) ≤ 2097153 := by omega
  clear h hs hp hA hN hb
  go_enter Tryz.func37, Tryz.ntmps37
  go_wp2_with (go_at_call 35; refine C1.out.mono ?_; clear C1; rintro e w1 ⟨rfl, HB⟩; obtain ⟨c0, c1, c2⟩ := HC.out _ HB.out)
  go_ret2
  exact ⟨⟨x, by rw [HL.out]; rfl, fun _ => by rw [HL.out]⟩, HB.out⟩
include h hs hp in
set_option maxRecDepth 100000 in
set_option maxHeartbeats 1000000 in
theorem rstep9 : Calls Tryz.prog 37 #[.string s, v, .int .i64 9, .int .i64 p, .int .i64 q] w fun e W' => StA s 9 p q e ∧ Below w.heap.size w W' := by
  obtain ⟨g, cap, x, y, a, n, c, rfl, hA⟩ := h.la (l := cn s 0 p) (by omega) (cn_sz (cb_le hp)).1
  have hb := cn_sz (cb_le hp)
  have C1 : Hid (Calls Tryz.prog 35 #[.slice (some ⟨g, 0, none⟩) (cn s 0 s.size + 1) cap, .int .i64 p] w fun e W' => e = .returned (.int .i64 (cn s 0 p : Nat)) ∧ Hid (Below w.heap.size w W')) := rlineOf_any h (by omega) p hp
  have HL : Hid (lead s 9 p q 1 = (y, true)) := by
    show (((lspF s (cn s 0 p)).getD (0, 0)).2, true) = _
    rw [hA.sp]; rfl
  have HC : Hid (∀ W, Below w.heap.size w W → W.cell? ⟨g, cn s 0 p * 3, none⟩ = some (.int .i64 (x : Nat)) ∧ W.cell? ⟨g, cn s 0 p * 3 + 1, none⟩ = some (.int .i64 (y : Nat)) ∧ W.cell? ⟨g, cn s 0 p * 3 + 2, none⟩ = some (.slice a n c)) := hA.cell
  generalize cn s 0 p = l at C1 HC hb
  obtain ⟨N, hN⟩ : ∃ N, cn s 0 s.size + 1 = N := ⟨_, rfl⟩
  rw [hN] at C1 ⊢
  have hlN : (l : Int) < N := by omega
  have hNl : (N : Int) ≤ 2097153 := by omega
  clear h hs hp hA hN hb
  go_enter Tryz.func37, Tryz.ntmps37
  go_wp2_with (go_at_call 35; refine C1.out.mono ?_; clear C1; rintro e w1 ⟨rfl, HB⟩; obtain ⟨c0, c1, c2⟩ := HC.out _ HB.out)
  go_ret2
  exact ⟨⟨y, by rw [HL.out]; rfl, fun _ => by rw [HL.out]⟩, HB.out⟩
include h hs hp in
set_option maxRecDepth 100000 in
set_option maxHeartbeats 1000000 in
theorem rstep12 : Calls Tryz.prog 37 #[.string s, v, .int .i64 12, .int .i64 p, .int .i64 q] w fun e W' => StA s 12 p q e ∧ Below w.heap.size w W' := by
  obtain ⟨g, cap, x, y, a, n, c, rfl, hA⟩ := h.la (l := cn s 0 p) (by omega) (cn_sz (cb_le hp)).1
  have C1 : Hid (Calls Tryz.prog 35 #[.slice (some ⟨g, 0, none⟩) (cn s 0 s.size + 1) cap, .int .i64 p] w fun e W' => e = .returned (.int .i64 (cn s 0 p : Nat)) ∧ Hid (Below w.heap.size w W')) := rlineOf_any h (by omega) p hp
  generalize cn s 0 p = l at C1
  generalize cn s 0 s.size + 1 = N at C1
  clear h hs hp hA
  go_enter Tryz.func37, Tryz.ntmps37
  go_wp2_with (go_at_call 35; refine C1.out.mono ?_; clear C1; rintro e w1 ⟨rfl, HB⟩)
  go_ret2
  exact ⟨⟨0, rfl, fun _ => rfl⟩, HB.out⟩
include h hs hp in
set_option maxRecDepth 100000 in
set_option maxHeartbeats 1000000 in
theorem rstep13 : Calls Tryz.prog 37 #[.string s, v, .int .i64 13, .int .i64 p, .int .i64 q] w fun e W' => StA s 13 p q e ∧ Below w.heap.size w W' := by
  obtain ⟨g, cap, x, y, a, n, c, rfl, hA⟩ := h.la (l := cn s 0 p) (by omega) (cn_sz (cb_le hp)).1
  have C1 : Hid (Calls Tryz.prog 35 #[.slice (some ⟨g, 0, none⟩) (cn s 0 s.size + 1) cap, .int .i64 p] w fun e W' => e = .returned (.int .i64 (cn s 0 p : Nat)) ∧ Hid (Below w.heap.size w W')) := rlineOf_any h (by omega) p hp
  generalize cn s 0 p = l at C1
  generalize cn s 0 s.size + 1 = N at C1
  clear h hs hp hA
  go_enter Tryz.func37, Tryz.ntmps37
  go_wp2_with (go_at_call 35; refine C1.out.mono ?_; clear C1; rintro e w1 ⟨rfl, HB⟩)
  go_ret2
  exact ⟨⟨s.size, rfl, fun _ => rfl⟩, HB.out⟩
include h hs hp in
set_option maxRecDepth 100000 in
set_option maxHeartbeats 1000000 in
theorem rstep10 (hq : 0 ≤ q) : Calls Tryz.prog 37 #[.string s, v, .int .i64 10, .int .i64 p, .int .i64 q] w fun e W' => StA s 10 p q e ∧ Below w.heap.size w W' := by
  have hb := cn_sz (cb_le hp)
  by_cases hc : cn s 0 p = 0
  · obtain ⟨g, cap, x, y, a, n, c, rfl, hA⟩ := h.la (l := cn s 0 p) (by omega) (cn_sz (cb_le hp)).1
    have C1 : Hid (Calls Tryz.prog 35 #[.slice (some ⟨g, 0, none⟩) (cn s 0 s.size + 1) cap, .int .i64 p] w fun e W' => e = .returned (.int .i64 (cn s 0 p : Nat)) ∧ Hid (Below w.heap.size w W')) := rlineOf_any h (by omega) p hp
    have HL : Hid ((lead s 10 p q 1).2 = false) := by
      show (!decide (hl s ((cn s 0 p : Int) + (-((1 : Nat) : Int))) = (cn s 0 p : Int))) = false
      rw [decide_eq_true (by unfold hl; omega)]; rfl
    obtain ⟨l, hl'⟩ : ∃ l, cn s 0 p = l := ⟨_, rfl⟩
    obtain ⟨N, hN⟩ : ∃ N, cn s 0 s.size + 1 = N := ⟨_, rfl⟩
    rw [hN] at C1 ⊢
    rw [hl'] at C1 hc hb
    have hlN : (l : Int) < N := by omega
    have hlE : (l : Int) = 0 := by omega
    have hl3 : (l : Int) - 1 < 0 := by omega
    have hNl : (N : Int) ≤ 2097153 := by omega
    clear h hs hp hA hN hb hc hl' hlE
    go_enter Tryz.func37, Tryz.ntmps37
    go_wp2_with (go_at_call 35; refine C1.out.mono ?_; clear C1; rintro e w1 ⟨rfl, HB⟩)
    go_ret2
    exact ⟨⟨p, by rw [HL.out]; rfl, fun e => by rw [HL.out] at e; cases e⟩, HB.out⟩
  · obtain ⟨g, cap, x, y, a, n, c, rfl, hA⟩ := h.la (l := cn s 0 p - 1) (by omega) (by omega)
    have C1 : Hid (Calls Tryz.prog 35 #[.slice (some ⟨g, 0, none⟩) (cn s 0 s.size + 1) cap, .int .i64 p] w fun e W' => e = .returned (.int .i64 (cn s 0 p : Nat)) ∧ Hid (Below w.heap.size w W')) := rlineOf_any h (by omega) p hp
    have C3 : Hid (∀ W, Hid (Below w.heap.size w W) → Calls Tryz.prog 43 #[.agg #[.int .i64 x, .int .i64 y, .slice a n c], .int .i64 q] W fun e W' => e = .returned (.int .i64 (plcF s (cn s 0 p - 1 : Nat) q : Nat)) ∧ Hid (Below w.heap.size w W')) := fun W hW => (hA.plc W q hW.out hq).mono fun e W' ⟨q1, q2⟩ => ⟨q1, Below.on hW.out q2⟩
    have e1 : hl s ((cn s 0 p : Int) + (-((1 : Nat) : Int))) = ((cn s 0 p - 1 : Nat) : Int) := by unfold hl; omega
    have HL : Hid (lead s 10 p q 1 = (plcF s (cn s 0 p - 1 : Nat) q, true)) := by
      show (plcF s (hl s ((cn s 0 p : Int) + (-((1 : Nat) : Int)))) q, !decide (hl s ((cn s 0 p : Int) + (-((1 : Nat) : Int))) = (cn s 0 p : Int))) = _
      rw [e1, decide_eq_false (by omega)]; rfl
    have HC : Hid (∀ W, Below w.heap.size w W → W.cell? ⟨g, (cn s 0 p - 1) * 3, none⟩ = some (.int .i64 (x : Nat)) ∧ W.cell? ⟨g, (cn s 0 p - 1) * 3 + 1, none⟩ = some (.int .i64 (y : Nat)) ∧ W.cell? ⟨g, (cn s 0 p - 1) * 3 + 2, none⟩ = some (.slice a n c)) := hA.cell
    obtain ⟨m, hm⟩ : ∃ m, cn s 0 p - 1 = m := ⟨_, rfl⟩
    obtain ⟨l, hl'⟩ : ∃ l, cn s 0 p = l := ⟨_, rfl⟩
    obtain ⟨N, hN⟩ : ∃ N, cn s 0 s.size + 1 = N := ⟨_, rfl⟩
    rw [hm] at C3 HL HC
    rw [hN] at C1 ⊢
    rw [hl'] at C1 hc hb hm
    have hlm : (l : Int) - 1 = m := by omega
    have hmN : (m : Int) < N := by omega
    have hNl : (N : Int) ≤ 2097153 := by omega
    generalize plcF s (m : Nat) q = X at C3 HL
    clear h hs hp hA hN hb hc hl' hm e1
    go_enter Tryz.func37, Tryz.ntmps37
    go_wp2_with (first
      | (go_at_call 35; refine C1.out.mono ?_; clear C1; rintro e w1 ⟨rfl, HB⟩; obtain ⟨c0, c1, c2⟩ := HC.out _ HB.out)
      | (go_at_call 43; refine (C3.out _ HB).mono ?_; clear C3 HB c0 c1 c2; rintro e w2 ⟨rfl, HB⟩))
    go_ret2
    exact ⟨⟨X, by rw [HL.out]; rfl, fun _ => by rw [HL.out]⟩, HB.out⟩
include h hs hp in
set_option maxRecDepth 100000 in
set_option maxHeartbeats 1000000 in
theorem rstep11 (hq : 0 ≤ q) : Calls Tryz.prog 37 #[.string s, v, .int .i64 11, .int .i64 p, .int .i64 q] w fun e W' => StA s 11 p q e ∧ Below w.heap.size w W' := by
  have hb := cn_sz (cb_le hp)
  by_cases hc : cn s 0 p = cn s 0 s.size
  · obtain ⟨g, cap, x, y, a, n, c, rfl, hA⟩ := h.la (l := cn s 0 p) (by omega) (cn_sz (cb_le hp)).1
    have C1 : Hid (Calls Tryz.prog 35 #[.slice (some ⟨g, 0, none⟩) (cn s 0 s.size + 1) cap, .int .i64 p] w fun e W' => e = .returned (.int .i64 (cn s 0 p : Nat)) ∧ Hid (Below w.heap.size w W')) := rlineOf_any h (by omega) p hp
    have HL : Hid ((lead s 11 p q 1).2 = false) := by
      show (!decide (hl s ((cn s 0 p : Int) + ((1 : Nat) : Int)) = (cn s 0 p : Int))) = false
      rw [decide_eq_true (by unfold hl; omega)]; rfl
    obtain ⟨l, hl'⟩ : ∃ l, cn s 0 p = l := ⟨_, rfl⟩
    obtain ⟨N, hN⟩ : ∃ N, cn s 0 s.size + 1 = N := ⟨_, rfl⟩
    rw [hN] at C1 ⊢
    rw [hl'] at C1 hc hb
    have hlN : (l : Int) < N := by omega
    have hlE : (l : Int) + 1 = N := by omega
    have hl3 : (N : Int) ≤ (l : Int) + 1 := by omega
    have hNl : (N : Int) ≤ 2097153 := by omega
    clear h hs hp hA hN hb hc hl' hlE
    go_enter Tryz.func37, Tryz.ntmps37
    go_wp2_with (go_at_call 35; refine C1.out.mono ?_; clear C1; rintro e w1 ⟨rfl, HB⟩)
    go_ret2
    exact ⟨⟨p, by rw [HL.out]; rfl, fun e => by rw [HL.out] at e; cases e⟩, HB.out⟩
  · obtain ⟨g, cap, x, y, a, n, c, rfl, hA⟩ := h.la (l := cn s 0 p + 1) (by omega) (by omega)
    have C1 : Hid (Calls Tryz.prog 35 #[.slice (some ⟨g, 0, none⟩) (cn s 0 s.size + 1) cap, .int .i64 p] w fun e W' => e = .returned (.int .i64 (cn s 0 p : Nat)) ∧ Hid (Below w.heap.size w W')) := rlineOf_any h (by omega) p hp
    have C3 : Hid (∀ W, Hid (Below w.heap.size w W) → Calls Tryz.prog 43 #[.agg #[.int .i64 x, .int .i64 y, .slice a n c], .int .i64 q] W fun e W' => e = .returned (.int .i64 (plcF s (cn s 0 p + 1 : Nat) q : Nat)) ∧ Hid (Below w.heap.size w W')) := fun W hW => (hA.plc W q hW.out hq).mono fun e W' ⟨q1, q2⟩ => ⟨q1, Below.on hW.out q2⟩
    have e1 : hl s ((cn s 0 p : Int) + ((1 : Nat) : Int)) = ((cn s 0 p + 1 : Nat) : Int) := by unfold hl; omega
    have HL : Hid (lead s 11 p q 1 = (plcF s (cn s 0 p + 1 : Nat) q, true)) := by
      show (plcF s (hl s ((cn s 0 p : Int) + ((1 : Nat) : Int))) q, !decide (hl s ((cn s 0 p : Int) + ((1 : Nat) : Int)) = (cn s 0 p : Int))) = _
      rw [e1, decide_eq_false (by omega)]; rfl
    have HC : Hid (∀ W, Below w.heap.size w W → W.cell? ⟨g, (cn s 0 p + 1) * 3, none⟩ = some (.int .i64 (x : Nat)) ∧ W.cell? ⟨g, (cn s 0 p + 1) * 3 + 1, none⟩ = some (.int .i64 (y : Nat)) ∧ W.cell? ⟨g, (cn s 0 p + 1) * 3 + 2, none⟩ = some (.slice a n c)) := hA.cell
    obtain ⟨m, hm⟩ : ∃ m, cn s 0 p + 1 = m := ⟨_, rfl⟩
    obtain ⟨l, hl'⟩ : ∃ l, cn s 0 p = l := ⟨_, rfl⟩
    obtain ⟨N, hN⟩ : ∃ N, cn s 0 s.size + 1 = N := ⟨_, rfl⟩
    rw [hm] at C3 HL HC
    rw [hN] at C1 ⊢
    rw [hl'] at C1 hc hb hm
    have hlm : (l : Int) + 1 = m := by omega
    have hmN : (m : Int) < N := by omega
    have hNl : (N : Int) ≤ 2097153 := by omega
    generalize plcF s (m : Nat) q = X at C3 HL
    clear h hs hp hA hN hb hc hl' hm e1
    go_enter Tryz.func37, Tryz.ntmps37
    go_wp2_with (first
      | (go_at_call 35; refine C1.out.mono ?_; clear C1; rintro e w1 ⟨rfl, HB⟩; obtain ⟨c0, c1, c2⟩ := HC.out _ HB.out)
      | (go_at_call 43; refine (C3.out _ HB).mono ?_; clear C3 HB c0 c1 c2; rintro e w2 ⟨rfl, HB⟩))
    go_ret2
    exact ⟨⟨X, by rw [HL.out]; rfl, fun _ => by rw [HL.out]⟩, HB.out⟩
include h hs hp in
theorem rstep_any (hq : 0 ≤ q) {k : Int} (hk : 4 ≤ k ∧ k ≤ 13) : Calls Tryz.prog 37 #[.string s, v, .int .i64 k, .int .i64 p, .int .i64 q] w fun e W' => StA s k p q e ∧ Below w.heap.size w W' := by
  have hkc : k = 4 ∨ k = 5 ∨ k = 6 ∨ k = 7 ∨ k = 8 ∨ k = 9 ∨ k = 10 ∨ k = 11 ∨ k = 12 ∨ k = 13 := by omega
  rcases hkc with rfl | rfl | rfl | rfl | rfl | rfl | rfl | rfl | rfl | rfl
  · exact rstep4 h hs p hp q
  · exact rstep5 h hs p hp q
  · exact rstep6 h hs p hp q
  · exact rstep7 h hs p hp q
  · exact rstep8 h hs p hp q
  · exact rstep9 h hs p hp q
  · exact rstep10 h hs p hp q hq
  · exact rstep11 h hs p hp q hq
  · exact rstep12 h hs p hp q
  · exact rstep13 h hs p hp q
end
end Go.Proofs.YtenkmidlipjobaaGreatDoor.Sto
namespace Go.Proofs.YtenkmidlipjobaaGreatDoor.Sto
open Go.RowKit Go.Shelf Bod Wid

section
variable {s : ByteArray}
/-- steps of the document one behind the other, by one column -/
noncomputable def sit (s : ByteArray) (k want : Int) : Nat → Nat → Nat
  | 0, p => p
  | n + 1, p => if (lead s k p want 1).2 = true then sit s k want n (lead s k p want 1).1 else p
theorem sit_yes {k want : Int} {p m : Nat} (h : lead s k p want 1 = (m, true)) (n : Nat) : sit s k want (n + 1) p = sit s k want n m := by
  conv => lhs; unfold sit
  rw [h, if_pos rfl]
theorem sit_no {k want : Int} {p : Nat} (h : (lead s k p want 1).2 = false) (n : Nat) : sit s k want (n + 1) p = p := by
  unfold sit
  rw [if_neg (by rw [h]; simp)]
theorem sit_itr {k want : Int} {f : Nat → Nat} {e : Nat} (hl : ∀ a want c, lead s k a want c = (itr f e c a, !decide ((a : Int) = (e : Nat)))) : ∀ (n p : Nat), sit s k want n p = itr f e n p
  | 0, p => rfl
  | n + 1, p => by
    by_cases h : p = e
    · subst h
      rw [itr_edge, sit_no (by rw [hl]; simp)]
    · rw [sit_yes (m := f p) (by rw [hl, itr_on 0 h]; simp [itr]; omega), itr_on _ h]
      exact sit_itr hl n (f p)
theorem sit_fix {k want : Int} {X : Nat → Nat} (hl : ∀ a want c, lead s k a want c = (X a, true)) (hf : ∀ a, cbZ s (a : Nat) = true → cbZ s (X a : Nat) = true ∧ X (X a) = X a) : ∀ (n p : Nat), cbZ s p = true → X p = p ∨ 0 < n → sit s k want n p = X p
  | 0, p, hp, h => by
    rcases h with h | h
    · rw [h]; rfl
    · omega
  | n + 1, p, hp, h => by
    rw [sit_yes (hl _ _ _)]
    have := sit_fix (want := want) hl hf n (X p) (hf p hp).1 (.inl (hf p hp).2)
    rw [this, (hf p hp).2]
theorem sit_up {k D want : Int} (hD : D = 1 ∨ D = -1) (hl0 : ∀ (a : Nat) (want : Int) (c : Nat), lead s k a want c = away s a want (D * c)) : ∀ (n p : Nat), cbZ s p = true → sit s k want n p = if hl s ((cn s 0 p : Int) + D * n) = (cn s 0 p : Int) then p else plcF s (hl s ((cn s 0 p : Int) + D * n)) want
  | 0, p, hp => by
    rw [if_pos (by rw [show (cn s 0 p : Int) + D * (0 : Nat) = cn s 0 p by simp]; exact hl_of s (cb_le hp))]
    rfl
  | n + 1, p, hp => by
    have hcl := cn_mono (s := s) (a := 0) (b := p) (c := s.size) (by omega) (cb_le hp)
    by_cases h1 : hl s ((cn s 0 p : Int) + D) = (cn s 0 p : Int)
    · have e1 : hl s ((cn s 0 p : Int) + D * ((n + 1 : Nat) : Int)) = (cn s 0 p : Int) := by
        rcases hD with rfl | rfl <;> (unfold hl at h1 ⊢; omega)
      rw [if_pos e1]
      refine sit_no ?_ n
      rw [hl0]
      unfold away
      simp [h1]
    · obtain ⟨q1, q2, q3⟩ := plc_cb (s := s) (c := want) (hl_in s ((cn s 0 p : Int) + D))
      have e1 : hl s ((cn s 0 p : Int) + D) = (cn s 0 p : Int) + D := by rcases hD with rfl | rfl <;> (unfold hl at h1 ⊢; omega)
      have e2 : (cn s 0 p : Int) + D + D * (n : Nat) = (cn s 0 p : Int) + D * ((n + 1 : Nat) : Int) := by
        rcases hD with rfl | rfl <;> omega
      have e3 : hl s ((cn s 0 p : Int) + D * ((n + 1 : Nat) : Int)) ≠ (cn s 0 p : Int) := by
        rcases hD with rfl | rfl <;> (unfold hl at h1 ⊢; omega)
      rw [sit_yes (m := plcF s (hl s ((cn s 0 p : Int) + D)) want) (by rw [hl0]; unfold away; simp [h1])]
      rw [sit_up hD hl0 n _ q1, q2, e1, e2, if_neg e3]
      split
      · rename_i h2
        rw [h2]
      · rfl
/-- a count is so many steps of the document -/
theorem sit_all {k : Int} (hk : 4 ≤ k ∧ k ≤ 13) {p : Nat} (hp : cbZ s p = true) (want : Int) {c : Nat} (hc : 0 < c) : (lead s k p want c).2 = (lead s k p want 1).2 ∧ ((lead s k p want 1).2 = true → (lead s k p want c).1 = sit s k want c p) := by
  have hkc : k = 4 ∨ k = 5 ∨ k = 6 ∨ k = 7 ∨ k = 8 ∨ k = 9 ∨ k = 10 ∨ k = 11 ∨ k = 12 ∨ k = 13 := by omega
  have fin1 : ∀ {f : Nat → Nat} {e : Nat}, (∀ a want c, lead s k a want c = (itr f e c a, !decide ((a : Int) = (e : Nat)))) → (lead s k p want c).2 = (lead s k p want 1).2 ∧ ((lead s k p want 1).2 = true → (lead s k p want c).1 = sit s k want c p) := fun a1 => by
    rw [sit_itr a1, a1, a1]; exact ⟨rfl, fun _ => rfl⟩
  have fin2 : ∀ {X : Nat → Nat}, (∀ a want c, lead s k a want c = (X a, true)) → (∀ a, cbZ s (a : Nat) = true → cbZ s (X a : Nat) = true ∧ X (X a) = X a) → (lead s k p want c).2 = (lead s k p want 1).2 ∧ ((lead s k p want 1).2 = true → (lead s k p want c).1 = sit s k want c p) := fun a1 a2 => by
    rw [sit_fix a1 a2 c p hp (.inr hc), a1, a1]; exact ⟨rfl, fun _ => rfl⟩
  have fin3 : ∀ {D : Int}, (D = 1 ∨ D = -1) → (∀ (a : Nat) (want : Int) (c : Nat), lead s k a want c = away s a want (D * c)) → (lead s k p want c).2 = (lead s k p want 1).2 ∧ ((lead s k p want 1).2 = true → (lead s k p want c).1 = sit s k want c p) := fun {D} a1 a2 => by
    have hcl := cn_mono (s := s) (a := 0) (b := p) (c := s.size) (by omega) (cb_le hp)
    rw [sit_up a1 a2 c p hp, a2, a2]
    unfold away
    have key : hl s ((cn s 0 p : Int) + D * (c : Nat)) = (cn s 0 p : Int) ↔ hl s ((cn s 0 p : Int) + D * ((1 : Nat) : Int)) = (cn s 0 p : Int) := by
      rcases a1 with rfl | rfl <;> (unfold hl; omega)
    refine ⟨by simp only [key], fun h => ?_⟩
    simp only at h
    rw [if_neg (fun x => by rw [key.1 x] at h; simp at h)]
  rcases hkc with rfl | rfl | rfl | rfl | rfl | rfl | rfl | rfl | rfl | rfl
  · exact fin1 (f := pvC s) (e := 0) (fun _ _ _ => rfl)
  · exact fin1 (f := nxt s) (e := s.size) (fun _ _ _ => rfl)
  · exact fin1 (f := behindW (words s)) (e := 0) (fun _ _ _ => rfl)
  · exact fin1 (f := aheadW (words s) s.size) (e := s.size) (fun _ _ _ => rfl)
  · refine fin2 (X := fun a => ((lspF s (cn s 0 a)).getD (0, 0)).1) (fun _ _ _ => rfl) (fun a ha => ?_)
    obtain ⟨x, y, h1, -, -, h2, h3, h4, h5⟩ := line_at ha
    simp only [h1, Option.getD_some, h4]
    exact ⟨h2, trivial⟩
  · refine fin2 (X := fun a => ((lspF s (cn s 0 a)).getD (0, 0)).2) (fun _ _ _ => rfl) (fun a ha => ?_)
    obtain ⟨x, y, h1, -, -, h2, h3, h4, h5⟩ := line_at ha
    simp only [h1, Option.getD_some, h5]
    exact ⟨h3, trivial⟩
  · exact fin3 (D := -1) (.inr rfl) (fun a want c => by rw [show (-1 : Int) * c = -(c : Int) by omega]; rfl)
  · exact fin3 (D := 1) (.inl rfl) (fun a want c => by rw [Int.one_mul]; rfl)
  · exact fin2 (X := fun _ => 0) (fun _ _ _ => rfl) (fun a ha => ⟨cb_zero s, rfl⟩)
  · exact fin2 (X := fun _ => s.size) (fun _ _ _ => rfl) (fun a ha => ⟨cb_end s, rfl⟩)
end
set_option maxRecDepth 100000 in
set_option maxHeartbeats 4000000 in
theorem rGo_any (s : ByteArray) (hs : s.size ≤ 2097152) (k i gl n : Int) (w : World) : Calls Tryz.prog 12 #[.string s, .int .i64 k, .int .i64 i, .int .i64 gl, .int .i64 n] w fun e W' => e = .returned (.tuple #[.int .i64 (goP s k i gl n).1, .int .i64 (goP s k i gl n).2.1, .int .i64 (goP s k i gl n).2.2]) ∧ Below w.heap.size w W' := by
  have C0 : Hid (Calls Tryz.prog 14 #[.int .i64 k] w fun e W' => e = .returned (.bool (decide (4 ≤ k ∧ k ≤ 13))) ∧ Hid (Below w.heap.size w W')) := rMotion_any k w
  by_cases hk : 4 ≤ k ∧ k ≤ 13
  · rw [decide_eq_true hk] at C0
    have hp := (snp_is s i).cb
    have hb := cn_sz (cb_le hp)
    have hcb := col_bd hp
    have hsz := cb_le hp
    have C2 : Hid (∀ W, Calls Tryz.prog 34 #[.string s, .int .i64 i] W fun e W' => e = .returned (.int .i64 (snp s i : Nat)) ∧ Hid (Below W.heap.size W W')) := fun W => rsnap16_any s i hs W
    obtain ⟨g1, hg1⟩ : ∃ g1, max gl (-1) = g1 := ⟨_, rfl⟩
    -- what the document goes by: the goal, or the place's own column
    obtain ⟨q, hq⟩ : ∃ q, (if g1 = -1 then colF s (snp s i) else g1) = q := ⟨_, rfl⟩
    have hq0 : 0 ≤ q := by rw [← hq]; exact want_pos hp (by omega)
    obtain ⟨vb, hvb⟩ : ∃ vb, decide (k = 10 ∨ k = 11) = vb := ⟨_, rfl⟩
    have hw : wantF s k (snp s i) g1 = if vb = true then q else -1 := by
      unfold wantF
      rw [← hvb, hq]
      by_cases e : k = 10 ∨ k = 11
      · rw [if_pos e, decide_eq_true e, if_pos rfl]
      · rw [if_neg e, decide_eq_false e, if_neg (by simp)]
    have hlw : ∀ c, lead s k (snp s i) (wantF s k (snp s i) g1) c = lead s k (snp s i) q c := fun c => by
      rw [hw]
      by_cases e : k = 10 ∨ k = 11
      · rw [← hvb, decide_eq_true e, if_pos rfl]
      · have hkc : k = 4 ∨ k = 5 ∨ k = 6 ∨ k = 7 ∨ k = 8 ∨ k = 9 ∨ k = 12 ∨ k = 13 := by omega
        rcases hkc with rfl | rfl | rfl | rfl | rfl | rfl | rfl | rfl <;> rfl
    have hcn := cnt_eq n
    have hgo := goP_in (s := s) hk i gl n
    rw [hg1, hlw] at hgo
    obtain ⟨t1, t2⟩ := sit_all (s := s) hk hp q (c := cnt n) (by omega)
    obtain ⟨T, hT⟩ : ∃ T, goP s k i gl n = T := ⟨_, rfl⟩
    rw [hT] at hgo ⊢
    obtain ⟨p, hpe⟩ : ∃ p, snp s i = p := ⟨_, rfl⟩
    obtain ⟨l, hl'⟩ : ∃ l, cn s 0 p = l := ⟨_, rfl⟩
    obtain ⟨N, hN⟩ : ∃ N, cn s 0 s.size + 1 = N := ⟨_, rfl⟩
    obtain ⟨c, hce⟩ : ∃ c, cnt n = c := ⟨_, rfl⟩
    obtain ⟨b, hbe⟩ : ∃ b, (lead s k p q 1).2 = b := ⟨_, rfl⟩
    rw [hpe] at hp hb hcb hsz C2 hq hw hgo t1 t2
    rw [hce] at hcn hgo t1 t2
    rw [t1, hbe] at hgo
    rw [hbe] at t2
    rw [hl'] at hb
    have C1 : Hid (∀ W, Hid (Below w.heap.size w W) → Calls Tryz.prog 33 #[.string s] W fun e W' => ∃ (g cap x y : Nat) (a : Option Addr) (n c : Nat), e = .returned (.slice (some ⟨g, 0, none⟩) N cap) ∧ Hid (La W' s l g N cap x y a n c ∧ Below w.heap.size w W')) := fun W hW => (rLines_any s (by omega) W).mono fun e W' ⟨v, q1, q2, q3⟩ => by
      obtain ⟨g, cap, x, y, a, n, c, e, hA⟩ := q2.la (l := l) (by omega) (by omega)
      rw [hN] at e hA
      exact ⟨g, cap, x, y, a, n, c, by rw [q1, e], hA, Below.on hW.out q3⟩
    have HP : Hid (cbZ s p = true ∧ cn s 0 p = l ∧ s.size ≤ 2097152 ∧ 0 ≤ q ∧ (4 ≤ k ∧ k ≤ 13)) := ⟨hp, hl', hs, hq0, hk⟩
    have HT : Hid ((if b = true then ((sit s k q c p : Int), (if vb = true then q else -1), (0 : Int)) else ((p : Int), g1, 8)) = T) := by
      show _ = T
      rw [hgo]
      cases b with
      | true => rw [if_pos rfl, if_pos rfl, t2 rfl, hw]
      | false => rw [if_neg (by simp), if_neg (by simp)]
    have HB1 : Hid ((lead s k p q 1).2 = b) := hbe
    have hlN : (l : Int) < N := by omega
    have hNl : (N : Int) ≤ 2097153 := by omega
    have hpl : (p : Int) ≤ 2097152 := by omega
    have hc1 : (1 : Int) ≤ c ∧ (c : Int) ≤ 1000 := by omega
    have HQ : Hid ((if g1 = -1 then colF s p else g1) = q) := hq
    clear hp hb hcb hsz hq hw hlw hgo t1 t2 hs hq0 hT hpe hl' hN hce hbe
    go_enter Tryz.func12, Tryz.ntmps12
    go_upto_if 31 with (first
      | (go_at_call 14; refine C0.out.mono ?_; clear C0; rintro e w0 ⟨rfl, HB⟩)
      | (go_at_call 33; refine (C1.out _ HB).mono ?_; clear C1 HB; rintro e X ⟨g, cap, x, y, a, nn, cc, rfl, HL⟩)
      | (go_at_call 34; refine (C2.out _).mono ?_; clear C2; rintro e w2 ⟨rfl, HB⟩))
    have D2 : Hid (∀ W, Hid (Below X.heap.size X W) → Calls Tryz.prog 35 #[.slice (some ⟨g, 0, none⟩) N cap, .int .i64 p] W fun e W' => e = .returned (.int .i64 (l : Nat)) ∧ Hid (Below X.heap.size X W')) := fun W hW => (rlineOf_any (HL.out.1.rd.below hW.out) (by have := HP.out.2.2; omega) p HP.out.1).mono fun e W' ⟨q1, q2⟩ => ⟨by rw [q1, HP.out.2.1], Below.on hW.out q2⟩
    have D3 : Hid (g1 = -1 → ∀ W, Hid (Below X.heap.size X W) → Calls Tryz.prog 36 #[.agg #[.int .i64 x, .int .i64 y, .slice a nn cc], .int .i64 p] W fun e W' => e = .returned (.int .i64 q) ∧ Hid (Below X.heap.size X W')) := fun hg W hW => (HL.out.1.col W p hW.out HP.out.1 HP.out.2.1).mono fun e W' ⟨q1, q2⟩ => ⟨by have := HQ.out; rw [if_pos hg] at this; rw [q1, this], Below.on hW.out q2⟩
    have D4 : Hid (∀ W (r : Nat), Hid (Below X.heap.size X W) → cbZ s r = true → Calls Tryz.prog 37 #[.string s, .slice (some ⟨g, 0, none⟩) N cap, .int .i64 k, .int .i64 r, .int .i64 q] W fun e W' => ∃ Y : Nat, e = .returned (.tuple #[.int .i64 Y, .bool (lead s k r q 1).2]) ∧ Hid (((lead s k r q 1).2 = true → Y = (lead s k r q 1).1) ∧ Below X.heap.size X W')) := fun W r hW hr => (rstep_any (HL.out.1.rd.below hW.out) HP.out.2.2.1 r hr q HP.out.2.2.2.1 HP.out.2.2.2.2).mono fun e W' ⟨⟨Y, q1, q2⟩, q3⟩ => ⟨Y, q1, q2, Below.on hW.out q3⟩
    go_cut [3] (fun t3 wc => t3 = .int .i64 g1 ∧ Hid (Below X.heap.size X wc))
    case first =>
      by_cases h : gl < 0
      · have hz : g1 = -1 := by omega
        go_wp2
        go_meet
        case rel => exact ⟨by rw [hz], HB⟩
      · have hz : gl = g1 := by omega
        subst hz
        go_wp2
        go_meet
        case rel => exact ⟨rfl, HB⟩
    case rest =>
      clear HB
      obtain ⟨rfl, HB⟩ := hcut
      have hg0 : -1 ≤ g1 := by omega
      clear hg1
      go_upto_if 33 with fail
      go_cut [4] (fun t4 wc => t4 = .int .i64 (max n 1) ∧ Hid (Below X.heap.size X wc))
      case first =>
        by_cases h : n < 1
        · have hz : max n 1 = 1 := by omega
          go_wp2
          go_meet
          case rel => exact ⟨by rw [hz], HB⟩
        · have hz : max n 1 = n := by omega
          go_wp2
          go_meet
          case rel => exact ⟨by rw [hz], HB⟩
      case rest =>
        clear HB
        obtain ⟨rfl, HB⟩ := hcut
        go_upto_if 35 with fail
        go_cut [4] (fun t4 wc => t4 = .int .i64 c ∧ Hid (Below X.heap.size X wc))
        case first =>
          by_cases h : 1000 < max n 1
          · have hz : (c : Int) = 1000 := by omega
            go_wp2
            go_meet
            case rel => exact ⟨by rw [hz], HB⟩
          · have hz : (c : Int) = max n 1 := by omega
            go_wp2
            go_meet
            case rel => exact ⟨by rw [hz], HB⟩
        case rest =>
          clear HB
          obtain ⟨rfl, HB⟩ := hcut
          clear hcn
          go_upto_region 11 with fail
          go_cut [15] (fun t15 wc => t15 = .bool vb ∧ Hid (Below X.heap.size X wc))
          case first =>
            by_cases h : k = 10
            · subst h
              go_wp2
              go_meet
              case rel => exact ⟨by rw [← hvb]; rfl, HB⟩
            · by_cases h2 : k = 11
              · subst h2
                go_wp2
                go_meet
                case rel => exact ⟨by rw [← hvb]; rfl, HB⟩
              · have h3 : (k == 10) = false := by simp [h]
                have h4 : (k == 11) = false := by simp [h2]
                have h5 : decide (k = 10) = false := by simp [h]
                have h6 : decide (k = 11) = false := by simp [h2]
                have hz : vb = false := by rw [← hvb]; simp [h, h2]
                subst hz
                go_wp2
                go_meet
                case rel => exact ⟨rfl, HB⟩
          case rest =>
            clear HB
            obtain ⟨rfl, HB⟩ := hcut
            clear hvb
            go_upto_if 44 with fail
            go_cut [16] (fun t16 wc => t16 = .int .i64 q ∧ Hid (Below X.heap.size X wc))
            case first =>
              by_cases h : g1 < 0
              · have hz : g1 = -1 := by omega
                have E3 : Hid (∀ W, Hid (Below X.heap.size X W) → Calls Tryz.prog 36 #[.agg #[.int .i64 x, .int .i64 y, .slice a nn cc], .int .i64 p] W fun e W' => e = .returned (.int .i64 q) ∧ Hid (Below X.heap.size X W')) := D3.out hz
                clear D3 hz
                go_wp2_with (first
                  | (go_at_call 35; refine (D2.out _ HB).mono ?_; clear D2 HB; rintro e w3 ⟨rfl, HB⟩; obtain ⟨c0, c1, c2⟩ := HL.out.1.cell _ HB.out)
                  | (go_at_call 36; refine (E3.out _ HB).mono ?_; clear E3 HB c0 c1 c2; rintro e w4 ⟨rfl, HB⟩))
                go_meet
                case rel => exact ⟨rfl, HB⟩
              · have HZ : Hid (g1 = q) := by
                  have := HQ.out
                  rw [if_neg (by omega)] at this
                  exact this
                clear D3 HQ
                go_wp2
                go_meet
                case rel => exact ⟨by rw [HZ.out], HB⟩
            case rest =>
              clear HB D2 D3 HQ
              obtain ⟨rfl, HB⟩ := hcut
              have E4 := D4.out wc p HB HP.out.1
              rw [HB1.out] at E4
              obtain ⟨hA1, hA2⟩ : Hid ((lead s k p q 1).2 = b) ∧ True := ⟨HB1, trivial⟩
              clear hA2
              cases b with
              | false =>
                have hT : T = ((p : Int), g1, 8) := by rw [← HT.out, if_neg (by simp)]
                have E5 : Hid (Calls Tryz.prog 37 #[.string s, .slice (some ⟨g, 0, none⟩) N cap, .int .i64 k, .int .i64 p, .int .i64 q] wc fun e W' => ∃ Y : Nat, e = .returned (.tuple #[.int .i64 Y, .bool false]) ∧ Hid (Below X.heap.size X W')) := E4.mono fun e W' ⟨Y, q1, q2⟩ => ⟨Y, q1, q2.out.2⟩
                have HT2 : Hid (T = ((p : Int), g1, 8)) := hT
                clear E4 HT hT D4 HB1 hA1
                go_wp2_with (go_at_call 37; refine E5.out.mono ?_; clear E5 HB; rintro e w5 ⟨Y, rfl, HB⟩)
                go_ret3
                exact ⟨by rw [HT2.out]; rfl, Below.on HL.out.2 HB.out⟩
              | true =>
                have hT : T = ((sit s k q c p : Int), (if vb = true then q else -1), 0) := by rw [← HT.out, if_pos rfl]
                have HT2 : Hid (T = ((sit s k q c p : Int), (if vb = true then q else -1), 0)) := hT
                obtain ⟨m0, hm0⟩ : ∃ m0, (lead s k p q 1).1 = m0 := ⟨_, rfl⟩
                have HM : Hid (cbZ s m0 = true ∧ sit s k q (c - 1) m0 = sit s k q c p) := by
                  refine ⟨by rw [← hm0]; exact lead_cb k HP.out.1 q 1, ?_⟩
                  have e : lead s k p q 1 = (m0, true) := Prod.ext hm0 HB1.out
                  rw [show c = (c - 1) + 1 by omega, sit_yes e]
                  rfl
                have E5 : Hid (Calls Tryz.prog 37 #[.string s, .slice (some ⟨g, 0, none⟩) N cap, .int .i64 k, .int .i64 p, .int .i64 q] wc fun e W' => e = .returned (.tuple #[.int .i64 m0, .bool true]) ∧ Hid (Below X.heap.size X W')) := E4.mono fun e W' ⟨Y, q1, q2⟩ => ⟨by rw [q1, q2.out.1 rfl, hm0], q2.out.2⟩
                obtain ⟨R, hR⟩ : ∃ R, sit s k q c p = R := ⟨_, rfl⟩
                rw [hR] at HM HT2
                clear E4 HT hT hm0 HB1 hR hA1
                go_wp2_with (go_at_call 37; refine E5.out.mono ?_; clear E5 HB; rintro e w5 ⟨rfl, HB⟩)
                go_loopw [17, 19] (fun t17 t19 wr => ∃ (r j : Nat), t17 = .int .i64 r ∧ t19 = .int .i64 j ∧ 1 ≤ j ∧ j ≤ c ∧ Hid (cbZ s r = true ∧ sit s k q (c - j) r = R) ∧ Hid (Below X.heap.size X wr)) (fun _ t19 _ => c - (intOf t19).toNat)
                case atStart => exact ⟨m0, 1, rfl, rfl, Nat.le_refl _, by omega, HM, HB⟩
                case round =>
                  clear HB HM
                  obtain ⟨r, j, rfl, rfl, hj1, hj2, HM, HR⟩ := hrel
                  by_cases hlt : j < c
                  · have hlt' : (j : Int) < c := by omega
                    have E4 := D4.out wr r HR HM.out.1
                    obtain ⟨m1, hm1⟩ : ∃ m1, (lead s k r q 1).1 = m1 := ⟨_, rfl⟩
                    obtain ⟨b1, hb1⟩ : ∃ b1, (lead s k r q 1).2 = b1 := ⟨_, rfl⟩
                    rw [hm1, hb1] at E4
                    have hs1 := HM.out.2
                    rw [show c - j = (c - (j + 1)) + 1 by omega] at hs1
                    cases b1 with
                    | true =>
                      have HM2 : Hid (cbZ s m1 = true ∧ sit s k q (c - (j + 1)) m1 = R) := by
                        refine ⟨by rw [← hm1]; exact lead_cb k HM.out.1 q 1, ?_⟩
                        rw [sit_yes (Prod.ext hm1 hb1 : lead s k r q 1 = (m1, true))] at hs1
                        exact hs1
                      have E5 : Hid (Calls Tryz.prog 37 #[.string s, .slice (some ⟨g, 0, none⟩) N cap, .int .i64 k, .int .i64 r, .int .i64 q] wr fun e W' => e = .returned (.tuple #[.int .i64 m1, .bool true]) ∧ Hid (Below X.heap.size X W')) := E4.mono fun e W' ⟨Y, q1, q2⟩ => ⟨by rw [q1, q2.out.1 rfl], q2.out.2⟩
                      clear E4 hs1 HM hm1 hb1 D4
                      go_wp2_with (go_at_call 37; refine E5.out.mono ?_; clear E5 HR; rintro e w6 ⟨rfl, HR⟩)
                      exact ⟨⟨m1, j + 1, rfl, by go_num, by omega, by omega, HM2, HR⟩, by simp [intOf]; omega⟩
                    | false =>
                      have HE : Hid (r = R) := by
                        rw [sit_no hb1] at hs1
                        exact hs1
                      have E5 : Hid (Calls Tryz.prog 37 #[.string s, .slice (some ⟨g, 0, none⟩) N cap, .int .i64 k, .int .i64 r, .int .i64 q] wr fun e W' => ∃ Y : Nat, e = .returned (.tuple #[.int .i64 Y, .bool false]) ∧ Hid (Below X.heap.size X W')) := E4.mono fun e W' ⟨Y, q1, q2⟩ => ⟨Y, q1, q2.out.2⟩
                      clear E4 hs1 HM hm1 hb1 D4
                      cases vb with
                      | true =>
                        go_wp2_with (go_at_call 37; refine E5.out.mono ?_; clear E5 HR; rintro e w6 ⟨Y, rfl, HR⟩)
                        go_ret3
                        exact ⟨by rw [HT2.out, ← HE.out]; rfl, Below.on HL.out.2 HR.out⟩
                      | false =>
                        go_wp2_with (go_at_call 37; refine E5.out.mono ?_; clear E5 HR; rintro e w6 ⟨Y, rfl, HR⟩)
                        go_ret3
                        exact ⟨by rw [HT2.out, ← HE.out]; rfl, Below.on HL.out.2 HR.out⟩
                  · have hlt' : ¬ ((j : Int) < c) := by omega
                    have HE : Hid (r = R) := by
                      have := HM.out.2
                      rw [show c - j = 0 by omega] at this
                      exact this
                    clear HM D4
                    cases vb with
                    | true =>
                      go_wp2
                      go_ret3
                      exact ⟨by rw [HT2.out, ← HE.out]; rfl, Below.on HL.out.2 HR.out⟩
                    | false =>
                      go_wp2
                      go_ret3
                      exact ⟨by rw [HT2.out, ← HE.out]; rfl, Below.on HL.out.2 HR.out⟩
  · rw [decide_eq_false hk] at C0
    have hgo : goP s k i gl n = (0, -1, 13) := by unfold goP; rw [if_neg hk]
    rw [hgo]
    clear hgo hk hs
    go_enter Tryz.func12, Tryz.ntmps12
    go_wp2_with (go_at_call 14; refine C0.out.mono ?_; clear C0; rintro e w0 ⟨rfl, HB⟩)
    go_ret3
    exact ⟨rfl, HB.out⟩
end Go.Proofs.YtenkmidlipjobaaGreatDoor.Sto
namespace Go.Proofs.YtenkmidlipjobaaGreatDoor.Sto
open Go.RowKit Go.Shelf Bod Wid

/-- what Span answers, as a value -/
noncomputable def spV (s : ByteArray) (k i n : Int) : Value := .tuple #[.agg #[.int .i64 (spP s k i n).1.1, .int .i64 (spP s k i n).1.2], .int .i64 (spP s k i n).2]
set_option maxRecDepth 100000 in
set_option maxHeartbeats 1000000 in
theorem Span_any {w : World} {v : Value} {s : ByteArray} (hM : Tryz.prog.follows .mixedOrders = true) (h : Sv w v s) (k i n : Int) (hi : i ≤ 9223372036854775807) : Calls Tryz.prog 15 #[v, .int .i64 k, .int .i64 i, .int .i64 n] w fun e W' => e = .returned (spV s k i n) ∧ Below w.heap.size w W' := by
  obtain ⟨W0, hW0⟩ : ∃ W0, w.alloc (.cells #[.int .i64 0, .int .i64 0] 32) = W0 := ⟨_, rfl⟩
  have HR : Hid (Rb w 0 0 W0) := by show Rb _ _ _ _; rw [← hW0]; exact ⟨(Below.refl _ w).alloc (Nat.le_refl _) _, World.alloc_heap_new _ _⟩
  have C1 : Hid (Calls Tryz.prog 11 #[v, .int .i64 k, .int .i64 i, .int .i64 (-1), .int .i64 n] W0 fun e W' => e = .returned (.tuple #[.int .i64 (goP s k i (-1) n).1, .int .i64 (goP s k i (-1) n).2.1, .int .i64 (goP s k i (-1) n).2.2]) ∧ Hid (Rb w 0 0 W')) := (Go_any hM (h.below HR.out.bel) k i (-1) n hi (by omega)).mono fun e W' ⟨q1, q2⟩ => ⟨q1, HR.out.below q2⟩
  have C2 : Hid (∀ W, Hid (Rb w 0 0 W) → Calls Tryz.prog 31 #[v, .int .i64 i] W fun e W' => e = .returned (.int .i64 (snp s i : Nat)) ∧ Hid (Rb w 0 0 W')) := fun W hW => ((h.below hW.out.bel).snap i hi).mono fun e W' ⟨q1, q2⟩ => ⟨q1, hW.out.below q2⟩
  obtain ⟨V, hV⟩ : ∃ V, spV s k i n = V := ⟨_, rfl⟩
  have HV : Hid ((if (goP s k i (-1) n).2.2 = 0 then Value.tuple #[.agg #[.int .i64 (min (snp s i : Int) (goP s k i (-1) n).1), .int .i64 (max (snp s i : Int) (goP s k i (-1) n).1)], .int .i64 0] else .tuple #[.agg #[.int .i64 0, .int .i64 0], .int .i64 (goP s k i (-1) n).2.2]) = V) := by
    show _ = V
    rw [← hV]
    unfold spV spP
    split <;> rfl
  rw [hV]
  generalize goP s k i (-1) n = R at C1 HV
  obtain ⟨a, b, e⟩ := R
  generalize snp s i = p at C2 HV
  clear h hM hV HR
  by_cases he : e = 0
  · subst he
    have HV2 : Hid (V = Value.tuple #[.agg #[.int .i64 (min (p : Int) a), .int .i64 (max (p : Int) a)], .int .i64 0]) := by have := HV.out; rw [if_pos rfl] at this; exact this.symm
    clear HV
    go_enter Tryz.func15, Tryz.ntmps15
    go_upto_region 5 with (first
      | (go_at_call 11; refine C1.out.mono ?_; clear C1 hW0; rintro e w1 ⟨rfl, HR⟩)
      | (go_at_call 31; refine (C2.out _ HR).mono ?_; clear C2 HR; rintro e w2 ⟨rfl, HR⟩))
    obtain ⟨x0, x1, x2, x3, x4⟩ := HR.out.get
    go_wp2
    have hS := HR.out.set (min (p : Int) a) (max (p : Int) a)
    obtain ⟨z0, z1, -, -, -⟩ := hS.get
    rw [HV2.out]
    exact bodyPost_ret (v := .tuple #[.agg #[.int .i64 (min (p : Int) a), .int .i64 (max (p : Int) a)], .int .i64 0]) (by simp [results, Tryz.results15, go_sem, z0, z1]) rfl ⟨rfl, hS.bel⟩
  · have HV2 : Hid (V = Value.tuple #[.agg #[.int .i64 0, .int .i64 0], .int .i64 e]) := by have := HV.out; rw [if_neg he] at this; exact this.symm
    have h1 : (e == 0) = false := by simp [he]
    have h2 : decide (e = 0) = false := by simp [he]
    clear HV C2
    go_enter Tryz.func15, Tryz.ntmps15
    go_upto_region 3 with (go_at_call 11; refine C1.out.mono ?_; clear C1 hW0; rintro e w1 ⟨rfl, HR⟩)
    obtain ⟨x0, x1, x2, x3, x4⟩ := HR.out.get
    go_wp2
    have hS := HR.out.set 0 0
    obtain ⟨z0, z1, -, -, -⟩ := hS.get
    rw [HV2.out]
    exact bodyPost_ret (v := .tuple #[.agg #[.int .i64 0, .int .i64 0], .int .i64 e]) (by simp [results, Tryz.results15, go_sem, z0, z1]) rfl ⟨rfl, hS.bel⟩
set_option maxRecDepth 100000 in
set_option maxHeartbeats 1000000 in
theorem rSpan_any (s : ByteArray) (hs : s.size ≤ 2097152) (k i n : Int) (w : World) : Calls Tryz.prog 16 #[.string s, .int .i64 k, .int .i64 i, .int .i64 n] w fun e W' => e = .returned (spV s k i n) ∧ Below w.heap.size w W' := by
  obtain ⟨W0, hW0⟩ : ∃ W0, w.alloc (.cells #[.int .i64 0, .int .i64 0] 32) = W0 := ⟨_, rfl⟩
  have HR : Hid (Rb w 0 0 W0) := by show Rb _ _ _ _; rw [← hW0]; exact ⟨(Below.refl _ w).alloc (Nat.le_refl _) _, World.alloc_heap_new _ _⟩
  have C1 : Hid (Calls Tryz.prog 12 #[.string s, .int .i64 k, .int .i64 i, .int .i64 (-1), .int .i64 n] W0 fun e W' => e = .returned (.tuple #[.int .i64 (goP s k i (-1) n).1, .int .i64 (goP s k i (-1) n).2.1, .int .i64 (goP s k i (-1) n).2.2]) ∧ Hid (Rb w 0 0 W')) := (rGo_any s hs k i (-1) n W0).mono fun e W' ⟨q1, q2⟩ => ⟨q1, HR.out.below q2⟩
  have C2 : Hid (∀ W, Hid (Rb w 0 0 W) → Calls Tryz.prog 34 #[.string s, .int .i64 i] W fun e W' => e = .returned (.int .i64 (snp s i : Nat)) ∧ Hid (Rb w 0 0 W')) := fun W hW => (rsnap16_any s i hs W).mono fun e W' ⟨q1, q2⟩ => ⟨q1, hW.out.below q2⟩
  obtain ⟨V, hV⟩ : ∃ V, spV s k i n = V := ⟨_, rfl⟩
  have HV : Hid ((if (goP s k i (-1) n).2.2 = 0 then Value.tuple #[.agg #[.int .i64 (min (snp s i : Int) (goP s k i (-1) n).1), .int .i64 (max (snp s i : Int) (goP s k i (-1) n).1)], .int .i64 0] else .tuple #[.agg #[.int .i64 0, .int .i64 0], .int .i64 (goP s k i (-1) n).2.2]) = V) := by
    show _ = V
    rw [← hV]
    unfold spV spP
    split <;> rfl
  rw [hV]
  generalize goP s k i (-1) n = R at C1 HV
  obtain ⟨a, b, e⟩ := R
  generalize snp s i = p at C2 HV
  clear hs hV HR
  by_cases he : e = 0
  · subst he
    have HV2 : Hid (V = Value.tuple #[.agg #[.int .i64 (min (p : Int) a), .int .i64 (max (p : Int) a)], .int .i64 0]) := by have := HV.out; rw [if_pos rfl] at this; exact this.symm
    clear HV
    by_cases hlt : a < p
    · have HV3 : Hid (V = Value.tuple #[.agg #[.int .i64 a, .int .i64 p], .int .i64 0]) := by rw [HV2.out, show min (p : Int) a = a by omega, show max (p : Int) a = p by omega]; exact rfl
      clear HV2
      go_enter Tryz.func16, Tryz.ntmps16
      go_upto_region 6 with (first
        | (go_at_call 12; refine C1.out.mono ?_; clear C1 hW0; rintro e w1 ⟨rfl, HR⟩)
        | (go_at_call 34; refine (C2.out _ HR).mono ?_; clear C2 HR; rintro e w2 ⟨rfl, HR⟩))
      obtain ⟨x0, x1, x2, x3, x4⟩ := HR.out.get
      go_wp2
      have hS := HR.out.set a p
      obtain ⟨z0, z1, -, -, -⟩ := hS.get
      rw [HV3.out]
      exact bodyPost_ret (v := .tuple #[.agg #[.int .i64 a, .int .i64 p], .int .i64 0]) (by simp [results, Tryz.results16, go_sem, z0, z1]) rfl ⟨rfl, hS.bel⟩
    · have HV3 : Hid (V = Value.tuple #[.agg #[.int .i64 p, .int .i64 a], .int .i64 0]) := by rw [HV2.out, show min (p : Int) a = p by omega, show max (p : Int) a = a by omega]; exact rfl
      clear HV2
      go_enter Tryz.func16, Tryz.ntmps16
      go_upto_region 7 with (first
        | (go_at_call 12; refine C1.out.mono ?_; clear C1 hW0; rintro e w1 ⟨rfl, HR⟩)
        | (go_at_call 34; refine (C2.out _ HR).mono ?_; clear C2 HR; rintro e w2 ⟨rfl, HR⟩))
      obtain ⟨x0, x1, x2, x3, x4⟩ := HR.out.get
      go_wp2
      have hS := HR.out.set p a
      obtain ⟨z0, z1, -, -, -⟩ := hS.get
      rw [HV3.out]
      exact bodyPost_ret (v := .tuple #[.agg #[.int .i64 p, .int .i64 a], .int .i64 0]) (by simp [results, Tryz.results16, go_sem, z0, z1]) rfl ⟨rfl, hS.bel⟩
  · have HV2 : Hid (V = Value.tuple #[.agg #[.int .i64 0, .int .i64 0], .int .i64 e]) := by have := HV.out; rw [if_neg he] at this; exact this.symm
    have h1 : (e == 0) = false := by simp [he]
    have h2 : decide (e = 0) = false := by simp [he]
    clear HV C2
    go_enter Tryz.func16, Tryz.ntmps16
    go_upto_region 3 with (go_at_call 12; refine C1.out.mono ?_; clear C1 hW0; rintro e w1 ⟨rfl, HR⟩)
    obtain ⟨x0, x1, x2, x3, x4⟩ := HR.out.get
    go_wp2
    have hS := HR.out.set 0 0
    obtain ⟨z0, z1, -, -, -⟩ := hS.get
    rw [HV2.out]
    exact bodyPost_ret (v := .tuple #[.agg #[.int .i64 0, .int .i64 0], .int .i64 e]) (by simp [results, Tryz.results16, go_sem, z0, z1]) rfl ⟨rfl, hS.bel⟩
end Go.Proofs.YtenkmidlipjobaaGreatDoor.Sto
