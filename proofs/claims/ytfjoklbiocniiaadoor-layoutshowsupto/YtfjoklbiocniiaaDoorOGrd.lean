/-
  The grid under way in memory: its block, the row of its rows, the rows, each in a block of its own; how it changes. Conditions: those of each theorem.
-/
import Derived.Maps.OwnIn
import Derived.Deep.AppendLies
import Derived.Test.YtfjoklbiocniiaaDoorPkOS
import Derived.Test.YtfjoklbiocniiaaDoorPkI
namespace Go.Proofs.YtfjoklbiocniiaaDoor
open Go.RowKit Go.Shelf Bod Wid

def ccs (l : List Cel) : List Value := l.flatMap fun c => [.string c.tx, .int .i64 c.sp]
theorem ccs_app (l m : List Cel) : ccs (l ++ m) = ccs l ++ ccs m := by simp [ccs]
theorem ccs_len (l : List Cel) : (ccs l).length = l.length * 2 := by
  induction l with
  | nil => rfl
  | cons c l ih => simp only [ccs, List.flatMap_cons, List.length_append, List.length_cons, List.length_nil] at ih ⊢; omega
/-- the types of a grid's blocks -/
def Gty (t : TypeId) : Prop := t = 66 ∨ t = 40 ∨ t = 42
/-- a frame by types: what has none of these types, or lies from lo to hi, stays -/
structure Fg (lo hi : Nat) (X Y : World) : Prop where
  os : Y.os = X.os
  tape : Y.tape = X.tape
  output : Y.output = X.output
  size : X.heap.size ≤ Y.heap.size
  block : ∀ k o, X.heap[k]? = some o → ((lo ≤ k ∧ k < hi) ∨ ¬ ∃ vs t fz, o = .cells vs t fz ∧ Gty t) → Y.heap[k]? = some o
section
variable {lo hi : Nat} {X Y Z : World}
theorem Fg.refl (lo hi : Nat) (X : World) : Fg lo hi X X := ⟨rfl, rfl, rfl, Nat.le_refl _, fun _ _ h _ => h⟩
theorem Fg.trans (h : Fg lo hi X Y) (k : Fg lo hi Y Z) : Fg lo hi X Z := ⟨k.os.trans h.os, k.tape.trans h.tape, k.output.trans h.output, Nat.le_trans h.size k.size, fun i o a b => k.block i o (h.block i o a b) b⟩
theorem Fg.of_below (h : Below X.heap.size X Y) : Fg lo hi X Y := ⟨h.os, h.tape, h.output, h.size, fun k _ hk _ => (h.block k (Array.getElem?_eq_some_iff.1 hk).1).trans hk⟩
theorem Fg.of_row {row : Option Nat} (h : X.grownBy Y row) (hr : ∀ r, row = some r → (∃ vs t fz, X.heap[r]? = some (.cells vs t fz) ∧ Gty t) ∧ (r < lo ∨ hi ≤ r)) : Fg lo hi X Y :=
  ⟨h.os, h.tape, h.output, h.size, fun k o hk hc => (h.block k (Array.getElem?_eq_some_iff.1 hk).1 (fun e => by
    obtain ⟨⟨vs, t, fz, h1, h2⟩, h3⟩ := hr k e.symm
    rw [hk] at h1
    cases h1
    rcases hc with h4 | h4
    · omega
    · exact h4 ⟨_, _, _, rfl, h2⟩)).trans hk⟩
theorem Fg.kf {b : Nat} (h : Fg lo hi X Y) : KeepsFrom b X Y := ⟨h.size, fun k o _ hk hc => h.block k o hk (.inr (by rintro ⟨vs, t, fz, rfl, _⟩; cases hc))⟩
theorem Fg.kpt {M : Nat → Obj → Prop} (h : Fg lo hi X Y) (hM : ∀ k vs t fz, Gty t → (k < lo ∨ hi ≤ k) → M k (.cells vs t fz)) : KpT M X Y := ⟨h.size, fun k o hk _ hm => h.block k o hk (by
  by_cases h1 : lo ≤ k ∧ k < hi
  · exact .inl h1
  · refine .inr ?_
    rintro ⟨vs, t, fz, rfl, h2⟩
    exact hm (hM _ _ _ _ h2 (by omega)))⟩
theorem Fg.other {k : Nat} {vs : Array Value} {t : TypeId} {fz : Nat × Nat} (h : Fg lo hi X Y) (hk : X.heap[k]? = some (.cells vs t fz)) (ht : ¬ Gty t) : Y.heap[k]? = some (.cells vs t fz) :=
  h.block _ _ hk (.inr (by rintro ⟨_, _, _, e, h2⟩; cases e; exact ht h2))
end
theorem o_keep {W W' : World} {base c n : Nat} {e : TypeId} {v : Value} {xs : List Value} (h : W.ownsRow base e c v n xs) (e2 : ∀ g, v.ownBlock = some g → W'.heap[g]? = W.heap[g]?) : W'.ownsRow base e c v n xs := by
  refine ⟨h.1, ?_⟩
  rcases h.2 with ⟨h1, h2⟩ | ⟨g, cap, cur, h1, hb, hc, h3⟩
  · exact .inl ⟨h1, h2⟩
  · exact .inr ⟨g, cap, cur, h1, hb, (e2 g (by rw [h1]; rfl)).trans hc, h3⟩
theorem o_blk {W : World} {base c n g : Nat} {e : TypeId} {v : Value} {xs : List Value} (h : W.ownsRow base e c v n xs) (hg : v.ownBlock = some g) : (∃ cur, W.heap[g]? = some (.cells cur e (0, 0))) ∧ base ≤ g ∧ g < W.heap.size := by
  rcases h.2 with ⟨h1, h2⟩ | ⟨k, cap, cur, h1, hb, hc, h3⟩
  · rw [h1] at hg; cases hg
  · rw [h1] at hg
    injection hg with hg
    subst hg
    exact ⟨⟨cur, hc⟩, hb, (Array.getElem?_eq_some_iff.1 hc).1⟩
theorem o_slice {W : World} {base c n : Nat} {e : TypeId} {v : Value} {xs : List Value} (h : W.ownsRow base e c v n xs) : ∃ a k, v = .slice a n k := by
  rcases h.2 with ⟨rfl, rfl⟩ | ⟨g, cap, cur, rfl, _⟩
  · exact ⟨_, _, rfl⟩
  · exact ⟨_, _, rfl⟩
theorem o_grown2 {A B C : World} {r : Option Nat} (h : A.grownBy B r) (g : B.grownBy C r) : A.grownBy C r :=
  ⟨g.os.trans h.os, g.tape.trans h.tape, g.output.trans h.output, Nat.le_trans h.size g.size, fun k hk hne => (g.block k (Nat.lt_of_lt_of_le hk h.size) hne).trans (h.block k hk hne)⟩
/-- two rows of unlike types lie apart -/
theorem o_ne {W : World} {base base' c c' n n' g g' : Nat} {e e' : TypeId} {v v' : Value} {xs xs' : List Value} (hn : e ≠ e') (h : W.ownsRow base e c v n xs) (hg : v.ownBlock = some g) (h' : W.ownsRow base' e' c' v' n' xs') (hg' : v'.ownBlock = some g') : g ≠ g' := by
  obtain ⟨⟨cur, h1⟩, -, -⟩ := o_blk h hg
  obtain ⟨⟨cur', h2⟩, -, -⟩ := o_blk h' hg'
  rintro rfl
  rw [h2] at h1
  injection h1 with h1
  injection h1 with _ h1
  exact hn h1.symm
theorem o_nb {W : World} {base c n g b : Nat} {e t : TypeId} {v : Value} {xs : List Value} {a : Array Value} {fz : Nat × Nat} (hn : e ≠ t) (h : W.ownsRow base e c v n xs) (hg : v.ownBlock = some g) (hb : W.heap[b]? = some (.cells a t fz)) : g ≠ b := by
  obtain ⟨⟨cur, h1⟩, -, -⟩ := o_blk h hg
  rintro rfl
  rw [hb] at h1
  injection h1 with h1
  injection h1 with _ h1
  exact hn h1.symm
/-- the grid in memory -/
structure Gd (w : World) (lo hi : Nat) (W r c : Int) (gb : Nat) (ov : Value) (vs : List (List Cel × Value)) (X : World) : Prop where
  bel : Below w.heap.size w X
  gbl : w.heap.size ≤ gb
  box : X.heap[gb]? = some (.cells #[.int .i64 W, .int .i64 r, .int .i64 c, ov] 66 (0, 0))
  gout : gb < lo ∨ hi ≤ gb
  orow : X.ownsRow w.heap.size 40 1 ov vs.length (vs.map Prod.snd)
  oout : ∀ g, ov.ownBlock = some g → g < lo ∨ hi ≤ g
  each : ∀ o ∈ vs, X.ownsRow w.heap.size 42 2 o.2 o.1.length (ccs o.1) ∧ ∀ g, o.2.ownBlock = some g → g < lo ∨ hi ≤ g
  sep : vs.Pairwise fun o p => ∀ g, o.2.ownBlock = some g → p.2.ownBlock ≠ some g
section
variable {w X Y : World} {lo hi : Nat} {W r c : Int} {gb : Nat} {ov : Value} {vs : List (List Cel × Value)}
theorem Gd.lt (h : Gd w lo hi W r c gb ov vs X) : gb < X.heap.size := (Array.getElem?_eq_some_iff.1 h.box).1
theorem Gd.cells (h : Gd w lo hi W r c gb ov vs X) : (X.cell? ⟨gb, 0, none⟩ = some (.int .i64 W) ∧ X.cell? ⟨gb, 1, none⟩ = some (.int .i64 r) ∧ X.cell? ⟨gb, 2, none⟩ = some (.int .i64 c) ∧ X.cell? ⟨gb, 3, none⟩ = some ov) ∧ X.frozen? ⟨gb, 0, none⟩ = false ∧ X.frozen? ⟨gb, 1, none⟩ = false ∧ X.frozen? ⟨gb, 2, none⟩ = false ∧ X.frozen? ⟨gb, 3, none⟩ = false := box4 h.box
theorem Gd.keep (h : Gd w lo hi W r c gb ov vs X) (hb : Below w.heap.size w Y) (k : ∀ b, (b < lo ∨ hi ≤ b) → (∃ vs t fz, X.heap[b]? = some (.cells vs t fz)) → Y.heap[b]? = X.heap[b]?) : Gd w lo hi W r c gb ov vs Y :=
  ⟨hb, h.gbl, (k gb h.gout ⟨_, _, _, h.box⟩).trans h.box, h.gout, o_keep h.orow (fun g e => by obtain ⟨⟨cur, hc⟩, -, -⟩ := o_blk h.orow e; exact k g (h.oout g e) ⟨_, _, _, hc⟩), h.oout,
   fun o ho => ⟨o_keep (h.each o ho).1 (fun g e => by obtain ⟨⟨cur, hc⟩, -, -⟩ := o_blk (h.each o ho).1 e; exact k g ((h.each o ho).2 g e) ⟨_, _, _, hc⟩), (h.each o ho).2⟩, h.sep⟩
theorem Gd.below (h : Gd w lo hi W r c gb ov vs X) (hb : Below X.heap.size X Y) : Gd w lo hi W r c gb ov vs Y :=
  h.keep (h.bel.trans (hb.mono h.bel.size)) (fun b _ he => by obtain ⟨_, _, _, e⟩ := he; exact hb.block b (Array.getElem?_eq_some_iff.1 e).1)
theorem Gd.drew (h : Gd w lo hi W r c gb ov vs X) : Gd w lo hi W r c gb ov vs X.drew := h.below ⟨rfl, rfl, rfl, Nat.le_refl _, fun _ _ => rfl⟩
theorem Gd.lim (h : Gd w lo hi W r c gb ov vs X) {lo' hi' : Nat} (hl : X.heap.size ≤ lo') : Gd w lo' hi' W r c gb ov vs X :=
  ⟨h.bel, h.gbl, h.box, .inl (Nat.lt_of_lt_of_le h.lt hl), h.orow, fun _ e => .inl (Nat.lt_of_lt_of_le (o_blk h.orow e).2.2 hl), fun o ho => ⟨(h.each o ho).1, fun _ e => .inl (Nat.lt_of_lt_of_le (o_blk (h.each o ho).1 e).2.2 hl)⟩, h.sep⟩
theorem gd_ab {α : Type} {B : Nat} {f : α → List (List Cel)} {p : α → Int × Int} (hB : w.heap.size ≤ B) : Ab B lo hi (fun (a : α) X => ∃ ov vs, vs.map Prod.fst = f a ∧ Gd w lo hi W (p a).1 (p a).2 gb ov vs X) := fun a X Y row h hg hr => by
  obtain ⟨ov, vs, hf, h⟩ := h
  refine ⟨ov, vs, hf, h.keep (h.bel.grown hg (by have := h.bel.size; omega) (fun k e => Nat.le_trans hB (hr k e).1)) (fun b hb he => ?_)⟩
  obtain ⟨_, _, _, e⟩ := he
  refine hg.block b (Array.getElem?_eq_some_iff.1 e).1 (fun e2 => ?_)
  obtain ⟨_, h3 | ⟨o, ho, hc⟩⟩ := hr b e2.symm
  · omega
  · rw [e] at ho; cases ho; cases hc
/-- a number of the pen is set -/
theorem Gd.penR (h : Gd w lo hi W r c gb ov vs X) (r' : Int) : Gd w lo hi W r' c gb ov vs (X.setCell ⟨gb, 1, none⟩ (.int .i64 r')) ∧ Fg lo hi X (X.setCell ⟨gb, 1, none⟩ (.int .i64 r')) := by
  have g := gcell X gb 1 (.int .i64 r')
  have kp : ∀ {b : Nat}, b < X.heap.size → b ≠ gb → (X.setCell ⟨gb, 1, none⟩ (.int .i64 r')).heap[b]? = X.heap[b]? := fun hb hne => g.block _ hb (fun e => hne (by injection e))
  refine ⟨⟨h.bel.setCell (p := ⟨gb, 1, none⟩) h.gbl _, h.gbl, by simpa using set1 (i := 1) (.int .i64 r') h.box, h.gout, o_keep h.orow (fun b e => kp (o_blk h.orow e).2.2 (o_nb (by decide) h.orow e h.box)), h.oout, fun o ho => ⟨o_keep (h.each o ho).1 (fun b e => kp (o_blk (h.each o ho).1 e).2.2 (o_nb (by decide) (h.each o ho).1 e h.box)), (h.each o ho).2⟩, h.sep⟩, Fg.of_row g (fun b e => ?_)⟩
  cases e
  exact ⟨⟨_, _, _, h.box, .inl rfl⟩, h.gout⟩
theorem Gd.penC (h : Gd w lo hi W r c gb ov vs X) (c' : Int) : Gd w lo hi W r c' gb ov vs (X.setCell ⟨gb, 2, none⟩ (.int .i64 c')) ∧ Fg lo hi X (X.setCell ⟨gb, 2, none⟩ (.int .i64 c')) := by
  have g := gcell X gb 2 (.int .i64 c')
  have kp : ∀ {b : Nat}, b < X.heap.size → b ≠ gb → (X.setCell ⟨gb, 2, none⟩ (.int .i64 c')).heap[b]? = X.heap[b]? := fun hb hne => g.block _ hb (fun e => hne (by injection e))
  refine ⟨⟨h.bel.setCell (p := ⟨gb, 2, none⟩) h.gbl _, h.gbl, by simpa using set1 (i := 2) (.int .i64 c') h.box, h.gout, o_keep h.orow (fun b e => kp (o_blk h.orow e).2.2 (o_nb (by decide) h.orow e h.box)), h.oout, fun o ho => ⟨o_keep (h.each o ho).1 (fun b e => kp (o_blk (h.each o ho).1 e).2.2 (o_nb (by decide) (h.each o ho).1 e h.box)), (h.each o ho).2⟩, h.sep⟩, Fg.of_row g (fun b e => ?_)⟩
  cases e
  exact ⟨⟨_, _, _, h.box, .inl rfl⟩, h.gout⟩
theorem infoCE : (Tryd.prog.info? 42).map (fun i => (i.zero, i.size, i.bytes)) = some (some (.agg #[.string ⟨#[]⟩, .int .i64 0]), 2, 24) := by kernel_rfl
theorem infoLCE : (Tryd.prog.info? 40).map (fun i => (i.zero, i.size, i.bytes)) = some (some (.slice none 0 0), 1, 24) := by kernel_rfl
/-- the row of rows took one more row, without cells; then the box is told -/
theorem Gd.addR (h : Gd w lo hi W r c gb ov vs X) {X1 : World} {ov' : Value} (hX : hi ≤ X.heap.size) (hg : X.grownBy X1 ov.ownBlock) (hrow : X1.ownsRow w.heap.size 40 1 ov' (vs.length + 1) (vs.map Prod.snd ++ [.slice none 0 0])) (hob : ∀ g, ov'.ownBlock = some g → ov.ownBlock = some g ∨ X.heap.size ≤ g) :
    X1.heap[gb]? = some (.cells #[.int .i64 W, .int .i64 r, .int .i64 c, ov] 66 (0, 0)) ∧ Gd w lo hi W r c gb ov' (vs ++ [([], .slice none 0 0)]) (X1.setCell ⟨gb, 3, none⟩ ov') ∧ Fg lo hi X (X1.setCell ⟨gb, 3, none⟩ ov') := by
  have kp : ∀ {b : Nat}, b < X.heap.size → ov.ownBlock ≠ some b → X1.heap[b]? = X.heap[b]? := fun hb hne => hg.block _ hb (fun e => hne e.symm)
  have hbx : X1.heap[gb]? = some (.cells #[.int .i64 W, .int .i64 r, .int .i64 c, ov] 66 (0, 0)) := (kp h.lt (fun e => o_nb (by decide) h.orow e h.box rfl)).trans h.box
  have g2 := gcell X1 gb 3 ov'
  have kp2 : ∀ {b : Nat}, b < X1.heap.size → b ≠ gb → (X1.setCell ⟨gb, 3, none⟩ ov').heap[b]? = X1.heap[b]? := fun hb hne => g2.block _ hb (fun e => hne (by injection e))
  have hB : Below w.heap.size w X1 := h.bel.grown hg (by have := h.bel.size; omega) (fun k e => (o_blk h.orow e).2.1)
  have hsz := hg.size
  refine ⟨hbx, ⟨hB.setCell (p := ⟨gb, 3, none⟩) h.gbl _, h.gbl, by simpa using set1 (i := 3) ov' hbx, h.gout, ?_, fun g e => ?_, fun o ho => ?_, ?_⟩, (Fg.of_row hg (fun b e => ?_)).trans (Fg.of_row g2 (fun b e => ?_))⟩
  · rw [List.length_append, List.map_append]
    exact o_keep hrow (fun b e => kp2 (o_blk hrow e).2.2 (o_nb (by decide) hrow e hbx))
  · rcases hob g e with q | q
    · exact h.oout g q
    · exact .inr (by omega)
  · rcases List.mem_append.1 ho with q | q
    · refine ⟨o_keep (h.each o q).1 (fun b e => ?_), (h.each o q).2⟩
      have hl := (o_blk (h.each o q).1 e).2.2
      rw [kp2 (by omega) (o_nb (by decide) (h.each o q).1 e h.box)]
      exact kp hl (fun e2 => o_ne (by decide) (h.each o q).1 e h.orow e2 rfl)
    · simp only [List.mem_singleton] at q
      subst q
      exact ⟨World.ownsRow_nil _ _ _ _, fun g e => by cases e⟩
  · rw [List.pairwise_append]
    refine ⟨h.sep, List.pairwise_singleton _ _, fun a _ b hb g _ e => ?_⟩
    simp only [List.mem_singleton] at hb
    subst hb
    cases e
  · obtain ⟨⟨cur, hc⟩, -, -⟩ := o_blk h.orow e
    exact ⟨⟨_, _, _, hc, .inr (.inl rfl)⟩, h.oout b e⟩
  · cases e
    exact ⟨⟨_, _, _, hbx, .inl rfl⟩, h.gout⟩
/-- .. out of what an append tells -/
theorem Gd.app (h : Gd w lo hi W r c gb ov vs X) {X1 : World} {ov' : Value} {o : Obj} (hX : hi ≤ X.heap.size) (hrow : X1.ownsRow w.heap.size 40 1 ov' (vs.length + 1) (vs.map Prod.snd ++ [.slice none 0 0])) (hg : (X.alloc o).grownBy X1 ov.ownBlock) (hob : ov'.ownBlock = ov.ownBlock ∨ ov'.ownBlock = some (X.alloc o).heap.size) :
    X1.heap[gb]? = some (.cells #[.int .i64 W, .int .i64 r, .int .i64 c, ov] 66 (0, 0)) ∧ Gd w lo hi W r c gb ov' (vs ++ [([], .slice none 0 0)]) (X1.setCell ⟨gb, 3, none⟩ ov') ∧ Fg lo hi X (X1.setCell ⟨gb, 3, none⟩ ov') :=
  h.addR hX (o_grown2 (World.grownBy_alloc X o _) hg) hrow (fun g e => by
    rcases hob with q | q
    · exact .inl (q ▸ e)
    · rw [q] at e; have := Option.some.inj e; simp at this; exact .inr (by omega))
/-- a row is another one now (its own block, or a new one); then the row of rows is told -/
theorem Gd.setAtN {vs0 vs1 : List (List Cel × Value)} {l l' : List Cel} {v v' : Value} {og : Nat} {n k : Nat} (h : Gd w lo hi W r c gb (.slice (some ⟨og, 0, none⟩) n k) (vs0 ++ (l, v) :: vs1) X) {X1 : World} (hg : X.grownBy X1 v.ownBlock) (hrow : X1.ownsRow w.heap.size 42 2 v' l'.length (ccs l')) (hob : ∀ g, v'.ownBlock = some g → v.ownBlock = some g ∨ (X.heap.size ≤ g ∧ hi ≤ g)) :
    Gd w lo hi W r c gb (.slice (some ⟨og, 0, none⟩) n k) (vs0 ++ (l', v') :: vs1) (X1.setCell ⟨og, vs0.length, none⟩ v') ∧ Fg lo hi X (X1.setCell ⟨og, vs0.length, none⟩ v') ∧ X1.frozen? ⟨og, vs0.length, none⟩ = false ∧ X1.cell? ⟨og, vs0.length, none⟩ = some v ∧ X1.heap[gb]? = some (.cells #[.int .i64 W, .int .i64 r, .int .i64 c, .slice (some ⟨og, 0, none⟩) n k] 66 (0, 0)) := by
  have hv := h.each (l, v) (by simp)
  have kp : ∀ {b : Nat}, b < X.heap.size → v.ownBlock ≠ some b → X1.heap[b]? = X.heap[b]? := fun hb hne => hg.block _ hb (fun e => hne e.symm)
  have hbx : X1.heap[gb]? = some (.cells #[.int .i64 W, .int .i64 r, .int .i64 c, .slice (some ⟨og, 0, none⟩) n k] 66 (0, 0)) := (kp h.lt (fun e => o_nb (by decide) hv.1 e h.box rfl)).trans h.box
  have hsz := hg.size
  have hog := o_blk h.orow (show (Value.slice (some ⟨og, 0, none⟩) n k).ownBlock = some og from rfl)
  have orow1 : X1.ownsRow w.heap.size 40 1 (.slice (some ⟨og, 0, none⟩) n k) (vs0 ++ (l, v) :: vs1).length ((vs0 ++ (l, v) :: vs1).map Prod.snd) := o_keep h.orow (fun b e => kp (o_blk h.orow e).2.2 (fun e2 => o_ne (by decide) hv.1 e2 h.orow e rfl))
  have hn : n = (vs0 ++ (l, v) :: vs1).length := by
    obtain ⟨a, q, e⟩ := o_slice orow1
    injection e
  subst hn
  obtain ⟨st, g2⟩ := orow1.stored vs0.length v'
  have kp2 : ∀ {b : Nat}, b < X1.heap.size → b ≠ og → (X1.setCell ⟨og, vs0.length, none⟩ v').heap[b]? = X1.heap[b]? := fun hb hne => g2.block _ hb (fun e => hne (by injection e))
  have hB : Below w.heap.size w X1 := h.bel.grown hg (by have := h.bel.size; omega) (fun k e => (o_blk hv.1 e).2.1)
  have hne : gb ≠ og := fun e => by
    obtain ⟨⟨cur, hc⟩, -⟩ := hog
    have := h.box
    rw [e, hc] at this
    injection this with this
    injection this with _ this
    exact absurd this (by decide)
  have old : ∀ o ∈ vs0 ++ vs1, (X1.setCell ⟨og, vs0.length, none⟩ v').ownsRow w.heap.size 42 2 o.2 o.1.length (ccs o.1) ∧ ∀ g, o.2.ownBlock = some g → g < lo ∨ hi ≤ g := fun o ho => by
    have ho' : o ∈ vs0 ++ (l, v) :: vs1 := by rcases List.mem_append.1 ho with q | q <;> simp [q]
    refine ⟨o_keep (h.each o ho').1 (fun b e => ?_), (h.each o ho').2⟩
    have hl := (o_blk (h.each o ho').1 e).2.2
    rw [kp2 (by omega) (o_ne (by decide) (h.each o ho').1 e h.orow rfl)]
    refine kp hl (fun e2 => ?_)
    have hs := h.sep
    rw [List.pairwise_append] at hs
    rcases List.mem_append.1 ho with q | q
    · exact hs.2.2 o q (l, v) (by simp) b e e2
    · have := hs.2.1
      rw [List.pairwise_cons] at this
      exact this.1 o q b e2 e
  refine ⟨⟨hB.setCell (p := ⟨og, vs0.length, none⟩) hog.2.1 _, h.gbl, (kp2 (by have := h.lt; omega) hne).trans hbx, h.gout, ?_, h.oout, fun o ho => ?_, ?_⟩, (Fg.of_row hg (fun b e => ?_)).trans (Fg.of_row g2 (fun b e => ?_)), orow1.frozenAt _, ?_, hbx⟩
  · have e1 : ((vs0 ++ (l, v) :: vs1).map Prod.snd).set vs0.length v' = (vs0 ++ (l', v') :: vs1).map Prod.snd := by
      rw [List.map_append, List.map_append, List.set_append_right _ _ (by simp)]
      simp
    rw [e1] at st
    simpa using st
  · rcases List.mem_append.1 ho with q | q
    · exact old o (List.mem_append_left _ q)
    · rcases List.mem_cons.1 q with q | q
      · subst q
        refine ⟨o_keep hrow (fun b e => kp2 (o_blk hrow e).2.2 (o_ne (by decide) hrow e orow1 rfl)), fun g e => ?_⟩
        rcases hob g e with q | q
        · exact hv.2 g q
        · exact .inr q.2
      · exact old o (List.mem_append_right _ q)
  · have hs := h.sep
    rw [List.pairwise_append, List.pairwise_cons] at hs ⊢
    obtain ⟨s1, ⟨s2, s3⟩, s4⟩ := hs
    have far : ∀ o ∈ vs0 ++ vs1, ∀ g, o.2.ownBlock = some g → g < X.heap.size := fun o ho g e => (o_blk (h.each o (by rcases List.mem_append.1 ho with q | q <;> simp [q])).1 e).2.2
    refine ⟨s1, ⟨fun p hp g e => ?_, s3⟩, fun a ha b hb g e => ?_⟩
    · rcases hob g e with q | q
      · exact s2 p hp g q
      · exact fun e2 => by have := far p (List.mem_append_right _ hp) g e2; omega
    · rcases List.mem_cons.1 hb with q | q
      · subst q
        intro e2
        rcases hob g e2 with q | q
        · exact s4 a ha (l, v) (by simp) g e q
        · have := far a (List.mem_append_left _ ha) g e; omega
      · exact s4 a ha b (by simp [q]) g e
  · obtain ⟨⟨cur, hc⟩, -, -⟩ := o_blk hv.1 e
    exact ⟨⟨_, _, _, hc, .inr (.inr rfl)⟩, hv.2 b e⟩
  · cases e
    obtain ⟨⟨cur, hc⟩, -, -⟩ := o_blk orow1 (show (Value.slice (some ⟨og, 0, none⟩) _ k).ownBlock = some og from rfl)
    exact ⟨⟨_, _, _, hc, .inr (.inl rfl)⟩, h.oout og rfl⟩
  · rw [orow1.cellAt vs0.length (by simp)]
    simp
theorem Gd.setAt {vs0 vs1 : List (List Cel × Value)} {l l' : List Cel} {v v' : Value} {og : Nat} {n k : Nat} (h : Gd w lo hi W r c gb (.slice (some ⟨og, 0, none⟩) n k) (vs0 ++ (l, v) :: vs1) X) {X1 : World} (hX : hi ≤ X.heap.size) (hg : X.grownBy X1 v.ownBlock) (hrow : X1.ownsRow w.heap.size 42 2 v' l'.length (ccs l')) (hob : ∀ g, v'.ownBlock = some g → v.ownBlock = some g ∨ X.heap.size ≤ g) :
    Gd w lo hi W r c gb (.slice (some ⟨og, 0, none⟩) n k) (vs0 ++ (l', v') :: vs1) (X1.setCell ⟨og, vs0.length, none⟩ v') ∧ Fg lo hi X (X1.setCell ⟨og, vs0.length, none⟩ v') ∧ X1.frozen? ⟨og, vs0.length, none⟩ = false ∧ X1.cell? ⟨og, vs0.length, none⟩ = some v ∧ X1.heap[gb]? = some (.cells #[.int .i64 W, .int .i64 r, .int .i64 c, .slice (some ⟨og, 0, none⟩) n k] 66 (0, 0)) :=
  h.setAtN hg hrow (fun g e => (hob g e).imp id (fun q => ⟨q, Nat.le_trans hX q⟩))
end
end Go.Proofs.YtfjoklbiocniiaaDoor
