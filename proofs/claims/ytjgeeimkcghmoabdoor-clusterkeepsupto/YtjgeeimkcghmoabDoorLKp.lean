/-
  The walk of the law ClusterKeeps: for every two texts of at most 1048576 letters together it returns true: lists of clusters share no memory, spare room neither. Conditions: the two tables of unicode/utf8 lie as their text lays them.
-/
import Derived.Test.YtjgeeimkcghmoabDoorCSame
import Derived.OwnWalk
import Derived.ArgAppend
namespace Go.Proofs.YtjgeeimkcghmoabDoor.clusterKeeps
open Go.RowKit Bod Wid

theorem infoC : (Tryd.prog.info? 29).map (fun i => (i.zero, i.size, i.bytes)) = some (some (.agg #[.int .i64 0, .int .i64 0, .int .i64 0, .int .i64 0]), 4, 32) := by kernel_rfl
theorem row_below {base e size n : Nat} {v : Value} {xs : List Value} {W W' : World} (h : W.ownsRow base e size v n xs) (hb : Below W.heap.size W W') : W'.ownsRow base e size v n xs :=
  h.kept (row := none) ⟨hb.os, hb.tape, hb.output, hb.size, fun k hk _ => hb.block k hk⟩ (by cases hv : v.ownBlock with
    | none => exact .inl rfl
    | some _ => exact .inr (by simp))
theorem row_mono {base base' e size n : Nat} {v : Value} {xs : List Value} {W : World} (h : W.ownsRow base e size v n xs) (hb : base' ≤ base) : W.ownsRow base' e size v n xs := by
  refine ⟨h.1, ?_⟩
  rcases h.2 with h0 | ⟨g, cap, cur, hv, hbg, rest⟩
  · exact .inl h0
  · exact .inr ⟨g, cap, cur, hv, Nat.le_trans hb hbg, rest⟩
theorem row_cut {base e size n m g cap : Nat} {xs : List Value} {W : World} (h : W.ownsRow base e size (.slice (some ⟨g, 0, none⟩) n cap) n xs) (hm : m ≤ n) : W.ownsRow base e size (.slice (some ⟨g, 0, none⟩) m cap) m (xs.take (m * size)) := by
  rcases h.2 with ⟨h0, _⟩ | ⟨g', cap', cur, hv, hb, hg, hnc, hcm, hcs, htake⟩
  · cases h0
  · cases hv
    have hle : m * size ≤ n * size := Nat.mul_le_mul_right _ hm
    have hl := h.1
    refine ⟨by rw [List.length_take]; omega, .inr ⟨g, cap, cur, rfl, hb, hg, by omega, hcm, hcs, ?_⟩⟩
    rw [← htake, List.take_take, Nat.min_eq_left hle]
theorem grown_two {A C : World} {o : Obj} {row row' : Option Nat} (h : (A.alloc o).grownBy C row') (hr : row' = none ∨ row' = row) : A.grownBy C row := by
  have g := World.grownBy_alloc A o row
  refine ⟨h.os.trans g.os, h.tape.trans g.tape, h.output.trans g.output, Nat.le_trans g.size h.size, fun k hk hne => ?_⟩
  refine (h.block k (Nat.lt_of_lt_of_le hk g.size) ?_).trans (g.block k hk hne)
  rcases hr with rfl | rfl
  · simp
  · exact hne
theorem cell_four_new (w : World) (a b c d : Value) (t : TypeId) : ∀ j u, [a, b, c, d][j]? = some u → (w.alloc (.cells #[a, b, c, d] t)).cell? ((⟨w.heap.size, 0, none⟩ : Addr).add j) = some u := by
  intro j u hj
  match j, hj with
  | 0, hj => simp at hj; subst hj; simp [Addr.add]
  | 1, hj => simp at hj; subst hj; simp [Addr.add]
  | 2, hj => simp at hj; subst hj; simp [Addr.add]
  | 3, hj => simp at hj; subst hj; simp [Addr.add]

/-- the three lists that are written, and where their numbers begin -/
structure Dat where
  V : Nat → Value
  L : Nat → Nat
  O : Nat → Nat
  ga : Nat
  vs : Value
  vt : Value
/-- no two lie in one block -/
structure Dat.Apart (D : Dat) : Prop where
  vv : ∀ i j, i < 3 → j < 3 → i ≠ j → (D.V i).ownBlock = none ∨ (D.V i).ownBlock ≠ (D.V j).ownBlock
  sv : ∀ i, i < 3 → D.vs.ownBlock = none ∨ D.vs.ownBlock ≠ (D.V i).ownBlock
  tv : ∀ i, i < 3 → D.vt.ownBlock = none ∨ D.vt.ownBlock ≠ (D.V i).ownBlock
  ga : ∀ i, i < 3 → (D.V i).ownBlock ≠ some D.ga
/-- the first Q elements are numbered -/
def Num (D : Dat) (i Q : Nat) (xs : List Value) : Prop := ∀ j, j < D.L i → D.O i + j < Q → xs[j * 4]? = some (.int .i64 ((1099511627776 + (D.O i + j) + 1 : Nat) : Int))
structure KS (w : World) (D : Dat) (s t : ByteArray) (Q : Nat) (W : World) : Prop where
  all : W.heap[D.ga]? = some (.cells #[D.V 0, D.V 1, D.V 2] 25 (0, 0))
  rows : ∀ i, i < 3 → ∃ xs, W.ownsRow w.heap.size 29 4 (D.V i) (D.L i) xs ∧ Num D i Q xs
  rs : W.ownsRow w.heap.size 29 4 D.vs (cl s).length (ccl (cl s))
  rt : W.ownsRow w.heap.size 29 4 D.vt (cl t).length (ccl (cl t))
  bel : Below w.heap.size w W
theorem KS.cell {w : World} {D : Dat} {s t : ByteArray} {Q : Nat} {W : World} (h : KS w D s t Q W) {i : Nat} (hi : i < 3) : W.cell? ⟨D.ga, i, none⟩ = some (D.V i) := by
  have : i = 0 ∨ i = 1 ∨ i = 2 := by omega
  rcases this with rfl | rfl | rfl <;> simp [World.cell?, h.all]
theorem KS.slot {w : World} {D : Dat} {s t : ByteArray} {Q : Nat} {W : World} (h : KS w D s t Q W) {i : Nat} (hi : i < 3) : ∃ a cp, D.V i = .slice a (D.L i) cp ∧ W.cell? ⟨D.ga, i, none⟩ = some (.slice a (D.L i) cp) ∧ (0 < D.L i → ∃ g, a = some ⟨g, 0, none⟩) := by
  obtain ⟨xs, hr, _⟩ := h.rows i hi
  have hc := h.cell hi
  rcases hr.2 with ⟨h0, h1⟩ | ⟨g, cap, cur, hv, _⟩
  · exact ⟨none, 0, by rw [h0, h1], by rw [hc, h0, h1], fun h => by omega⟩
  · exact ⟨some ⟨g, 0, none⟩, cap, hv, by rw [hc, hv], fun _ => ⟨g, rfl⟩⟩
theorem KS.kept {w : World} {D : Dat} {s t : ByteArray} {Q : Nat} {W W' : World} {row : Option Nat} (h : KS w D s t Q W) (hg : W.grownBy W' row) (h0 : row ≠ some D.ga) (h1 : ∀ i, i < 3 → (D.V i).ownBlock = none ∨ (D.V i).ownBlock ≠ row)
    (h2 : D.vs.ownBlock = none ∨ D.vs.ownBlock ≠ row) (h3 : D.vt.ownBlock = none ∨ D.vt.ownBlock ≠ row) (h4 : ∀ r, row = some r → w.heap.size ≤ r) : KS w D s t Q W' :=
  ⟨(hg.block _ (Array.getElem?_eq_some_iff.1 h.all).1 (fun e => h0 e.symm)).trans h.all, fun i hi => by
    obtain ⟨xs, hr, hn⟩ := h.rows i hi
    exact ⟨xs, hr.kept hg (h1 i hi), hn⟩, h.rs.kept hg h2, h.rt.kept hg h3, h.bel.grown hg h.bel.size h4⟩
theorem none_ne {o : Option Nat} : o = none ∨ o ≠ none := by cases o <;> simp
theorem KS.calm {w : World} {D : Dat} {s t : ByteArray} {Q : Nat} {W W' : World} (h : KS w D s t Q W) (hg : W.grownBy W' none) : KS w D s t Q W' :=
  h.kept hg (by simp) (fun _ _ => none_ne) none_ne none_ne (fun r e => by cases e)
theorem KS.below {w : World} {D : Dat} {s t : ByteArray} {Q : Nat} {W W' : World} (h : KS w D s t Q W) (hb : Below W.heap.size W W') : KS w D s t Q W' := h.calm ⟨hb.os, hb.tape, hb.output, hb.size, fun k hk _ => hb.block k hk⟩
/-- the list i was written to in place -/
theorem KS.turn {w : World} {D : Dat} {s t : ByteArray} {Q Q' : Nat} {W W' : World} {i : Nat} (hA : D.Apart) (h : KS w D s t Q W) (hi : i < 3) (hg : W.grownBy W' (D.V i).ownBlock) (hr : ∃ xs, W'.ownsRow w.heap.size 29 4 (D.V i) (D.L i) xs ∧ Num D i Q' xs)
    (hQ : ∀ k, k < 3 → k ≠ i → ∀ xs, Num D k Q xs → Num D k Q' xs) : KS w D s t Q' W' := by
  obtain ⟨xs0, hr0, _⟩ := h.rows i hi
  refine ⟨(hg.block _ (Array.getElem?_eq_some_iff.1 h.all).1 (fun e => hA.ga i hi e.symm)).trans h.all, fun k hk => ?_, h.rs.kept hg (hA.sv i hi), h.rt.kept hg (hA.tv i hi), h.bel.grown hg h.bel.size (fun j e => (hr0.lt j e).1)⟩
  by_cases e : k = i
  · subst e; exact hr
  · obtain ⟨xs, h1, h2⟩ := h.rows k hk
    exact ⟨xs, h1.kept hg (hA.vv k i hk hi e), hQ k hk e xs h2⟩
/-- the numbers of the lists follow one another -/
structure Dat.Run (D : Dat) : Prop where
  z : D.O 0 = 0
  s : ∀ i, i < 3 → D.O (i + 1) = D.O i + D.L i
theorem Dat.Run.other {D : Dat} (h : D.Run) {i j k : Nat} (hi : i < 3) (hj : j < D.L i) (hk : k < 3) (hne : k ≠ i) (xs : List Value) (hn : Num D k (D.O i + j) xs) : Num D k (D.O i + j + 1) xs := by
  intro q hq hlt
  refine hn q hq ?_
  have s0 := h.s 0 (by omega)
  have s1 := h.s 1 (by omega)
  have z := h.z
  simp only [Nat.reduceAdd] at s0 s1
  have : (i = 0 ∨ i = 1 ∨ i = 2) ∧ (k = 0 ∨ k = 1 ∨ k = 2) := by omega
  obtain ⟨(rfl | rfl | rfl), (rfl | rfl | rfl)⟩ := this <;> omega
theorem Dat.Run.lt {D : Dat} (h : D.Run) {i j : Nat} (hi : i < 3) (hj : j < D.L i) : D.O i + j < D.O 3 := by
  have s0 := h.s 0 (by omega)
  have s1 := h.s 1 (by omega)
  have s2 := h.s 2 (by omega)
  simp only [Nat.reduceAdd] at s0 s1 s2
  have : i = 0 ∨ i = 1 ∨ i = 2 := by omega
  rcases this with rfl | rfl | rfl <;> omega
theorem KS.read {w : World} {D : Dat} {s t : ByteArray} {W : World} {Q i j : Nat} (h : KS w D s t Q W) (hi : i < 3) (hj : j < D.L i) (hq : D.O i + j < Q) :
    ∃ g cp, W.cell? ⟨D.ga, i, none⟩ = some (.slice (some ⟨g, 0, none⟩) (D.L i) cp) ∧ W.cell? ⟨g, j * 4, none⟩ = some (.int .i64 ((1099511627776 + (D.O i + j) + 1 : Nat) : Int)) := by
  obtain ⟨xs, hr, hn⟩ := h.rows i hi
  obtain ⟨a, cp, hv, hc, hg⟩ := h.slot hi
  obtain ⟨g, rfl⟩ := hg (by omega)
  rw [hv] at hr
  exact ⟨g, cp, hc, (hr.cellAt (j * 4) (by omega)).trans (hn j hj hq)⟩
theorem KS.write {w : World} {D : Dat} {s t : ByteArray} {W : World} {i j : Nat} (hA : D.Apart) (hR : D.Run) (h : KS w D s t (D.O i + j) W) (hi : i < 3) (hj : j < D.L i) :
    ∃ g cp u0 u1 u2 u3, W.cell? ⟨D.ga, i, none⟩ = some (.slice (some ⟨g, 0, none⟩) (D.L i) cp) ∧ (W.cell? ⟨g, j * 4, none⟩ = some u0 ∧ W.cell? ⟨g, j * 4 + 1, none⟩ = some u1 ∧ W.cell? ⟨g, j * 4 + 2, none⟩ = some u2 ∧ W.cell? ⟨g, j * 4 + 3, none⟩ = some u3) ∧
      (W.frozen? ⟨g, j * 4, none⟩ = false ∧ W.frozen? ⟨g, j * 4 + 1, none⟩ = false ∧ W.frozen? ⟨g, j * 4 + 2, none⟩ = false ∧ W.frozen? ⟨g, j * 4 + 3, none⟩ = false) ∧
      ∀ n : Int, n = ((1099511627776 + (D.O i + j) + 1 : Nat) : Int) → KS w D s t (D.O i + j + 1) ((((W.setCell ⟨g, j * 4, none⟩ (.int .i64 n)).setCell ⟨g, j * 4 + 1, none⟩ (.int .i64 0)).setCell ⟨g, j * 4 + 2, none⟩ (.int .i64 0)).setCell ⟨g, j * 4 + 3, none⟩ (.int .i64 0)) := by
  obtain ⟨xs, hr, hn⟩ := h.rows i hi
  obtain ⟨a, cp, hv, hc, hg⟩ := h.slot hi
  obtain ⟨g, rfl⟩ := hg (by omega)
  rw [hv] at hr
  have hl : xs.length = D.L i * 4 := hr.1
  have e0 := hr.cellAt (j * 4) (by omega)
  have e1 := hr.cellAt (j * 4 + 1) (by omega)
  have e2 := hr.cellAt (j * 4 + 2) (by omega)
  have e3 := hr.cellAt (j * 4 + 3) (by omega)
  rw [List.getElem?_eq_getElem (by omega)] at e0 e1 e2 e3
  refine ⟨g, cp, _, _, _, _, hc, ⟨e0, e1, e2, e3⟩, ⟨hr.frozenAt _, hr.frozenAt _, hr.frozenAt _, hr.frozenAt _⟩, fun n hnn => ?_⟩
  obtain ⟨r1, g1⟩ := hr.stored (j * 4) (.int .i64 n)
  obtain ⟨r2, g2⟩ := r1.stored (j * 4 + 1) (.int .i64 0)
  obtain ⟨r3, g3⟩ := r2.stored (j * 4 + 2) (.int .i64 0)
  obtain ⟨r4, g4⟩ := r3.stored (j * 4 + 3) (.int .i64 0)
  have tr : ∀ {A B C : World}, A.grownBy B (some g) → B.grownBy C (some g) → A.grownBy C (some g) := fun h k => ⟨k.os.trans h.os, k.tape.trans h.tape, k.output.trans h.output, Nat.le_trans h.size k.size, fun i hi hne => (k.block i (Nat.lt_of_lt_of_le hi h.size) hne).trans (h.block i hi hne)⟩
  refine h.turn hA hi (by rw [hv]; exact tr (tr (tr g1 g2) g3) g4) ⟨_, by rw [hv]; exact r4, fun q hq hlt => ?_⟩ (fun k hk hne xs hx => hR.other hi hj hk hne xs hx)
  rw [List.getElem?_set_ne (by omega), List.getElem?_set_ne (by omega), List.getElem?_set_ne (by omega)]
  by_cases e : q = j
  · subst e
    rw [List.getElem?_set_self (by omega), hnn]
  · rw [List.getElem?_set_ne (by omega)]
    exact hn q hq (by omega)

/-- g holds what was appended to the list i -/
def GI (w : World) (D : Dat) (s t : ByteArray) (Q i j : Nat) (v : Value) (W : World) : Prop := KS w D s t Q W ∧ ∃ xs, W.ownsRow w.heap.size 29 4 v (D.L i + j) xs ∧
  ((∃ g cp, D.V i = .slice (some ⟨g, 0, none⟩) (D.L i) cp ∧ v = .slice (some ⟨g, 0, none⟩) (D.L i + j) cp ∧ Num D i Q (xs.take (D.L i * 4))) ∨
   (∀ g, v.ownBlock = some g → g ≠ D.ga ∧ (∀ k, k < 3 → (D.V k).ownBlock ≠ some g) ∧ D.vs.ownBlock ≠ some g ∧ D.vt.ownBlock ≠ some g))
theorem GI.start {w : World} {D : Dat} {s t : ByteArray} {Q i : Nat} {W : World} (h : KS w D s t Q W) (hi : i < 3) : GI w D s t Q i 0 (D.V i) W := by
  obtain ⟨xs, hr, hn⟩ := h.rows i hi
  refine ⟨h, xs, hr, ?_⟩
  rcases hr.2 with ⟨h0, h1⟩ | ⟨g, cap, cur, hv, _⟩
  · exact .inr fun g e => by rw [h0] at e; cases e
  · refine .inl ⟨g, cap, hv, hv, ?_⟩
    rw [List.take_of_length_le (by have := hr.1; omega)]
    exact hn
theorem GI.grows {w : World} {D : Dat} {s t : ByteArray} {Q i j : Nat} {v v' : Value} {W W' : World} {o : Obj} {xs : List Value} (h : GI w D s t Q i j v W) (hg : (W.alloc o).grownBy W' none) (hr : W'.ownsRow (W.alloc o).heap.size 29 4 v' (D.L i + j + 1) xs) : GI w D s t Q i (j + 1) v' W' := by
  have hs := h.1.bel.size
  refine ⟨h.1.calm (grown_two hg (.inl rfl)), xs, row_mono hr (by simp; omega), .inr fun g e => ?_⟩
  have hl := (hr.lt g e).1
  simp at hl
  refine ⟨fun q => ?_, fun k hk q => ?_, fun q => ?_, fun q => ?_⟩
  · have := (Array.getElem?_eq_some_iff.1 h.1.all).1; omega
  · obtain ⟨ys, h1, _⟩ := h.1.rows k hk
    have := (h1.lt g q).2; omega
  · have := (h.1.rs.lt g q).2; omega
  · have := (h.1.rt.lt g q).2; omega
theorem GI.fits {w : World} {D : Dat} {s t : ByteArray} {Q i j g c : Nat} {W W' : World} {o : Obj} {xs news : List Value} (hA : D.Apart) (hi : i < 3) (hk : KS w D s t Q W) (hx : W.ownsRow w.heap.size 29 4 (.slice (some ⟨g, 0, none⟩) (D.L i + j) c) (D.L i + j) xs)
    (hc : (∃ g' cp, D.V i = .slice (some ⟨g', 0, none⟩) (D.L i) cp ∧ (.slice (some ⟨g, 0, none⟩) (D.L i + j) c : Value) = .slice (some ⟨g', 0, none⟩) (D.L i + j) cp ∧ Num D i Q (xs.take (D.L i * 4))) ∨
      (∀ g', (.slice (some ⟨g, 0, none⟩) (D.L i + j) c : Value).ownBlock = some g' → g' ≠ D.ga ∧ (∀ k, k < 3 → (D.V k).ownBlock ≠ some g') ∧ D.vs.ownBlock ≠ some g' ∧ D.vt.ownBlock ≠ some g'))
    (hg : (W.alloc o).grownBy W' (some g)) (hr : W'.ownsRow w.heap.size 29 4 (.slice (some ⟨g, 0, none⟩) (D.L i + j + 1) c) (D.L i + j + 1) (xs ++ news)) : GI w D s t Q i (j + 1) (.slice (some ⟨g, 0, none⟩) (D.L i + j + 1) c) W' := by
  have hg' := grown_two (row := some g) hg (.inr rfl)
  have hl : xs.length = (D.L i + j) * 4 := hx.1
  have ht : (xs ++ news).take (D.L i * 4) = xs.take (D.L i * 4) := List.take_append_of_le_length (by omega)
  rcases hc with ⟨g', cp, hv, he, hn⟩ | hc
  · cases he
    have hrow : W'.ownsRow w.heap.size 29 4 (D.V i) (D.L i) (xs.take (D.L i * 4)) := by
      have := row_cut hr (m := D.L i) (by omega)
      rwa [ht, ← hv] at this
    refine ⟨hk.turn hA hi (by rw [hv]; exact hg') ⟨_, hrow, hn⟩ (fun _ _ _ _ h => h), _, hr, .inl ⟨g, c, hv, rfl, by rw [ht]; exact hn⟩⟩
  · obtain ⟨h1, h2, h3, h4⟩ := hc g rfl
    refine ⟨hk.kept hg' (fun e => h1 (by cases e; rfl)) (fun k hk' => .inr (h2 k hk')) (.inr h3) (.inr h4) (fun r e => by cases e; exact (hx.lt g rfl).1), _, hr, .inr fun g' e => by cases e; exact ⟨h1, h2, h3, h4⟩⟩

theorem make_dat {w w0 w1 w2 w3 w4 w5 W : World} {s t : ByteArray} {va vb vc vs vt : Value} {N M : Nat} (hN : (cl s).length = N) (hM : (cl t).length = M) (h0 : Below w.heap.size w w0)
    (r1 : w1.ownsRow w0.heap.size 29 4 va N (ccl (cl s)) ∧ Below w0.heap.size w0 w1) (r2 : w2.ownsRow w1.heap.size 29 4 vb N (ccl (cl s)) ∧ Below w1.heap.size w1 w2)
    (r3 : w3.ownsRow w2.heap.size 29 4 vc M (ccl (cl t)) ∧ Below w2.heap.size w2 w3) (r4 : w4.ownsRow w3.heap.size 29 4 vs N (ccl (cl s)) ∧ Below w3.heap.size w3 w4)
    (r5 : w5.ownsRow w4.heap.size 29 4 vt M (ccl (cl t)) ∧ Below w4.heap.size w4 w5) (hW : Below w5.heap.size w5 W) :
    ∃ D : Dat, D.ga = W.heap.size ∧ D.vs = vs ∧ D.vt = vt ∧ D.Apart ∧ D.Run ∧ (∀ i, D.O i ≤ N + N + M) ∧ (∀ i, D.L i ≤ N + M) ∧ KS w D s t 0 (W.alloc (.cells #[va, vb, vc] 25)) := by
  have s0 := h0.size
  have s1 := r1.2.size
  have s2 := r2.2.size
  have s3 := r3.2.size
  have s4 := r4.2.size
  have s5 := r5.2.size
  have s6 := hW.size
  have b5 := r5.2.trans (hW.mono s5)
  have b4 := r4.2.trans (b5.mono s4)
  have b3 := r3.2.trans (b4.mono s3)
  have b2 := r2.2.trans (b3.mono s2)
  have b1 := r1.2.trans (b2.mono s1)
  have b0 := h0.trans (b1.mono s0)
  have al : Below W.heap.size W (W.alloc (.cells #[va, vb, vc] 25)) := (Below.refl _ W).alloc (Nat.le_refl _) _
  have q1 := row_below (row_below r1.1 b2) al
  have q2 := row_below (row_below r2.1 b3) al
  have q3 := row_below (row_below r3.1 b4) al
  have q4 := row_below (row_below r4.1 b5) al
  have q5 := row_below (row_below r5.1 hW) al
  have dj : ∀ {u v : Value} {A B A' B' : World} {n m : Nat} {xs ys : List Value} {c d : Nat}, A.ownsRow c 29 4 u n xs → B.ownsRow d 29 4 v m ys → A.heap.size ≤ d ∨ B.heap.size ≤ c → u.ownBlock = none ∨ u.ownBlock ≠ v.ownBlock := fun {u v _ _ _ _ _ _ _ _ _ _} h k hh => by
    cases hu : u.ownBlock with
    | none => exact .inl rfl
    | some g =>
      refine .inr fun e => ?_
      have h1 := h.lt g hu
      have h2 := k.lt g e.symm
      omega
  have ng : ∀ {u : Value} {A : World} {n c : Nat} {xs : List Value}, A.ownsRow c 29 4 u n xs → A.heap.size ≤ W.heap.size → u.ownBlock ≠ some W.heap.size := fun h hh e => by
    have := (h.lt _ e).2
    omega
  refine ⟨⟨fun i => if i = 0 then va else if i = 1 then vb else vc, fun i => if i = 0 then N else if i = 1 then N else M, fun i => if i = 0 then 0 else if i = 1 then N else if i = 2 then N + N else N + N + M, W.heap.size, vs, vt⟩, rfl, rfl, rfl, ?_, ?_, ?_, ?_, ?_⟩
  · refine ⟨fun i j hi hj hne => ?_, fun i hi => ?_, fun i hi => ?_, fun i hi => ?_⟩
    · have : (i = 0 ∨ i = 1 ∨ i = 2) ∧ (j = 0 ∨ j = 1 ∨ j = 2) := by omega
      obtain ⟨(rfl | rfl | rfl), (rfl | rfl | rfl)⟩ := this
      · exact absurd rfl hne
      · exact dj (A' := w) (B' := w) r1.1 r2.1 (.inl (by omega))
      · exact dj (A' := w) (B' := w) r1.1 r3.1 (.inl (by omega))
      · exact dj (A' := w) (B' := w) r2.1 r1.1 (.inr (by omega))
      · exact absurd rfl hne
      · exact dj (A' := w) (B' := w) r2.1 r3.1 (.inl (by omega))
      · exact dj (A' := w) (B' := w) r3.1 r1.1 (.inr (by omega))
      · exact dj (A' := w) (B' := w) r3.1 r2.1 (.inr (by omega))
      · exact absurd rfl hne
    · have : i = 0 ∨ i = 1 ∨ i = 2 := by omega
      rcases this with rfl | rfl | rfl
      · exact dj (A' := w) (B' := w) r4.1 r1.1 (.inr (by omega))
      · exact dj (A' := w) (B' := w) r4.1 r2.1 (.inr (by omega))
      · exact dj (A' := w) (B' := w) r4.1 r3.1 (.inr (by omega))
    · have : i = 0 ∨ i = 1 ∨ i = 2 := by omega
      rcases this with rfl | rfl | rfl
      · exact dj (A' := w) (B' := w) r5.1 r1.1 (.inr (by omega))
      · exact dj (A' := w) (B' := w) r5.1 r2.1 (.inr (by omega))
      · exact dj (A' := w) (B' := w) r5.1 r3.1 (.inr (by omega))
    · have : i = 0 ∨ i = 1 ∨ i = 2 := by omega
      rcases this with rfl | rfl | rfl
      · exact ng r1.1 (by omega)
      · exact ng r2.1 (by omega)
      · exact ng r3.1 (by omega)
  · refine ⟨rfl, fun i hi => ?_⟩
    have : i = 0 ∨ i = 1 ∨ i = 2 := by omega
    rcases this with rfl | rfl | rfl
    · show N = 0 + N; omega
    · show N + N = N + N; rfl
    · show N + N + M = N + N + M; rfl
  · intro i
    show (if i = 0 then 0 else if i = 1 then N else if i = 2 then N + N else N + N + M) ≤ _
    repeat' split
    all_goals omega
  · intro i
    show (if i = 0 then N else if i = 1 then N else M) ≤ _
    repeat' split
    all_goals omega
  · refine ⟨World.alloc_heap_new W _, fun i hi => ?_, ?_, ?_, b0.trans (al.mono (by omega))⟩
    · have : i = 0 ∨ i = 1 ∨ i = 2 := by omega
      rcases this with rfl | rfl | rfl
      · exact ⟨_, row_mono q1 (by omega), fun j _ h => by omega⟩
      · exact ⟨_, row_mono q2 (by omega), fun j _ h => by omega⟩
      · exact ⟨_, row_mono q3 (by omega), fun j _ h => by omega⟩
    · rw [hN]; exact row_mono q4 (by omega)
    · rw [hM]; exact row_mono q5 (by omega)

set_option maxRecDepth 100000 in
set_option maxHeartbeats 4000000 in
theorem walk (s t : ByteArray) (hs : s.size ≤ 1048576) (ht : t.size ≤ 1048576) (w : World) (hT : Lib.Utf8Tabs 0 1 w) (hlo0 : 0 < w.heap.size) (hlo1 : 1 < w.heap.size) :
    Calls Tryd.prog 4 #[.string s, .string t] w fun e w' => e = .returned (.bool true) ∧ Below w.heap.size w w' := by
  obtain ⟨i0, hi0, hz0, hz1, hz2⟩ := info_parts infoC
  have cC := fixed_any w hT hlo0 hlo1
  have TT : Hid (∀ W, Below w.heap.size w W → Lib.Utf8Tabs 0 1 W ∧ 0 < W.heap.size ∧ 1 < W.heap.size) := fun W hb => ⟨tabs_below hT hb, Nat.lt_of_lt_of_le hlo0 hb.size, Nat.lt_of_lt_of_le hlo1 hb.size⟩
  have hs' : s.size ≤ maxLen := by unfold maxLen; omega
  have ht' : t.size ≤ maxLen := by unfold maxLen; omega
  obtain ⟨N, hN⟩ : ∃ N, (cl s).length = N := ⟨_, rfl⟩
  obtain ⟨M, hM⟩ : ∃ M, (cl t).length = M := ⟨_, rfl⟩
  have hNs : N ≤ 1048576 := by rw [← hN]; exact Nat.le_trans (cl_len s) hs
  have hMt : M ≤ 1048576 := by rw [← hM]; exact Nat.le_trans (cl_len t) ht
  have C1 : Hid (∀ W, Below w.heap.size w W → Calls Tryd.prog 8 #[.string s] W fun e W' => ∃ a cap, e = .returned (.slice a N cap) ∧ Hid (W'.ownsRow W.heap.size 29 4 (.slice a N cap) N (ccl (cl s)) ∧ Below W.heap.size W W')) := fun W hb => by
    obtain ⟨t1, t2, t3⟩ := TT.out W hb
    refine (list_any s hs' (by omega) W t1 t2 t3).mono fun e W' ⟨v, h1, h2, h3⟩ => ?_
    obtain ⟨a, cap, rfl, hr⟩ := Rd4.of_row h2.1
    have h4 := h2.1
    rw [hN] at h1 h4
    exact ⟨a, cap, h1, h4, h3⟩
  have C2 : Hid (∀ W, Below w.heap.size w W → Calls Tryd.prog 8 #[.string t] W fun e W' => ∃ a cap, e = .returned (.slice a M cap) ∧ Hid (W'.ownsRow W.heap.size 29 4 (.slice a M cap) M (ccl (cl t)) ∧ Below W.heap.size W W')) := fun W hb => by
    obtain ⟨t1, t2, t3⟩ := TT.out W hb
    refine (list_any t ht' (by omega) W t1 t2 t3).mono fun e W' ⟨v, h1, h2, h3⟩ => ?_
    obtain ⟨a, cap, rfl, hr⟩ := Rd4.of_row h2.1
    have h4 := h2.1
    rw [hM] at h1 h4
    exact ⟨a, cap, h1, h4, h3⟩
  have HN : Hid ((cl s).length = N) := hN
  have HM : Hid ((cl t).length = M) := hM
  have K1 : Hid True := trivial
  have K2 : Hid True := trivial
  have K3 : Hid True := trivial
  have K4 : Hid True := trivial
  have K5 : Hid True := trivial
  clear hT hlo0 hlo1 hN hM hs' ht'
  go_enter Tryd.func4, Tryd.ntmps4
  go_wp2_with (first | (go_at_call 5; refine cC.mono ?_; clear cC; rintro e w0 ⟨rfl, hb1⟩; have HB0 : Hid (Below w.heap.size w w0) := hb1; have HB : Hid (Below w.heap.size w w0) := hb1; clear hb1) | (go_at_call 8; have hq := K1; clear hq K1; refine (C1.out _ HB.out).mono ?_; rintro e w1 ⟨a1, p1, rfl, R1⟩; have hb1 := HB.out.trans (R1.out.2.mono HB.out.size); clear HB; have HB : Hid (Below w.heap.size w w1) := hb1; clear hb1) | (go_at_call 8; have hq := K2; clear hq K2; refine (C1.out _ HB.out).mono ?_; rintro e w2 ⟨a2, p2, rfl, R2⟩; have hb1 := HB.out.trans (R2.out.2.mono HB.out.size); clear HB; have HB : Hid (Below w.heap.size w w2) := hb1; clear hb1) | (go_at_call 8; have hq := K3; clear hq K3; refine (C2.out _ HB.out).mono ?_; rintro e w3 ⟨a3, p3, rfl, R3⟩; have hb1 := HB.out.trans (R3.out.2.mono HB.out.size); clear HB; have HB : Hid (Below w.heap.size w w3) := hb1; clear hb1) | (go_at_call 8; have hq := K4; clear hq K4; refine (C1.out _ HB.out).mono ?_; rintro e w4 ⟨a4, p4, rfl, R4⟩; have hb1 := HB.out.trans (R4.out.2.mono HB.out.size); clear HB; have HB : Hid (Below w.heap.size w w4) := hb1; clear hb1) | (go_at_call 8; have hq := K5; clear hq K5; refine (C2.out _ HB.out).mono ?_; rintro e w5 ⟨a5, p5, rfl, R5⟩; have hb1 := HB.out.trans (R5.out.2.mono HB.out.size); clear HB; have HB : Hid (Below w.heap.size w w5) := hb1; clear hb1))
  have HV : Hid (∀ W, Below w5.heap.size w5 W → Rd4 W (.slice a1 N p1) (cl s) ∧ Rd4 W (.slice a2 N p2) (cl s) ∧ Rd4 W (.slice a3 M p3) (cl t) ∧ Rd4 W (.slice a4 N p4) (cl s) ∧ Rd4 W (.slice a5 M p5) (cl t)) := fun W hW => by
    have b5 := R5.out.2.trans (hW.mono R5.out.2.size)
    have b4 := R4.out.2.trans (b5.mono R4.out.2.size)
    have b3 := R3.out.2.trans (b4.mono R3.out.2.size)
    have b2 := R2.out.2.trans (b3.mono R2.out.2.size)
    have q1 := row_below R1.out.1 b2
    have q2 := row_below R2.out.1 b3
    have q3 := row_below R3.out.1 b4
    have q4 := row_below R4.out.1 b5
    have q5 := row_below R5.out.1 hW
    have e1 := HN.out
    have e2 := HM.out
    subst e1 e2
    exact ⟨Rd4.of_row q1, Rd4.of_row q2, Rd4.of_row q3, Rd4.of_row q4, Rd4.of_row q5⟩
  have HX : Hid (Below w5.heap.size w5 w5) := Below.refl _ _
  have K1 : Hid True := trivial
  have K2 : Hid True := trivial
  have LS : Hid ((cl s).length ≤ 140737488355328) := by have := HN.out; show _ ≤ _; omega
  have LT : Hid ((cl t).length ≤ 140737488355328) := by have := HM.out; show _ ≤ _; omega
  go_wp2_with (first | (go_at_call 10; have hq := K1; clear hq K1; refine (same_any LS.out (HV.out _ HX.out).1 (HV.out _ HX.out).2.2.2.1).mono ?_; rintro e w6 ⟨rfl, hb6⟩; have HX : Hid (Below w5.heap.size w5 w6) := hb6; clear hb6) | (go_at_call 10; have hq := K2; clear hq K2; refine (same_any LS.out (HV.out _ HX.out).2.1 (HV.out _ HX.out).2.2.2.1).mono ?_; rintro e w7 ⟨rfl, hb7⟩; have hb6 := HX.out.trans (hb7.mono HX.out.size); clear HX; have HX : Hid (Below w5.heap.size w5 w7) := hb6; clear hb6 hb7) | (go_at_call 10; refine (same_any LT.out (HV.out _ HX.out).2.2.1 (HV.out _ HX.out).2.2.2.2).mono ?_; rintro e w8 ⟨rfl, hb7⟩; have hb6 := HX.out.trans (hb7.mono HX.out.size); clear HX; have HX : Hid (Below w5.heap.size w5 w8) := hb6; clear hb6 hb7))
  obtain ⟨D, hga, hvs, hvt, hA, hR, hO, hL, hKS⟩ := make_dat HN.out HM.out HB0.out R1.out R2.out R3.out R4.out R5.out HX.out
  have HKS : Hid (KS w D s t (D.O 0) (w8.alloc (.cells #[.slice a1 N p1, .slice a2 N p2, .slice a3 M p3] 25))) := by rw [hR.z]; exact hKS
  have HDV : Hid (D.vs = .slice a4 N p4 ∧ D.vt = .slice a5 M p5) := ⟨hvs, hvt⟩
  have HGA : Hid (D.ga = w8.heap.size) := hga
  have HA : Hid D.Apart := hA
  have HR : Hid D.Run := hR
  have HO : Hid (∀ i, D.O i ≤ N + N + M) := hO
  have HL : Hid (∀ i, D.L i ≤ N + M) := hL
  clear hga hvs hvt hA hR hO hL hKS HV R1 R2 R3 R4 R5 HB0 HX LS LT
  go_loopw [10, 12] (fun n i wr => ∃ k : Nat, k ≤ 3 ∧ i = .int .i64 k ∧ n = .int .i64 (1099511627776 + (D.O k : Int)) ∧ Hid (KS w D s t (D.O k) wr)) (fun _ i _ => 3 - (intOf i).toNat)
  case atStart => exact ⟨0, by omega, rfl, by rw [HR.out.z]; rfl, HKS⟩
  case round =>
    obtain ⟨k, hk, rfl, rfl, HK⟩ := hrel
    clear HKS
    by_cases hlt : k < 3
    · obtain ⟨p, hp⟩ : ∃ p, D.O k = p := ⟨_, rfl⟩
      obtain ⟨l, hl⟩ : ∃ l, D.L k = l := ⟨_, rfl⟩
      have hpb : p ≤ 3145728 := by have := HO.out k; omega
      have hlb : l ≤ 2097152 := by have := HL.out k; omega
      have HP : Hid (D.O k = p) := hp
      have HLk : Hid (D.L k = l) := hl
      rw [hp]
      clear hp hl
      go_wp2
      go_loopw [10, 13] (fun n j wr => ∃ q : Nat, q ≤ l ∧ j = .int .i64 q ∧ n = .int .i64 (1099511627776 + (p : Int) + q) ∧ Hid (KS w D s t (D.O k + q) wr)) (fun _ j _ => l - (intOf j).toNat)
      case atStart => exact ⟨0, Nat.zero_le _, rfl, by simp, HK⟩
      case round =>
        obtain ⟨q, hq, rfl, rfl, HK2⟩ := hrel
        clear HK
        by_cases hql : q < l
        · obtain ⟨g, cp, u0, u1, u2, u3, hc, ⟨e0, e1, e2, e3⟩, ⟨f0, f1, f2, f3⟩, hnx⟩ := HK2.out.write HA.out HR.out hlt (by rw [HLk.out]; exact hql)
          rw [HGA.out, HLk.out] at hc
          have HNX : Hid _ := hnx _ (by have := HP.out; omega : (1099511627776 + (p : Int) + q + 1) = ((1099511627776 + (D.O k + q) + 1 : Nat) : Int))
          clear hnx HK2
          go_wp2
          exact ⟨⟨q + 1, by omega, by go_num, by go_num, HNX⟩, by simp [intOf]; omega⟩
        · obtain ⟨a, cp, hv, hc, _⟩ := HK2.out.slot hlt
          rw [HGA.out, HLk.out] at hc
          have hd : decide (q < l) = false := decide_eq_false hql
          clear hv
          have hO1 : D.O (k + 1) = p + q := by rw [HR.out.s k hlt, HP.out, HLk.out]; omega
          have HO1 : Hid (D.O (k + 1) = p + q) := hO1
          have HK3 : Hid (KS w D s t (D.O (k + 1)) wr) := by rw [hO1, ← HP.out]; exact HK2
          clear hO1 HK2
          go_wp2
          exact ⟨⟨k + 1, by omega, by go_num, by rw [HO1.out]; go_num, HK3⟩, by simp [intOf]; omega⟩
    · have hd : decide (k < 3) = false := decide_eq_false hlt
      have hk3 : k = 3 := by omega
      have HK3 : Hid (KS w D s t (D.O 3) wr) := by rw [← hk3]; exact HK
      have HO3 : Hid (D.O 3 ≤ 3145728) := by have := HO.out 3; show _ ≤ _; omega
      clear hk hk3 HK
      go_wp2
      clear hd hlt
      go_loopw [14] (fun i wr => ∃ k : Nat, k ≤ 3 ∧ i = .int .i64 k ∧ Hid (KS w D s t (D.O 3) wr)) (fun i _ => 3 - (intOf i).toNat)
      case atStart => exact ⟨0, by omega, rfl, HK3⟩
      case round =>
        obtain ⟨k, hk, rfl, HK⟩ := hrel
        clear HK3
        by_cases hlt : k < 3
        · obtain ⟨a, cp, hv, hc, _⟩ := HK.out.slot hlt
          rw [HGA.out] at hc
          have HST : Hid (GI w D s t (D.O 3) k 0 (.slice a (D.L k) cp) wr) := by rw [← hv]; exact GI.start HK.out hlt
          have hlb : D.L k ≤ 2097152 := by have := HL.out k; omega
          have hdk : decide ((k : Int) < 3) = true := decide_eq_true (by omega)
          clear hv
          go_wp2
          clear hc hdk
          go_loopw [15, 16] (fun v j wr => ∃ q : Nat, q ≤ 20 ∧ j = .int .i64 q ∧ Hid (GI w D s t (D.O 3) k q v wr)) (fun _ j _ => 20 - (intOf j).toNat)
          case atStart => exact ⟨0, by omega, rfl, HST⟩
          case round =>
            obtain ⟨q, hq, rfl, HG⟩ := hrel
            clear HST HK
            by_cases hq20 : q < 20
            · obtain ⟨hks, xs, ra, hcs⟩ := HG.out
              have HCS : Hid _ := hcs
              have HKS : Hid (KS w D s t (D.O 3) wr) := hks
              have hwb := hks.bel.size
              clear hks hcs
              have ra2 := ra
              rcases ra2.2 with ⟨rfl, h0⟩ | ⟨g, c, cur, rfl, hbg, hg, hnc, hcm, hcz, htk⟩
              · go_wp2_with (at_builtin; refine wpList_append_grows _ rfl _ _ 25 rfl 29 i0 (.agg #[.int .i64 0, .int .i64 0, .int .i64 0, .int .i64 0]) 4 32 Tryd.underlying25 hi0 hz0 hz1 hz2 rfl (by decide) none 0 0 [] rfl (fun _ => ⟨rfl, rfl⟩) rfl (fun b e => by cases e) ⟨wr.heap.size, 0, none⟩ 1 1 [.int .i64 (-1), .int .i64 0, .int .i64 0, .int .i64 0] rfl rfl (cell_four_new _ _ _ _ _ _) (by simp [Value.oneCell']) (by omega) (by unfold maxLen; omega) (by omega) ?_; intro v3 w3 hrow3 hg3)
                go_roundw
                case rel => exact ⟨q + 1, by omega, by go_num, HG.out.grows hg3 (by rw [h0]; exact hrow3)⟩
                case measure => simp [intOf]; omega
              · clear hbg hg hcm hcz htk
                by_cases hroom : D.L k + q + 1 ≤ c
                · go_wp2_with (at_builtin; refine wpList_append_fits _ rfl _ _ 25 rfl w.heap.size 29 i0 4 Tryd.underlying25 hi0 hz1 g (D.L k + q) c xs rfl (ra.alloc _) ⟨wr.heap.size, 0, none⟩ 1 1 [.int .i64 (-1), .int .i64 0, .int .i64 0, .int .i64 0] rfl rfl (cell_four_new _ _ _ _ _ _) (by simp [Value.oneCell']) hroom ?_; intro w3 hrow3 hg3)
                  go_roundw
                  case rel => exact ⟨q + 1, by omega, by go_num, GI.fits HA.out hlt HKS.out ra (Hid.out HCS) hg3 hrow3⟩
                  case measure => simp [intOf]; omega
                · go_wp2_with (at_builtin; refine wpList_append_grows _ rfl _ _ 25 rfl 29 i0 (.agg #[.int .i64 0, .int .i64 0, .int .i64 0, .int .i64 0]) 4 32 Tryd.underlying25 hi0 hz0 hz1 hz2 rfl (by decide) (some ⟨g, 0, none⟩) (D.L k + q) c xs rfl (fun e => by cases e) ra.1 (fun b e => by cases e; exact (ra.alloc _).cells rfl) ⟨wr.heap.size, 0, none⟩ 1 1 [.int .i64 (-1), .int .i64 0, .int .i64 0, .int .i64 0] rfl rfl (cell_four_new _ _ _ _ _ _) (by simp [Value.oneCell']) (by omega) (by unfold maxLen; omega) (by omega) ?_; intro v3 w3 hrow3 hg3)
                  go_roundw
                  case rel => exact ⟨q + 1, by omega, by go_num, HG.out.grows hg3 hrow3⟩
                  case measure => simp [intOf]; omega
            · have HK3 : Hid (KS w D s t (D.O 3) wr) := HG.out.1
              clear HG
              go_wp2
              exact ⟨⟨k + 1, by omega, by go_num, HK3⟩, by simp [intOf]; omega⟩
        · have hd : decide (k < 3) = false := decide_eq_false hlt
          go_wp2
          clear hd hlt hk
          go_loopw [10, 17] (fun n i wr => ∃ k : Nat, k ≤ 3 ∧ i = .int .i64 k ∧ n = .int .i64 (1099511627776 + (D.O k : Int)) ∧ Hid (KS w D s t (D.O 3) wr)) (fun _ i _ => 3 - (intOf i).toNat)
          case atStart => exact ⟨0, by omega, rfl, by rw [HR.out.z]; rfl, HK⟩
          case round =>
            obtain ⟨k, hk, rfl, rfl, HK⟩ := hrel
            by_cases hlt : k < 3
            · obtain ⟨p, hp⟩ : ∃ p, D.O k = p := ⟨_, rfl⟩
              obtain ⟨l, hl⟩ : ∃ l, D.L k = l := ⟨_, rfl⟩
              have hpb : p ≤ 3145728 := by have := HO.out k; omega
              have hlb : l ≤ 2097152 := by have := HL.out k; omega
              have HP : Hid (D.O k = p) := hp
              have HLk : Hid (D.L k = l) := hl
              rw [hp]
              clear hp hl
              go_wp2
              go_loopw [10, 18] (fun n j wr => ∃ q : Nat, q ≤ l ∧ j = .int .i64 q ∧ n = .int .i64 (1099511627776 + (p : Int) + q) ∧ Hid (KS w D s t (D.O 3) wr)) (fun _ j _ => l - (intOf j).toNat)
              case atStart => exact ⟨0, Nat.zero_le _, rfl, by simp, HK⟩
              case round =>
                obtain ⟨q, hq, rfl, rfl, HK2⟩ := hrel
                clear HK
                by_cases hql : q < l
                · obtain ⟨g, cp, hc, e0⟩ := HK2.out.read hlt (by rw [HLk.out]; exact hql) (HR.out.lt hlt (by rw [HLk.out]; exact hql))
                  rw [HGA.out, HLk.out] at hc
                  rw [show ((1099511627776 + (D.O k + q) + 1 : Nat) : Int) = 1099511627776 + (p : Int) + q + 1 by have := HP.out; omega] at e0
                  go_wp2
                  exact ⟨⟨q + 1, by omega, by go_num, by go_num, HK2⟩, by simp [intOf]; omega⟩
                · obtain ⟨a, cp, hv, hc, _⟩ := HK2.out.slot hlt
                  rw [HGA.out, HLk.out] at hc
                  have hd : decide (q < l) = false := decide_eq_false hql
                  clear hv
                  have hO1 : D.O (k + 1) = p + q := by rw [HR.out.s k hlt, HP.out, HLk.out]; omega
                  have HO1 : Hid (D.O (k + 1) = p + q) := hO1
                  clear hO1
                  go_wp2
                  exact ⟨⟨k + 1, by omega, by go_num, by rw [HO1.out]; go_num, HK2⟩, by simp [intOf]; omega⟩
            · have hd : decide (k < 3) = false := decide_eq_false hlt
              have HB : Hid (Below w.heap.size w wr) := HK.out.bel
              have HRS : Hid (∀ W, Below wr.heap.size wr W → Rd4 W (.slice a4 N p4) (cl s) ∧ Rd4 W (.slice a5 M p5) (cl t)) := fun W hW => by
                have h1 := row_below HK.out.rs hW
                have h2 := row_below HK.out.rt hW
                rw [HDV.out.1] at h1
                rw [HDV.out.2] at h2
                exact ⟨Rd4.of_row h1, Rd4.of_row h2⟩
              have HRN : Hid (∀ {W W' : World} {a : Option Addr} {c : Nat}, W'.ownsRow W.heap.size 29 4 (.slice a N c) N (ccl (cl s)) → Rd4 W' (.slice a N c) (cl s)) := fun h => by
                have e1 := HN.out
                subst e1
                exact Rd4.of_row h
              have HRM : Hid (∀ {W W' : World} {a : Option Addr} {c : Nat}, W'.ownsRow W.heap.size 29 4 (.slice a M c) M (ccl (cl t)) → Rd4 W' (.slice a M c) (cl t)) := fun h => by
                have e1 := HM.out
                subst e1
                exact Rd4.of_row h
              have LS : Hid ((cl s).length ≤ 140737488355328) := by have := HN.out; show _ ≤ _; omega
              have LT : Hid ((cl t).length ≤ 140737488355328) := by have := HM.out; show _ ≤ _; omega
              have K1 : Hid True := trivial
              have K2 : Hid True := trivial
              have HX : Hid (Below wr.heap.size wr wr) := Below.refl _ _
              clear HK
              go_wp2_with (first | (go_at_call 8; have hq := K1; clear hq K1; refine (C1.out _ HB.out).mono ?_; rintro e v1 ⟨b1, q1, rfl, R1⟩; have hb1 := HB.out.trans (R1.out.2.mono HB.out.size); have hx1 : Hid (Below wr.heap.size wr v1) := R1.out.2; clear HB; have HB : Hid (Below w.heap.size w v1) := hb1; clear hb1) | (go_at_call 10; have hq := K2; clear hq K2; refine (same_any LS.out (HRS.out _ hx1.out).1 (HRN.out R1.out.1)).mono ?_; rintro e v2 ⟨rfl, hb2⟩; have hb1 := HB.out.trans (hb2.mono HB.out.size); have hx2 : Hid (Below wr.heap.size wr v2) := hx1.out.trans (hb2.mono hx1.out.size); clear HB; have HB : Hid (Below w.heap.size w v2) := hb1; clear hb1 hb2) | (go_at_call 8; refine (C2.out _ HB.out).mono ?_; rintro e v3 ⟨b3, q3, rfl, R3⟩; have hb1 := HB.out.trans (R3.out.2.mono HB.out.size); have hx3 : Hid (Below wr.heap.size wr v3) := hx2.out.trans (R3.out.2.mono hx2.out.size); clear HB; have HB : Hid (Below w.heap.size w v3) := hb1; clear hb1) | (go_at_call 10; refine (same_any LT.out (HRS.out _ hx3.out).2 (HRM.out R3.out.1)).mono ?_; rintro e v4 ⟨rfl, hb2⟩; have hb1 := HB.out.trans (hb2.mono HB.out.size); clear HB; have HB : Hid (Below w.heap.size w v4) := hb1; clear hb1 hb2))
              go_ret
              exact ⟨rfl, HB.out⟩

theorem walk_of {H : Type} (s t : ByteArray) (w : World) (hT : Lib.Utf8Tabs 0 1 w) (hlo0 : 0 < w.heap.size) (hlo1 : 1 < w.heap.size) (_hs : s.size ≤ 140737488351232) (_ht : t.size ≤ 140737488351232) (hk : Rows.uptoSmall H ([DataW.lit (.string s.data.toList), DataW.lit (.string t.data.toList)] ++ []) = true) :
    Calls Tryd.prog 4 #[.string s, .string t] w fun e w' => e = .returned (.bool true) ∧ Below w.heap.size w w' := by
  have h : Rows.uptoBulkAll ([DataW.lit (H := H) (.string s.data.toList), DataW.lit (.string t.data.toList)] ++ []) ≤ 1048576 := of_decide_eq_true hk
  simp only [List.append_nil, Rows.uptoBulkAll, Rows.uptoBulk] at h
  exact walk s t (by rw [Lib.size_eq]; omega) (by rw [Lib.size_eq]; omega) w hT hlo0 hlo1
end Go.Proofs.YtjgeeimkcghmoabDoor.clusterKeeps
