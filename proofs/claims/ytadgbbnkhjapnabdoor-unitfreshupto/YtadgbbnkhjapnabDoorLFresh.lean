/-
  The walk of the law UnitFresh: for every text of at most 1048576 letters it returns true: lists of units share no memory, spare room neither, and a range that goes on while a list is written over yields what it would. Conditions: the two tables of unicode/utf8 lie as their text lays them.
-/
import Derived.Test.YtadgbbnkhjapnabDoorUIterM
import Derived.Test.YtadgbbnkhjapnabDoorUAlike
import Derived.Test.YtadgbbnkhjapnabDoorUQuietR
import Derived.Laws.EntriesVeiled
import Derived.OwnWalk
import Derived.ArgAppend
import Derived.Lib.AppendZeros
import Derived.Deep.RegionWith
namespace Go.Proofs.YtadgbbnkhjapnabDoor.unitFresh
open Go.RowKit Go.Shelf Bod
attribute [local go_sem] Oper.semAt_some

theorem boxed_kept {X Y : World} {b : Nat} {t : TypeId} {v : Value} {row : Option Nat} (h : Boxed X b t v) (hg : X.grownBy Y row) (hr : ∀ r, row = some r → ∃ o : Obj, X.heap[r]? = some o ∧ o.isCells = false) : Boxed Y b t v :=
  boxed_own b t (fun _ : Unit => v) () X Y row h hg hr
theorem ucells_one (s : ByteArray) (xs : List Nat) : ∀ u ∈ ucells s xs, u.oneCell' = true := by
  intro u hu
  simp only [ucells, List.mem_flatMap] at hu
  obtain ⟨p, _, hp⟩ := hu
  simp at hp
  rcases hp with rfl | rfl <;> rfl
theorem row_below {base e size n : Nat} {v : Value} {xs : List Value} {W W' : World} (h : W.ownsRow base e size v n xs) (hb : Below W.heap.size W W') : W'.ownsRow base e size v n xs :=
  h.kept (row := none) ⟨hb.os, hb.tape, hb.output, hb.size, fun k hk _ => hb.block k hk⟩ (by cases hv : v.ownBlock with
    | none => exact .inl rfl
    | some _ => exact .inr (by simp))
theorem Rd.of_own {W : World} {base n : Nat} {v : Value} {s : ByteArray} {xs : List Nat} (hn : xs.length = n) (h : W.ownsRow base 32 2 v n (ucells s xs)) : Rd W v n (chAt s xs) (szAt s xs) := by
  subst hn
  have h' := h
  rcases h.2 with ⟨rfl, h0⟩ | ⟨g, cap, cur, rfl, _⟩
  · rw [h0]; exact ⟨none, 0, rfl, fun q => absurd rfl q⟩
  · exact Rd.of_row h'

theorem row_mono {base base' e size n : Nat} {v : Value} {xs : List Value} {W : World} (h : W.ownsRow base e size v n xs) (hb : base' ≤ base) : W.ownsRow base' e size v n xs := by
  refine ⟨h.1, ?_⟩
  rcases h.2 with h0 | ⟨g, cap, cur, hv, hbg, rest⟩
  · exact .inl h0
  · exact .inr ⟨g, cap, cur, hv, Nat.le_trans hb hbg, rest⟩
/-- the block g holds N units, whatever they are -/
def RowB (W : World) (g N : Nat) : Prop := ∃ cur : Array Value, W.heap[g]? = some (.cells cur 32 (0, 0)) ∧ cur.size = N * 2
theorem RowB.of_own {W : World} {base g N : Nat} {xs : List Value} (h : W.ownsRow base 32 2 (.slice (some ⟨g, 0, none⟩) N N) N xs) : RowB W g N := by
  rcases h.2 with ⟨h0, _⟩ | ⟨g', cap, cur, hv, _, hg, _, _, hcs, _⟩
  · cases h0
  · cases hv; exact ⟨cur, hg, hcs⟩
theorem RowB.cell {W : World} {g N j : Nat} (h : RowB W g N) (hj : j < N * 2) : (W.cell? ⟨g, j, none⟩).isSome = true ∧ W.frozen? ⟨g, j, none⟩ = false := by
  obtain ⟨cur, hg, hs⟩ := h
  constructor
  · unfold World.cell?; simp [hg, hs, hj]
  · unfold World.frozen?; simp [hg]
theorem RowB.set {W : World} {g N : Nat} (h : RowB W g N) (o : Nat) (u : Value) : RowB (W.setCell ⟨g, o, none⟩ u) g N := by
  obtain ⟨cur, hg, hs⟩ := h
  have hlt := (Array.getElem?_eq_some_iff.1 hg).1
  have he := (Array.getElem?_eq_some_iff.1 hg).2
  refine ⟨cur.setIfInBounds o u, ?_, by simpa using hs⟩
  simp [World.setCell, hlt, he, Array.getElem_modify]
theorem RowB.kept {W W' : World} {g N : Nat} {row : Option Nat} (h : RowB W g N) (hg : W.grownBy W' row) (hr : row ≠ some g) : RowB W' g N := by
  obtain ⟨cur, h1, h2⟩ := h
  exact ⟨cur, (hg.block g (Array.getElem?_eq_some_iff.1 h1).1 (fun e => hr e.symm)).trans h1, h2⟩
theorem RowB.lt {W : World} {g N : Nat} (h : RowB W g N) : g < W.heap.size := by
  obtain ⟨cur, h1, _⟩ := h
  exact (Array.getElem?_eq_some_iff.1 h1).1
theorem RowB.owns {W : World} {g N base : Nat} (h : RowB W g N) (hb : base ≤ g) (hN : N ≤ 1048576) : ∃ xs, W.ownsRow base 32 2 (.slice (some ⟨g, 0, none⟩) N N) N xs := by
  obtain ⟨cur, h1, h2⟩ := h
  refine ⟨cur.toList.take (N * 2), by simp [h2], .inr ⟨g, N, cur, rfl, hb, h1, Nat.le_refl _, by unfold maxLen; omega, h2, rfl⟩⟩
theorem set_grown (W : World) (g o : Nat) (u : Value) : W.grownBy (W.setCell ⟨g, o, none⟩ u) (some g) := by
  have hg : ∀ k, k ≠ g → (W.setCell ⟨g, o, none⟩ u).heap[k]? = W.heap[k]? := fun k hk => by
    simp [World.setCell, Array.getElem?_modify, Ne.symm hk]
  exact ⟨rfl, rfl, rfl, by simp, fun k _ hk => hg k (fun e => hk (by rw [e]))⟩
theorem grown_trans {A B C : World} {g : Nat} (h : A.grownBy B (some g)) (k : B.grownBy C (some g)) : A.grownBy C (some g) :=
  ⟨k.os.trans h.os, k.tape.trans h.tape, k.output.trans h.output, Nat.le_trans h.size k.size, fun i hi hne => (k.block i (Nat.lt_of_lt_of_le hi h.size) hne).trans (h.block i hi hne)⟩
theorem grown_refl (A : World) (row : Option Nat) : A.grownBy A row := ⟨rfl, rfl, rfl, Nat.le_refl _, fun _ _ _ => rfl⟩
theorem below_of_none {A B : World} (h : A.grownBy B none) : Below A.heap.size A B := ⟨h.os, h.tape, h.output, h.size, fun k hk => h.block k hk (by simp)⟩

/-- append(a, make([]api.Unit, 64)...) of a full list: a new row -/
theorem append_zeros {W : World} {g N : Nat} (h : RowB W g N) (hN : N ≤ 1048576) : ∃ v' W', (Builtin.append_ #[27, 3] 27 #[.slice (some ⟨g, 0, none⟩) N N, .int .i64 64]).run Tryd.prog W = .ok v' W' ∧ W.grownBy W' none := by
  obtain ⟨i, hi, hz0, hz1, hz2⟩ := info_parts infoU
  obtain ⟨cur, hg, hcs⟩ := h
  have hn : ¬ (N + 64 ≤ N) := by omega
  have hfit := growslice_fits (need := N + 64) (old := N) (bytes := 16) (by omega) (by omega)
  have h48' : ¬ (281474976710656 < Builtin.nextslicecap (N + 64) N * 16) := by omega
  clear hfit
  have hfo := run_firstCells_some (P := Tryd.prog) W.drew 2 N ⟨g, 0, none⟩ N N cur.toList (by simp [hcs]) (fun j v hj => by
    rw [Go.WideShapes.add_plain, Nat.zero_add]
    have hlt := (List.getElem?_eq_some_iff.1 hj).1
    unfold World.cell?
    have e : W.drew.heap = W.heap := rfl
    rw [e]
    simp at hj hlt
    simp [hg, hj])
  have hw : IntKind.i64.wrap (64 : Int) = 64 := by rw [IntKind.wrap_i64]; omega
  have key : ∃ (v' : Value) (o : Obj), (Builtin.append_ #[27, 3] 27 #[.slice (some ⟨g, 0, none⟩) N N, .int .i64 64]).run Tryd.prog W = .ok v' (W.drew.alloc o) := by
    simp [Builtin.append_, run_underlying Tryd.underlying27, run_underlying Tryd.underlying3, sizeOf, typeInfo, zeroValue, hi, hz0, hz1, hz2, asInt, asIntOf, hw, hn, h48', Question.forced, hfo, newRow]
    rw [if_neg (by omega)]
    exact ⟨_, _, rfl⟩
  obtain ⟨v', o, hr⟩ := key
  have hg2 := World.grownBy_alloc W.drew o none
  exact ⟨v', _, hr, ⟨hg2.os, hg2.tape, hg2.output, hg2.size, fun k hk hne => hg2.block k hk hne⟩⟩

/-- what lies where between the statements: the result, b, keep, and their rows -/
structure ST (w : World) (s : ByteArray) (N ga gb gk kc bB bK : Nat) (W : World) : Prop where
  res : Boxed W w.heap.size 4 (.bool false)
  bb : Boxed W bB 27 (.slice (some ⟨gb, 0, none⟩) N N)
  bk : Boxed W bK 27 (.slice (some ⟨gk, 0, none⟩) N kc)
  rowA : RowB W ga N
  rowB : W.ownsRow w.heap.size 32 2 (.slice (some ⟨gb, 0, none⟩) N N) N (ucells s (offs s 0))
  rowK : W.ownsRow w.heap.size 32 2 (.slice (some ⟨gk, 0, none⟩) N kc) N (ucells s (offs s 0))
  bel : Below w.heap.size w W
/-- the order of the blocks -/
def Ord (w : World) (ga gb gk bB bK : Nat) : Prop := w.heap.size < ga ∧ ga < gb ∧ gb < bB ∧ bB < gk ∧ gk < bK
theorem ST.grown {w : World} {s : ByteArray} {N ga gb gk kc bB bK : Nat} {W W' : World} (h : ST w s N ga gb gk kc bB bK W) (ho : Ord w ga gb gk bB bK) (hg : W.grownBy W' (some ga)) (hr : RowB W' ga N) : ST w s N ga gb gk kc bB bK W' := by
  obtain ⟨o1, o2, o3, o4, o5⟩ := ho
  refine ⟨h.res.kept hg (by simp; omega), h.bb.kept hg (by simp; omega), h.bk.kept hg (by simp; omega), hr, h.rowB.kept hg (.inr (by simp [Value.ownBlock]; omega)), h.rowK.kept hg (.inr (by simp [Value.ownBlock]; omega)), h.bel.grown hg h.bel.size (fun k e => by cases e; omega)⟩
theorem ST.below {w : World} {s : ByteArray} {N ga gb gk kc bB bK : Nat} {W W' : World} (h : ST w s N ga gb gk kc bB bK W) (hb : Below W.heap.size W W') : ST w s N ga gb gk kc bB bK W' := by
  have hg : W.grownBy W' none := ⟨hb.os, hb.tape, hb.output, hb.size, fun k hk _ => hb.block k hk⟩
  exact ⟨h.res.kept hg (by simp), h.bb.kept hg (by simp), h.bk.kept hg (by simp), h.rowA.kept hg (by simp), h.rowB.kept hg (.inr (by simp [Value.ownBlock])), h.rowK.kept hg (.inr (by simp [Value.ownBlock])), h.bel.trans (hb.mono h.bel.size)⟩

theorem wp_calm {P : Program} {s : Code} {K : Act → World → Prop} {Q' : Exit → Act → World → Prop} {a : Act} {w : World} (h : s.wp P (Exit.then K (fun _ _ _ => False)) a w) : s.wp P (Exit.then K Q') a w :=
  wp_mono h (fun e _ _ q => by cases e <;> first | exact q | exact False.elim q)
theorem act_name {c : Code} {F : Fence} {n : Nat} {P : Program} {Q : Exit → Act → World → Prop} {a : Act} {w : World} (h : ∀ A, A = a → c.wpIn F n P Q A w) : c.wpIn F n P Q a w := h a rfl
/-- what lies where between two rounds of the range -/
structure FI (w : World) (s : ByteArray) (N gb gk kc bB bK bN k : Nat) (W : World) : Prop where
  res : Boxed W w.heap.size 4 (.bool false)
  bb : Boxed W bB 27 (.slice (some ⟨gb, 0, none⟩) N N)
  bk : Boxed W bK 27 (.slice (some ⟨gk, 0, none⟩) N kc)
  n : Boxed W bN 3 (.int .i64 k)
  rowB : RowB W gb N
  rowK : W.ownsRow w.heap.size 32 2 (.slice (some ⟨gk, 0, none⟩) N kc) N (ucells s (offs s 0))
  bel : Below w.heap.size w W
theorem ne_of_cells {W : World} {row : Option Nat} {g : Nat} {cur : Array Value} {t : TypeId} {fz : Nat × Nat} (h : W.heap[g]? = some (.cells cur t fz)) (hr : ∀ r, row = some r → ∃ o : Obj, W.heap[r]? = some o ∧ o.isCells = false) : row ≠ some g := fun e => by
  obtain ⟨o, ho, hc⟩ := hr g e
  rw [h] at ho; cases ho; cases hc
theorem FI.kept {w : World} {s : ByteArray} {N gb gk kc bB bK bN k : Nat} {W W' : World} {row : Option Nat} (h : FI w s N gb gk kc bB bK bN k W) (hg : W.grownBy W' row) (hr : ∀ r, row = some r → w.heap.size ≤ r ∧ ∃ o : Obj, W.heap[r]? = some o ∧ o.isCells = false) : FI w s N gb gk kc bB bK bN k W' := by
  have hr2 := fun r e => (hr r e).2
  refine ⟨boxed_kept h.res hg hr2, boxed_kept h.bb hg hr2, boxed_kept h.bk hg hr2, boxed_kept h.n hg hr2, ?_, ?_, h.bel.grown hg h.bel.size (fun k e => (hr k e).1)⟩
  · obtain ⟨cur, h1, _⟩ := h.rowB
    exact h.rowB.kept hg (ne_of_cells h1 hr2)
  · rcases h.rowK.2 with ⟨h0, _⟩ | ⟨g, c, cur, hv, _, h1, _⟩
    · cases h0
    · cases hv
      exact h.rowK.kept hg (.inr (fun e => ne_of_cells h1 hr2 (by rw [← e]; rfl)))
theorem FI.alloc {w : World} {s : ByteArray} {N gb gk kc bB bK bN k : Nat} {W : World} (h : FI w s N gb gk kc bB bK bN k W) (o : Obj) : FI w s N gb gk kc bB bK bN k (W.alloc o) := h.kept (World.grownBy_alloc W o none) (fun r e => by cases e)
theorem FI.below {w : World} {s : ByteArray} {N gb gk kc bB bK bN k : Nat} {W W' : World} (h : FI w s N gb gk kc bB bK bN k W) (hb : Below W.heap.size W W') : FI w s N gb gk kc bB bK bN k W' :=
  h.kept (row := none) ⟨hb.os, hb.tape, hb.output, hb.size, fun k hk _ => hb.block k hk⟩ (fun r e => by cases e)
theorem FI.drew {w : World} {s : ByteArray} {N gb gk kc bB bK bN k : Nat} {W : World} (h : FI w s N gb gk kc bB bK bN k W) (m : Nat) : FI w s N gb gk kc bB bK bN k (W.drewN m) :=
  ⟨h.res, h.bb, h.bk, h.n, h.rowB, h.rowK, ⟨h.bel.os, h.bel.tape, h.bel.output, h.bel.size, h.bel.block⟩⟩
theorem FI.step {w : World} {s : ByteArray} {N ga gb gk kc bB bK bN k : Nat} {W : World} (h : FI w s N gb gk kc bB bK bN k W) (ho : Ord w ga gb gk bB bK) (hn : bK < bN) (u0 u1 : Value) :
    FI w s N gb gk kc bB bK bN (k + 1) (((W.setCell ⟨gb, k * 2, none⟩ u0).setCell ⟨gb, k * 2 + 1, none⟩ u1).setCell ⟨bN, 0, none⟩ (.int .i64 ((k : Int) + 1))) := by
  obtain ⟨o1, o2, o3, o4, o5⟩ := ho
  have g1 := grown_trans (set_grown W gb (k * 2) u0) (set_grown _ gb (k * 2 + 1) u1)
  have hn1 := h.n.kept g1 (by simp; omega)
  have g2 := set_grown ((W.setCell ⟨gb, k * 2, none⟩ u0).setCell ⟨gb, k * 2 + 1, none⟩ u1) bN 0 (.int .i64 ((k : Int) + 1))
  refine ⟨(h.res.kept g1 (by simp; omega)).kept g2 (by simp; omega), (h.bb.kept g1 (by simp; omega)).kept g2 (by simp; omega), (h.bk.kept g1 (by simp; omega)).kept g2 (by simp; omega), ?_, ((h.rowB.set _ _).set _ _).kept g2 (by simp; omega), (h.rowK.kept g1 (.inr (by simp [Value.ownBlock]; omega))).kept g2 (.inr (by simp [Value.ownBlock]; omega)), ?_⟩
  · have := hn1.set (.int .i64 ((k : Int) + 1))
    exact_mod_cast this
  · exact ((h.bel.grown g1 h.bel.size (fun k e => by cases e; omega)).grown g2 (by have := h.bel.size; simp; omega) (fun k e => by cases e; omega))

set_option maxRecDepth 100000 in
set_option maxHeartbeats 4000000 in
theorem walk (s : ByteArray) (hs : s.size ≤ 1048576) (w : World) (hT : Lib.Utf8Tabs 0 1 w) (hlo0 : 0 < w.heap.size) (hlo1 : 1 < w.heap.size) :
    Calls Tryd.prog 6 #[.string s] w fun e w' => e = .returned (.bool true) ∧ Below w.heap.size w w' := by
  refine (callsIn_wide (n := 6)).1 ?_
  have hs' : s.size ≤ maxLen := by unfold maxLen; omega
  obtain ⟨i0, hi, hz0, hz1, hz2⟩ := info_parts infoU
  obtain ⟨N, hN⟩ : ∃ N, (offs s 0).length = N := ⟨_, rfl⟩
  have hNs : N ≤ s.size := by rw [← hN]; exact offs_len_le s
  have TT : Hid (∀ W, Below w.heap.size w W → Lib.Utf8Tabs 0 1 W ∧ 0 < W.heap.size ∧ 1 < W.heap.size) := fun W hb => ⟨tabs_below hT hb, Nat.lt_of_lt_of_le hlo0 hb.size, Nat.lt_of_lt_of_le hlo1 hb.size⟩
  have CU : Hid (∀ W, Below w.heap.size w W → Calls Tryd.prog 10 #[.string s] W fun e W' => ∃ g, e = .returned (.slice (some ⟨g, 0, none⟩) N N) ∧ W'.ownsRow W.heap.size 32 2 (.slice (some ⟨g, 0, none⟩) N N) N (ucells s (offs s 0)) ∧ Below W.heap.size W W') := fun W hb => by
    obtain ⟨t1, t2, t3⟩ := TT.out W hb
    have := units_any s hs' (by omega) W t1 t2 t3
    rw [hN] at this
    exact this
  have CC : Hid (∀ W, Below w.heap.size w W → Calls Tryd.prog 8 #[] W fun e W' => e = .returned (.bool true) ∧ Below W.heap.size W W') := fun W hb => by
    obtain ⟨t1, t2, t3⟩ := TT.out W hb
    exact cuts_any W t1 t2 t3
  have hfn := func_nil
  have HN : Hid ((offs s 0).length = N) := hN
  have hcl : (ucells s (offs s 0)).length = N * 2 := by rw [ucells_len, hN]
  have T1 : Hid True := trivial
  clear hN hT
  refine callsIn_of_wp_marks Tryd.func6 rfl trivial ?_ rfl
  simp only [Tryd.ntmps6, List.size_toArray, List.length_cons, List.length_nil, Nat.reduceAdd, Nat.reduceSub, Array.replicate_succ, Array.replicate_zero, List.push_toArray, List.append_toArray, List.nil_append, List.cons_append]
  refine wpIn_wide.2 ?_
  have T2 : Hid True := trivial
  go_wp2_with (first | (go_at_call 8; refine (CC.out _ ((Below.refl _ w).alloc (Nat.le_refl _) _)).mono ?_; rintro e w1 ⟨rfl, hb1⟩; have bR1 : Hid (Boxed w1 w.heap.size 4 (.bool false)) := (Boxed.new w 4 (.bool false)).kept (row := none) ⟨hb1.os, hb1.tape, hb1.output, hb1.size, fun k hk _ => hb1.block k hk⟩ (by simp); have hB1 : Hid (Below w.heap.size w w1) := ((Below.refl _ w).alloc (Nat.le_refl _) _).trans (hb1.mono (by simp)); have hz1' : Hid (w.heap.size < w1.heap.size) := (by have := hb1.size; simp at this; exact this); clear hb1) | (go_at_call 10; have hq := T1; clear hq T1; refine (CU.out _ hB1.out).mono ?_; rintro e w2 ⟨ga, rfl, rowA, hb2⟩; have RA : Hid (w2.ownsRow w1.heap.size 32 2 (.slice (some ⟨ga, 0, none⟩) N N) N (ucells s (offs s 0))) := rowA; have HB2 : Hid (Below w1.heap.size w1 w2) := hb2; clear rowA hb2) | (go_at_call 10; refine (CU.out _ (hB1.out.trans (HB2.out.mono hB1.out.size))).mono ?_; rintro e w3 ⟨gb, rfl, rowB, hb3⟩; have OW := World.ownsRow_lit (base := w3.heap.size + 1) (e := 32) (size := 2) (w3.alloc (.cells #[.slice (some ⟨gb, 0, none⟩) N N] 27)) #[] 0 (by simp) (by unfold maxLen; omega) rfl; rw [World.size_alloc] at OW; have OW1 : Hid (((w3.alloc (.cells #[.slice (some ⟨gb, 0, none⟩) N N] 27)).alloc (.cells #[] 32)).ownsRow (w3.heap.size + 1) 32 2 (.slice (some ⟨w3.heap.size + 1, 0, none⟩) 0 0) 0 []) := OW; have RB : Hid (w3.ownsRow w2.heap.size 32 2 (.slice (some ⟨gb, 0, none⟩) N N) N (ucells s (offs s 0))) := rowB; have HB3 : Hid (Below w2.heap.size w2 w3) := hb3; clear rowB hb3 OW) | (at_builtin; have hq := T2; clear hq T2; refine wpList_append_own _ rfl _ _ 27 rfl (w3.heap.size + 1) 32 i0 (.agg #[.int .i32 0, .int .i64 0]) 2 16 Tryd.underlying27 hi hz0 hz1 hz2 rfl (by decide) _ _ _ rfl OW1.out ⟨gb, 0, none⟩ N N (ucells s (offs s 0)) rfl hcl (((RB.out.alloc _).alloc _).cells rfl) (ucells_one s _) (by unfold maxLen; omega) (by omega) (by simp) ?_; intro v6 w6 row6 hg6 hnil; obtain ⟨gk, kc, rfl, hgk⟩ : ∃ gk kc, v6 = .slice (some ⟨gk, 0, none⟩) N kc ∧ w3.heap.size + 1 ≤ gk := (by rcases row6.2 with ⟨h0, _⟩ | ⟨g, c, cur, hv, hb, _⟩; exact absurd (hnil.1 h0).1 (fun e => by cases e); exact ⟨g, c, by rw [hv, Nat.zero_add], hb⟩); have HG6 : Hid (((w3.alloc (.cells #[.slice (some ⟨gb, 0, none⟩) N N] 27)).alloc (.cells #[] 32)).grownBy w6 (Value.ownBlock (.slice (some ⟨w3.heap.size + 1, 0, none⟩) 0 0))) := hg6; have R6 : Hid (w6.ownsRow (w3.heap.size + 1) 32 2 (.slice (some ⟨gk, 0, none⟩) N kc) (0 + N) ([] ++ ucells s (offs s 0))) := row6; clear hg6 row6 hnil))
  have hoA := RA.out.lt ga rfl
  have hoB := RB.out.lt gb rfl
  have hoK := R6.out.lt gk rfl
  have hb2s := HB2.out.size
  have hb3s := HB3.out.size
  have hord : Ord w ga gb gk w3.heap.size w6.heap.size := ⟨by have := hz1'.out; omega, by omega, by omega, by omega, by omega⟩
  have hB3 : Below w.heap.size w w3 := (hB1.out.trans (HB2.out.mono hB1.out.size)).trans (HB3.out.mono (by have := hB1.out.size; omega))
  have hst : ST w s N ga gb gk kc w3.heap.size w6.heap.size (w6.alloc (.cells #[.slice (some ⟨gk, 0, none⟩) N kc] 27)) := by
    have g6 := HG6.out
    have r6 := R6.out
    rw [Nat.zero_add, List.nil_append] at r6
    have hown : Value.ownBlock (.slice (some ⟨w3.heap.size + 1, 0, none⟩) 0 0) = some (w3.heap.size + 1) := rfl
    rw [hown] at g6
    have hn2 : (w1.grownBy w2 none) := ⟨HB2.out.os, HB2.out.tape, HB2.out.output, HB2.out.size, fun k hk _ => HB2.out.block k hk⟩
    have hn3 : (w2.grownBy w3 none) := ⟨HB3.out.os, HB3.out.tape, HB3.out.output, HB3.out.size, fun k hk _ => HB3.out.block k hk⟩
    have hws := hB1.out.size
    refine ⟨?_, ?_, Boxed.new w6 27 _, ?_, ?_, ?_, ?_⟩
    · exact ((((((bR1.out.kept hn2 (by simp)).kept hn3 (by simp)).alloc _).alloc _).kept g6 (by simp; omega)).alloc _)
    · exact (((Boxed.new w3 27 _).alloc _).kept g6 (by simp)).alloc _
    · have := ((((RowB.of_own (RA.out)).kept hn3 (by simp)).kept (World.grownBy_alloc w3 (.cells #[.slice (some ⟨gb, 0, none⟩) N N] 27) none) (by simp)).kept (World.grownBy_alloc _ (.cells #[] 32) none) (by simp)).kept g6 (by simp; omega)
      exact this.kept (World.grownBy_alloc w6 _ none) (by simp)
    · exact row_mono ((((RB.out.alloc _).alloc _).kept g6 (.inr (by simp [Value.ownBlock]; omega))).alloc _) (by omega)
    · exact row_mono (r6.alloc _) (by omega)
    · exact (((hB3.alloc hB3.size _).alloc (by have := hB3.size; simp; omega) _).grown g6 (by have := hB3.size; simp; omega) (fun k e => by cases e; have := hB3.size; omega)).alloc (by have := hB3.size; omega) _
  have hwk := hst.bel.size
  obtain ⟨bB, hbB⟩ : ∃ bB, w3.heap.size = bB := ⟨_, rfl⟩
  obtain ⟨bK, hbK⟩ : ∃ bK, w6.heap.size = bK := ⟨_, rfl⟩
  obtain ⟨Wl, hWl⟩ : ∃ Wl, w6.alloc (.cells #[.slice (some ⟨gk, 0, none⟩) N kc] 27) = Wl := ⟨_, rfl⟩
  rw [hbB, hbK] at hst hord
  rw [hWl] at hst
  rw [hbB, hbK, hWl]
  clear hbB hbK hWl OW1 RA RB R6 HG6 HB2 HB3 hB1 bR1 hz1' hoA hoB hoK hb2s hb3s hB3 hwk
  have HO : Hid (Ord w ga gb gk bB bK) := hord
  have HS : Hid (ST w s N ga gb gk kc bB bK Wl) := hst
  clear hord hst hgk
  go_loopw [23] (fun t wr => ∃ k : Nat, t = .int .i64 k ∧ k ≤ N ∧ ST w s N ga gb gk kc bB bK wr) (fun t _ => N - (intOf t).toNat)
  case atStart => exact ⟨0, rfl, by omega, HS.out⟩
  case round =>
    obtain ⟨k, rfl, hk, hst⟩ := hrel
    clear HS
    have HS : Hid (ST w s N ga gb gk kc bB bK wr) := hst
    by_cases hlt : k < N
    · obtain ⟨c0, f0⟩ := hst.rowA.cell (j := k * 2) (by omega)
      obtain ⟨c1, f1⟩ := hst.rowA.cell (j := k * 2 + 1) (by omega)
      obtain ⟨u0, hu0⟩ := Option.isSome_iff_exists.1 c0
      obtain ⟨u1, hu1⟩ := Option.isSome_iff_exists.1 c1
      clear hst c0 c1
      go_wp2
      go_roundw
      case rel => exact ⟨k + 1, by go_num, by omega, HS.out.grown HO.out (grown_trans (set_grown wr ga (k * 2) _) (set_grown _ ga (k * 2 + 1) _)) ((HS.out.rowA.set (k * 2) _).set (k * 2 + 1) _)⟩
      case measure => simp [intOf]; omega
    · clear hst
      go_wp2
      obtain ⟨Wm, hWm⟩ : ∃ Wm, wr = Wm := ⟨_, rfl⟩
      rw [hWm] at HS ⊢
      clear hWm
      obtain ⟨xsA, hxA⟩ := HS.out.rowA.owns (base := w.heap.size) (by have := HO.out.1; omega) (by omega)
      have HXA : Hid (Wm.ownsRow w.heap.size 32 2 (.slice (some ⟨ga, 0, none⟩) N N) N xsA) := hxA
      clear hxA
      have hxl : xsA.length = N * 2 := HXA.out.1
      go_loopw [7, 32] (fun v t wr => ∃ k : Nat, t = .int .i64 k ∧ k ≤ 16 ∧ ((k = 0 ∧ v = .slice (some ⟨ga, 0, none⟩) N N) ∨ ∃ xs, wr.ownsRow Wm.heap.size 32 2 v (N + k) xs) ∧ Below Wm.heap.size Wm wr) (fun _ t _ => 16 - (intOf t).toNat)
      case atStart => exact ⟨0, rfl, by omega, .inl ⟨rfl, rfl⟩, Below.refl _ _⟩
      case round =>
        obtain ⟨k, rfl, hk, hv, hB⟩ := hrel
        have hBs := hB.size
        by_cases hlt2 : k < 16
        · rcases hv with ⟨rfl, rfl⟩ | ⟨xs, hxs⟩
          · have hx2 := (row_below HXA.out hB).alloc (.cells #[.int .i32 8, .int .i64 0] 32)
            have HX2 : Hid ((wr.alloc (.cells #[.int .i32 8, .int .i64 0] 32)).ownsRow w.heap.size 32 2 (.slice (some ⟨ga, 0, none⟩) N N) N xsA) := hx2
            clear hx2
            have HB : Hid (Below Wm.heap.size Wm wr) := hB
            clear hB
            go_wp2_with (at_builtin; refine wpList_append_grows _ rfl _ _ 27 rfl 32 i0 (.agg #[.int .i32 0, .int .i64 0]) 2 16 Tryd.underlying27 hi hz0 hz1 hz2 rfl (by decide) (some ⟨ga, 0, none⟩) N N xsA rfl (fun e => by cases e) hxl (fun b e => by cases e; exact HX2.out.cells rfl) ⟨wr.heap.size, 0, none⟩ 1 1 [.int .i32 8, .int .i64 0] rfl rfl (cell_two_new _ _ _ _) (by simp [Value.oneCell']) (by omega) (by unfold maxLen; omega) (by omega) ?_; intro v3 w3 hrow3 hg3)
            exact ⟨⟨1, by go_num, by omega, .inr ⟨_, row_mono hrow3 (by simp; omega)⟩, (HB.out.alloc hBs _).trans ((below_of_none hg3).mono (by simp; omega))⟩, by simp [intOf]⟩
          · have HX : Hid ((wr.alloc (.cells #[.int .i32 8, .int .i64 0] 32)).ownsRow Wm.heap.size 32 2 _ (N + k) xs) := hxs.alloc _
            have HXS : Hid (∀ j, Value.ownBlock _ = some j → Wm.heap.size ≤ j ∧ j < wr.heap.size) := hxs.lt
            have HB : Hid (Below Wm.heap.size Wm wr) := hB
            clear hB hxs
            go_wp2_with (at_builtin; refine wpList_append_own _ rfl _ _ 27 rfl Wm.heap.size 32 i0 (.agg #[.int .i32 0, .int .i64 0]) 2 16 Tryd.underlying27 hi hz0 hz1 hz2 rfl (by decide) _ (N + k) _ rfl HX.out ⟨wr.heap.size, 0, none⟩ 1 1 [.int .i32 8, .int .i64 0] rfl rfl (cell_two_new _ _ _ _) (by simp [Value.oneCell']) (by unfold maxLen; omega) (by omega) (by simp; omega) ?_; intro v3 w3 hrow3 hg3 _)
            exact ⟨⟨k + 1, by go_num, by omega, .inr ⟨_, by rw [← Nat.add_assoc]; exact hrow3⟩, (HB.out.alloc hBs _).grown hg3 (by simp; omega) (fun j e => (HXS.out j e).1)⟩, by simp [intOf]; omega⟩
        · clear hv
          have hst := HS.out.below hB
          obtain ⟨v7, w7, run7, g7⟩ := append_zeros hst.rowA (by omega)
          have hst7 := hst.below (below_of_none g7)
          have cb7 := hst7.bb.cell
          have ck7 := hst7.bk.cell
          have cA : Calls Tryd.prog 11 #[.slice (some ⟨gb, 0, none⟩) N N, .slice (some ⟨gk, 0, none⟩) N kc] w7 fun e w' => e = .returned (.bool true) ∧ Below w7.heap.size w7 w' := alike_any (by unfold maxLen; omega) (Rd.of_own HN.out hst7.rowB) (Rd.of_own HN.out hst7.rowK)
          clear HS hst g7 hB HXA hxl
          have HS7 : Hid (ST w s N ga gb gk kc bB bK w7) := hst7
          clear hst7
          go_wp2_with (first | (at_builtin; refine Lib.wpList_append_run _ rfl _ _ 27 3 rfl _ _ rfl rfl _ _ run7 ?_; clear run7) | (go_at_call 11; refine cA.mono ?_; clear cA; rintro e w8 ⟨rfl, hb8⟩; have HS8 : Hid (ST w s N ga gb gk kc bB bK w8) := HS7.out.below hb8; clear hb8) | (go_at_call 17; refine (walk_any _ _).mono ?_; rintro e w9 ⟨rfl, rfl⟩))
          have hs8 := HS8.out.bk.lt
          obtain ⟨W0, hW0⟩ : ∃ W0, (w8.alloc (.cells #[.string s] 9)).alloc (.cells #[.int .i64 0] 3) = W0 := ⟨_, rfl⟩
          have hsz : W0.heap.size = w8.heap.size + 2 := by rw [← hW0]; simp
          have hB08 : Below w8.heap.size w8 W0 := by rw [← hW0]; exact ((Below.refl _ w8).alloc (Nat.le_refl _) _).alloc (by simp) _
          have bS : Boxed W0 w8.heap.size 9 (.string s) := by rw [← hW0]; exact (Boxed.new w8 9 (.string s)).alloc _
          have bN : Boxed W0 (w8.heap.size + 1) 3 (.int .i64 0) := by
            rw [← hW0]
            have := Boxed.new (w8.alloc (.cells #[.string s] 9)) 3 (.int .i64 0)
            rwa [World.size_alloc] at this
          have hS0 := HS8.out.below hB08
          have hF0 : FI w s N gb gk kc bB bK (w8.heap.size + 1) 0 W0 := ⟨hS0.res, hS0.bb, hS0.bk, bN, RowB.of_own hS0.rowB, hS0.rowK, hS0.bel⟩
          have hlgb := (hS0.rowB.lt gb rfl).2
          have hBz := HS8.out.bel.size
          rw [hW0]
          clear hW0 bN HS7
          refine (wpIn_wide (n := 6)).1 (act_name fun A hA => ?_)
          have hge : A.eval (.tmp 49) = .func (.func 20) #[] #[.pointer (some ⟨w8.heap.size, 0, none⟩)] := by rw [hA]; rfl
          obtain ⟨tt1, tt2, tt3⟩ := TT.out W0 hS0.bel
          have HF0 : Hid (FI w s N gb gk kc bB bK (w8.heap.size + 1) 0 W0) := hF0
          clear hF0 hS0
          have ho2 : gb < bB ∧ bB < gk ∧ gk < bK ∧ w.heap.size < gb := ⟨HO.out.2.2.1, HO.out.2.2.2.1, HO.out.2.2.2.2, by have := HO.out.1; have := HO.out.2.1; omega⟩
          refine wpIn_rangeFunc_ownH rfl (by omega) (gf := 20) (lb := #[.pointer (some ⟨w8.heap.size, 0, none⟩)]) hge trivial (enters_of Tryd.func20 (by kernel_rfl) rfl)
            (walkM_stops (6 - 1) (by omega) w8.heap.size (fun k => k = gb ∨ k = w8.heap.size + 1) s hs' (by omega) (by omega) (by omega) W0 (fun k hk h => by omega) bS.cell tt1) KpM.trans (fun W l o o' _ hl ho _ => KpM.putObj W l o o' hl ho) (Below.refl _ _) (fun _ => rfl)
            (fun pre W => FI w s N gb gk kc bB bK (w8.heap.size + 1) pre.length W)
            (fun _ pre _ => ¬ pre <+: offs s 0)
            (fun pre X Y row h hg hr => h.kept hg (fun r e => ⟨by have := (hr r e).1; omega, (hr r e).2⟩))
            (fun _ _ _ _ _ h _ _ => h)
            HF0.out
            (fun x a' W => ∃ Bx, W0.heap.size ≤ Bx ∧ W.cell? ⟨Bx, 0, none⟩ = some (.int .i32 (ch s x)) ∧ W.cell? ⟨Bx, 1, none⟩ = some (.int .i64 (sz s x)) ∧
              a' = { tmps := (((#[50, 51] : Array Tmp).zip (enc2 s x)).foldl (fun t (p, v) => t.setIfInBounds p v) A.tmps).setIfInBounds 11 (.pointer (some ⟨Bx, 0, none⟩)), defers := [] })
            (fun x a' => fun _ A B row hs hg hr => by obtain ⟨Bx, h1, h2, h3, h4⟩ := hs; exact ⟨Bx, h1, cell_kept h2 hg (fun r e => (hr r e).2), cell_kept h3 hg (fun r e => (hr r e).2), h4⟩)
            ?assign ?body ?done ?stop
          case assign =>
            rintro l pre x W K hF hK
            have hlt := hF.n.lt
            subst hA
            gi_wp2
            exact hK _ _ ((KeepsOthers.alloc _ _).from _) (KpM.of_below ((Below.refl _ W).alloc (Nat.le_refl _) _)) (hF.alloc _) ⟨W.heap.size, by omega, by simp, by simp, by first | rfl | simp [enc2]⟩
          case body =>
            rintro l pre x a' W hl ⟨r, hr⟩ hF ⟨Bx, hBx, cx0, cx1, rfl⟩ hlt
            rw [HN.out] at hlt
            obtain ⟨e1, e2⟩ := ucells_get s (offs s 0) pre.length (by rw [HN.out]; exact hlt)
            have d0 := (hF.rowK.cellAt (pre.length * 2) (by omega)).trans e1
            have d1 := (hF.rowK.cellAt (pre.length * 2 + 1) (by omega)).trans e2
            unfold chAt at d0
            unfold szAt at d1
            have cK := hF.bk.cell
            have cN := hF.n.cell
            have cB := hF.bb.cell
            have t1 : decide ((N : Int) ≤ (pre.length : Int)) = false := by simp; omega
            have t1n : decide (N ≤ pre.length) = false := by simp; omega
            clear e1 e2
            obtain ⟨ok, hok⟩ : ∃ ok, (offs s 0).getD pre.length 0 = ok := ⟨_, rfl⟩
            rw [hok] at d0 d1
            subst hA
            have hgn : gb < w8.heap.size := by have := ho2; omega
            have hgne : ¬ (gb = w8.heap.size + 1) := by omega
            have hgne2 : ¬ (w8.heap.size + 1 = gb) := by omega
            by_cases hx : ch s x = ch s ok ∧ sz s x = sz s ok
            · rw [hx.1] at cx0
              rw [hx.2] at cx1
              clear hx
              gi_wp2
              refine region_quiet (by kernel_rfl) (by kernel_rfl) (by kernel_rfl) ?_
              repeat (gi_big_quiet_step (fail))
              refine wpQuietIn_nil ?_
              intro _ hw'
              obtain ⟨nq, hw''⟩ := hw'
              subst hw''
              have hKF : KeepsFrom W0.heap.size W (W.drewN nq) := ⟨Nat.le_refl _, fun _ _ _ h _ => h⟩
              have hKM : KpM (fun k => k = gb ∨ k = w8.heap.size + 1) W (W.drewN nq) := ⟨Nat.le_refl _, fun _ _ _ h _ => h⟩
              have hFX := hF.drew nq
              obtain ⟨X, hX⟩ : ∃ X, W.drewN nq = X := ⟨_, rfl⟩
              rw [hX] at hKF hKM hFX ⊢
              clear hX cK cN cB d0 d1 cx0 cx1 t1 t1n
              obtain ⟨c0, f0⟩ := hFX.rowB.cell (j := pre.length * 2) (by omega)
              obtain ⟨c1, f1⟩ := hFX.rowB.cell (j := pre.length * 2 + 1) (by omega)
              obtain ⟨u0, hu0⟩ := Option.isSome_iff_exists.1 c0
              obtain ⟨u1, hu1⟩ := Option.isSome_iff_exists.1 c1
              clear c0 c1
              have cN := hFX.n.cell
              have fN := hFX.n.frozen
              have cB := hFX.bb.cell
              have HFX : Hid (FI w s N gb gk kc bB bK (w8.heap.size + 1) pre.length X) := hFX
              have HKF : Hid (KeepsFrom W0.heap.size W X) := hKF
              have HKM : Hid (KpM (fun k => k = gb ∨ k = w8.heap.size + 1) W X) := hKM
              clear hFX hKF hKM
              gi_wp2
              exact ⟨HKF.out.trans ((((KeepsOthers.setCell _ _ _).trans (KeepsOthers.setCell _ _ _)).trans (KeepsOthers.setCell _ _ _)).from _), ((HKM.out.trans (KpM.of_grown (set_grown _ gb _ _) (fun r e => by cases e; exact .inl rfl))).trans (KpM.of_grown (set_grown _ gb _ _) (fun r e => by cases e; exact .inl rfl))).trans (KpM.of_grown (set_grown _ (w8.heap.size + 1) _ _) (fun r e => by cases e; exact .inr rfl)), by show FI w s N gb gk kc bB bK (w8.heap.size + 1) (pre ++ [x]).length _; rw [List.length_append]; exact HFX.out.step HO.out (by omega) _ _⟩
            · have hpx : ¬ (pre ++ [x] <+: offs s 0) := fun hp => by
                obtain ⟨q, hq⟩ := hp
                rw [← hq] at hok
                simp at hok
                subst hok
                exact hx ⟨rfl, rfl⟩
              have cR := hF.res.cell
              have fR := hF.res.frozen
              by_cases h1 : ch s x = ch s ok
              · have h2 : ¬ ((sz s x : Int) = (sz s ok : Int)) := fun e => hx ⟨h1, by exact_mod_cast e⟩
                rw [h1] at cx0
                clear h1 hx
                gi_wp2
                refine region_quiet (by kernel_rfl) (by kernel_rfl) (by kernel_rfl) ?_
                repeat (gi_big_quiet_step (fail))
                refine wpQuietIn_nil ?_
                intro _ hw'
                obtain ⟨nq, hw''⟩ := hw'
                subst hw''
                have fR' : (W.drewN nq).frozen? ⟨w.heap.size, 0, none⟩ = false := fR
                have cR' : (W.drewN nq).cell? ⟨w.heap.size, 0, none⟩ = some (.bool false) := cR
                gi_wp2
                exact ⟨KeepsFrom.trans (show KeepsFrom W0.heap.size W (W.drewN nq) from ⟨Nat.le_refl _, fun _ _ _ h _ => h⟩) ((KeepsOthers.setCell _ _ _).from _), hpx⟩
              · clear hx
                gi_wp2
                refine region_quiet (by kernel_rfl) (by kernel_rfl) (by kernel_rfl) ?_
                repeat (gi_big_quiet_step (fail))
                refine wpQuietIn_nil ?_
                intro _ hw'
                obtain ⟨nq, hw''⟩ := hw'
                subst hw''
                have fR' : (W.drewN nq).frozen? ⟨w.heap.size, 0, none⟩ = false := fR
                have cR' : (W.drewN nq).cell? ⟨w.heap.size, 0, none⟩ = some (.bool false) := cR
                gi_wp2
                exact ⟨KeepsFrom.trans (show KeepsFrom W0.heap.size W (W.drewN nq) from ⟨Nat.le_refl _, fun _ _ _ h _ => h⟩) ((KeepsOthers.setCell _ _ _).from _), hpx⟩
          case done =>
            rintro D ys W hD rfl hF hK
            rw [HN.out] at hF
            subst hA
            have hDl : D < W.heap.size := (Array.getElem?_eq_some_iff.1 hK).1
            have HFd : Hid (FI w s N gb gk kc bB bK (w8.heap.size + 1) N W.drew) := ⟨hF.res, hF.bb, hF.bk, hF.n, hF.rowB, hF.rowK, ⟨hF.bel.os, hF.bel.tape, hF.bel.output, hF.bel.size, hF.bel.block⟩⟩
            have HKd : Hid (W.drew.heap[D]? = some (.deferred (some []))) := hK
            have HDl : Hid (D < W.drew.heap.size) := hDl
            have cKd := HFd.out.bk.cell
            have cNd := HFd.out.n.cell
            clear hF hK hDl
            go_wp2
            refine wp_calm ?_
            go_region_with (first | (go_at_call 10; refine (CU.out _ HFd.out.bel).mono ?_; rintro e wu ⟨gu, rfl, rowU, hbu⟩; have HFu : Hid (FI w s N gb gk kc bB bK (w8.heap.size + 1) N wu) := HFd.out.below hbu; have cKu := HFu.out.bk.cell; have RU : Hid (wu.ownsRow W.drew.heap.size 32 2 (.slice (some ⟨gu, 0, none⟩) N N) N (ucells s (offs s 0))) := rowU; have HKu : Hid (wu.heap[D]? = some (.deferred (some []))) := (hbu.block D HDl.out).trans HKd.out; clear rowU hbu) | (go_at_call 11; have cA : Calls Tryd.prog 11 #[.slice (some ⟨gu, 0, none⟩) N N, .slice (some ⟨gk, 0, none⟩) N kc] wu fun e w' => e = .returned (.bool true) ∧ Below wu.heap.size wu w' := alike_any (by unfold maxLen; omega) (Rd.of_own HN.out RU.out) (Rd.of_own HN.out HFu.out.rowK); refine cA.mono ?_; clear cA; rintro e wa ⟨rfl, hba⟩; have HFa : Hid (FI w s N gb gk kc bB bK (w8.heap.size + 1) N wa) := HFu.out.below hba; have cRa := HFa.out.res.cell; have fRa := HFa.out.res.frozen; have HKa : Hid (wa.heap[D]? = some (.deferred (some []))) := (hba.block D (Array.getElem?_eq_some_iff.1 HKu.out).1).trans HKu.out; clear hba))
            all_goals
              have bR := HFa.out.res.set (.bool true)
              have hK' : (wa.setCell ⟨w.heap.size, 0, none⟩ (.bool true)).heap[D]? = some (.deferred (some [])) := (KeepsOthers.setCell _ _ _).same D _ HKa.out rfl
              have cR2 : ((wa.setCell ⟨w.heap.size, 0, none⟩ (.bool true)).putObj D (.deferred none)).cell? ⟨w.heap.size, 0, none⟩ = some (.bool true) := cell_kept bR.cell (grownBy_putObj' _ D (.deferred none)) (fun r e => by cases e; exact ⟨_, hK', rfl⟩)
              go_wp2
              refine ⟨by simp, .inl ⟨_, _, rfl, run_takeDeferred hK', ?_⟩⟩
              exact ⟨_, (by simp [results, Tryd.results6, go_sem, cR2]), rfl, (HFa.out.bel.setCell (p := ⟨w.heap.size, 0, none⟩) (by simp) _).trans (belowK_b (w := w) (Nat.le_refl _) _ D _ _ (by omega) hK' rfl rfl)⟩
          case stop =>
            rintro D c pre W _ hSp h _
            exact absurd hSp h

theorem walk_of {H : Type} (s : ByteArray) (w : World) (hT : Lib.Utf8Tabs 0 1 w) (hlo0 : 0 < w.heap.size) (hlo1 : 1 < w.heap.size) (_hs : s.size ≤ 140737488351232) (hk : Rows.uptoSmall H ([DataW.lit (.string s.data.toList)] ++ []) = true) :
    Calls Tryd.prog 6 #[.string s] w fun e w' => e = .returned (.bool true) ∧ Below w.heap.size w w' := by
  have h : Rows.uptoBulkAll ([DataW.lit (H := H) (.string s.data.toList)] ++ []) ≤ 1048576 := of_decide_eq_true hk
  simp only [List.append_nil, Rows.uptoBulkAll, Rows.uptoBulk] at h
  exact walk s (by rw [Lib.size_eq]; omega) w hT hlo0 hlo1
end Go.Proofs.YtadgbbnkhjapnabDoor.unitFresh
