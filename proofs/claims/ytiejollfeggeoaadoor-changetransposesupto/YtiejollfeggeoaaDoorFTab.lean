/-
  Package change's table of kinds, and makerOf. No conditions.
-/
import Derived.Test.YtiejollfeggeoaaDoorFBas
import Derived.Test.YtiejollfeggeoaaDoorVWalkB
import Derived.Great.Walk
import Derived.Laws.EntriesVeiled
namespace Go.Proofs.YtiejollfeggeoaaDoor
open Go.RowKit Go.Great Go.Shelf Wid

/-- the table: kinds and functions; the closures' boxes begin at b -/
def kds (b : Nat) : List (Int × Value) := [(14, .func (.func 69) #[] #[.pointer (some ⟨b + 0, 0, none⟩)]), (15, .func (.func 69) #[] #[.pointer (some ⟨b + 1, 0, none⟩)]), (16, .func (.func 72) #[] #[.pointer (some ⟨b + 2, 0, none⟩)]), (17, .func (.func 72) #[] #[.pointer (some ⟨b + 3, 0, none⟩)]), (18, .func (.func 72) #[] #[.pointer (some ⟨b + 4, 0, none⟩)]), (19, .func (.func 49) #[] #[]), (20, .func (.func 50) #[] #[]), (21, .func (.func 51) #[] #[]), (24, .func (.func 52) #[] #[]), (25, .func (.func 53) #[] #[]), (26, .func (.func 79) #[] #[.pointer (some ⟨b + 5, 0, none⟩)]), (27, .func (.func 79) #[] #[.pointer (some ⟨b + 6, 0, none⟩)]), (28, .func (.func 79) #[] #[.pointer (some ⟨b + 7, 0, none⟩)])]
def krow (p : Int × Value) : Value := .agg #[.int .i64 p.1, p.2]
def kcells (b : Nat) : Array Value := #[.int .i64 14, .func (.func 69) #[] #[.pointer (some ⟨b + 0, 0, none⟩)], .int .i64 15, .func (.func 69) #[] #[.pointer (some ⟨b + 1, 0, none⟩)], .int .i64 16, .func (.func 72) #[] #[.pointer (some ⟨b + 2, 0, none⟩)], .int .i64 17, .func (.func 72) #[] #[.pointer (some ⟨b + 3, 0, none⟩)], .int .i64 18, .func (.func 72) #[] #[.pointer (some ⟨b + 4, 0, none⟩)], .int .i64 19, .func (.func 49) #[] #[], .int .i64 20, .func (.func 50) #[] #[], .int .i64 21, .func (.func 51) #[] #[], .int .i64 24, .func (.func 52) #[] #[], .int .i64 25, .func (.func 53) #[] #[], .int .i64 26, .func (.func 79) #[] #[.pointer (some ⟨b + 5, 0, none⟩)], .int .i64 27, .func (.func 79) #[] #[.pointer (some ⟨b + 6, 0, none⟩)], .int .i64 28, .func (.func 79) #[] #[.pointer (some ⟨b + 7, 0, none⟩)]]
def kzero : Array Value := #[.int .i64 0, .nilFunc, .int .i64 0, .nilFunc, .int .i64 0, .nilFunc, .int .i64 0, .nilFunc, .int .i64 0, .nilFunc, .int .i64 0, .nilFunc, .int .i64 0, .nilFunc, .int .i64 0, .nilFunc, .int .i64 0, .nilFunc, .int .i64 0, .nilFunc, .int .i64 0, .nilFunc, .int .i64 0, .nilFunc, .int .i64 0, .nilFunc]
/-- the boxes -/
structure Kb (b : Nat) (W : World) : Prop where
  c0 : W.cell? ⟨b + 0, 0, none⟩ = some (.func (.func 32) #[] #[])
  c1 : W.cell? ⟨b + 1, 0, none⟩ = some (.func (.func 44) #[] #[])
  c2 : W.cell? ⟨b + 2, 0, none⟩ = some (.func (.func 46) #[] #[])
  c3 : W.cell? ⟨b + 3, 0, none⟩ = some (.func (.func 47) #[] #[])
  c4 : W.cell? ⟨b + 4, 0, none⟩ = some (.func (.func 48) #[] #[])
  c5 : W.cell? ⟨b + 5, 0, none⟩ = some (.func (.func 55) #[] #[])
  c6 : W.cell? ⟨b + 6, 0, none⟩ = some (.func (.func 56) #[] #[])
  c7 : W.cell? ⟨b + 7, 0, none⟩ = some (.func (.func 57) #[] #[])
  lt : b + 7 < W.heap.size
theorem Kb.below {b : Nat} {W X : World} (h : Kb b W) (hb : Below W.heap.size W X) : Kb b X := by
  have hl := h.lt
  exact ⟨(hb.cell (p := ⟨b + 0, 0, none⟩) (by show b + 0 < _; omega)).trans h.c0, (hb.cell (p := ⟨b + 1, 0, none⟩) (by show b + 1 < _; omega)).trans h.c1, (hb.cell (p := ⟨b + 2, 0, none⟩) (by show b + 2 < _; omega)).trans h.c2, (hb.cell (p := ⟨b + 3, 0, none⟩) (by show b + 3 < _; omega)).trans h.c3, (hb.cell (p := ⟨b + 4, 0, none⟩) (by show b + 4 < _; omega)).trans h.c4, (hb.cell (p := ⟨b + 5, 0, none⟩) (by show b + 5 < _; omega)).trans h.c5, (hb.cell (p := ⟨b + 6, 0, none⟩) (by show b + 6 < _; omega)).trans h.c6, (hb.cell (p := ⟨b + 7, 0, none⟩) (by show b + 7 < _; omega)).trans h.c7, Nat.lt_of_lt_of_le hl hb.size⟩
set_option maxRecDepth 100000 in
theorem deleting_any (w : World) (f b : Nat) (hb : w.heap.size = b) : Calls Tryd.prog 43 #[.func (.func f) #[] #[]] w fun e W' => e = .returned (.func (.func 69) #[] #[.pointer (some ⟨b, 0, none⟩)]) ∧ W' = w.alloc (.cells #[.func (.func f) #[] #[]] 111) := by
  subst hb
  go_enter Tryd.func43, Tryd.ntmps43
  go_wp2
  go_ret
  exact ⟨rfl, rfl⟩
set_option maxRecDepth 100000 in
theorem killing_any (w : World) (f b : Nat) (hb : w.heap.size = b) : Calls Tryd.prog 45 #[.func (.func f) #[] #[]] w fun e W' => e = .returned (.func (.func 72) #[] #[.pointer (some ⟨b, 0, none⟩)]) ∧ W' = w.alloc (.cells #[.func (.func f) #[] #[]] 111) := by
  subst hb
  go_enter Tryd.func45, Tryd.ntmps45
  go_wp2
  go_ret
  exact ⟨rfl, rfl⟩
set_option maxRecDepth 100000 in
theorem writing_any (w : World) (f b : Nat) (hb : w.heap.size = b) : Calls Tryd.prog 54 #[.func (.func f) #[] #[]] w fun e W' => e = .returned (.func (.func 79) #[] #[.pointer (some ⟨b, 0, none⟩)]) ∧ W' = w.alloc (.cells #[.func (.func f) #[] #[]] 97) := by
  subst hb
  go_enter Tryd.func54, Tryd.ntmps54
  go_wp2
  go_ret
  exact ⟨rfl, rfl⟩
theorem res_arr2 {P : Program} {fn : Func} {t e : TypeId} {n d g : Nat} {i : TypeInfo} (hr : fn.results = #[.cell d t]) (hu : P.underlying t = some (.array n e)) (hi : P.info? t = some i) (tmps : Array Value) (w : World) (vs : Array Value) (hs : i.size = vs.size)
    (hg : w.heap[g]? = some (.cells vs t (0, 0))) (hp : tmps.getD d undef = .pointer (some ⟨g, 0, none⟩)) : (results fn tmps).run P w = .ok (.agg vs) w := by
  have hl := run_loadCells_list (P := P) w ⟨g, 0, none⟩ vs.toList (fun j v h => by
    rw [Go.WideShapes.add_plain, Nat.zero_add]
    unfold World.cell?
    simp only [hg]
    simpa using h)
  rw [Array.length_toList, Array.toArray_toList] at hl
  rw [Array.getD_eq_getD_getElem?] at hp
  simp only [results, hr]
  simp [hp, asAddr, loadVar, isAgg, run_underlying hu, sizeOf, typeInfo, hi, hs, hl]
/-- the world that kinds leaves, but for the table itself -/
def kw (w : World) : World := ((((((((w.alloc (.cells kzero 83)).alloc (.cells #[.func (.func 32) #[] #[]] 111)).alloc (.cells #[.func (.func 44) #[] #[]] 111)).alloc (.cells #[.func (.func 46) #[] #[]] 111)).alloc (.cells #[.func (.func 47) #[] #[]] 111)).alloc (.cells #[.func (.func 48) #[] #[]] 111)).alloc (.cells #[.func (.func 55) #[] #[]] 97)).alloc (.cells #[.func (.func 56) #[] #[]] 97)).alloc (.cells #[.func (.func 57) #[] #[]] 97)
set_option maxRecDepth 100000 in
set_option maxHeartbeats 4000000 in
theorem kinds_any (w : World) : Calls Tryd.prog 31 #[] w fun e w' => ∃ b, e = .returned (.agg (kcells b)) ∧ w.heap.size < b ∧ Kb b w' ∧ Below w.heap.size w w' := by
  obtain ⟨b, hb⟩ : ∃ b, w.heap.size + 1 = b := ⟨_, rfl⟩
  have z0 : (w.alloc (.cells kzero 83)).heap.size = b + 0 := by simp; omega
  obtain ⟨W1, h1⟩ : ∃ W, (w.alloc (.cells kzero 83)).alloc (.cells #[.func (.func 32) #[] #[]] 111) = W := ⟨_, rfl⟩
  have z1 : W1.heap.size = b + 1 := by rw [← h1, World.size_alloc, z0]
  obtain ⟨W2, h2⟩ : ∃ W, (W1).alloc (.cells #[.func (.func 44) #[] #[]] 111) = W := ⟨_, rfl⟩
  have z2 : W2.heap.size = b + 2 := by rw [← h2, World.size_alloc, z1]
  obtain ⟨W3, h3⟩ : ∃ W, (W2).alloc (.cells #[.func (.func 46) #[] #[]] 111) = W := ⟨_, rfl⟩
  have z3 : W3.heap.size = b + 3 := by rw [← h3, World.size_alloc, z2]
  obtain ⟨W4, h4⟩ : ∃ W, (W3).alloc (.cells #[.func (.func 47) #[] #[]] 111) = W := ⟨_, rfl⟩
  have z4 : W4.heap.size = b + 4 := by rw [← h4, World.size_alloc, z3]
  obtain ⟨W5, h5⟩ : ∃ W, (W4).alloc (.cells #[.func (.func 48) #[] #[]] 111) = W := ⟨_, rfl⟩
  have z5 : W5.heap.size = b + 5 := by rw [← h5, World.size_alloc, z4]
  obtain ⟨W6, h6⟩ : ∃ W, (W5).alloc (.cells #[.func (.func 55) #[] #[]] 97) = W := ⟨_, rfl⟩
  have z6 : W6.heap.size = b + 6 := by rw [← h6, World.size_alloc, z5]
  obtain ⟨W7, h7⟩ : ∃ W, (W6).alloc (.cells #[.func (.func 56) #[] #[]] 97) = W := ⟨_, rfl⟩
  have z7 : W7.heap.size = b + 7 := by rw [← h7, World.size_alloc, z6]
  obtain ⟨W8, h8⟩ : ∃ W, (W7).alloc (.cells #[.func (.func 57) #[] #[]] 97) = W := ⟨_, rfl⟩
  have z8 : W8.heap.size = b + 8 := by rw [← h8, World.size_alloc, z7]
  have B8 : Below w.heap.size w W8 ∧ W8.heap[w.heap.size]? = some (.cells kzero 83 (0, 0)) ∧ Kb b W8 := by
    have n0 : (w.alloc (.cells kzero 83)).heap[w.heap.size]? = some (.cells kzero 83 (0, 0)) := World.alloc_heap_new _ _
    have b0 : Below w.heap.size w (w.alloc (.cells kzero 83)) := (Below.refl _ w).alloc (Nat.le_refl _) _
    have a1 : Below (w.alloc (.cells kzero 83)).heap.size (w.alloc (.cells kzero 83)) W1 ∧ W1.cell? ⟨b + 0, 0, none⟩ = some (.func (.func 32) #[] #[]) := by
      rw [← h1]
      refine ⟨(Below.refl _ _).alloc (Nat.le_refl _) _, ?_⟩
      unfold World.cell?
      rw [← z0, World.alloc_heap_new]
      rfl
    have a2 : Below W1.heap.size W1 W2 ∧ W2.cell? ⟨b + 1, 0, none⟩ = some (.func (.func 44) #[] #[]) := by
      rw [← h2]
      refine ⟨(Below.refl _ _).alloc (Nat.le_refl _) _, ?_⟩
      unfold World.cell?
      rw [← z1, World.alloc_heap_new]
      rfl
    have a3 : Below W2.heap.size W2 W3 ∧ W3.cell? ⟨b + 2, 0, none⟩ = some (.func (.func 46) #[] #[]) := by
      rw [← h3]
      refine ⟨(Below.refl _ _).alloc (Nat.le_refl _) _, ?_⟩
      unfold World.cell?
      rw [← z2, World.alloc_heap_new]
      rfl
    have a4 : Below W3.heap.size W3 W4 ∧ W4.cell? ⟨b + 3, 0, none⟩ = some (.func (.func 47) #[] #[]) := by
      rw [← h4]
      refine ⟨(Below.refl _ _).alloc (Nat.le_refl _) _, ?_⟩
      unfold World.cell?
      rw [← z3, World.alloc_heap_new]
      rfl
    have a5 : Below W4.heap.size W4 W5 ∧ W5.cell? ⟨b + 4, 0, none⟩ = some (.func (.func 48) #[] #[]) := by
      rw [← h5]
      refine ⟨(Below.refl _ _).alloc (Nat.le_refl _) _, ?_⟩
      unfold World.cell?
      rw [← z4, World.alloc_heap_new]
      rfl
    have a6 : Below W5.heap.size W5 W6 ∧ W6.cell? ⟨b + 5, 0, none⟩ = some (.func (.func 55) #[] #[]) := by
      rw [← h6]
      refine ⟨(Below.refl _ _).alloc (Nat.le_refl _) _, ?_⟩
      unfold World.cell?
      rw [← z5, World.alloc_heap_new]
      rfl
    have a7 : Below W6.heap.size W6 W7 ∧ W7.cell? ⟨b + 6, 0, none⟩ = some (.func (.func 56) #[] #[]) := by
      rw [← h7]
      refine ⟨(Below.refl _ _).alloc (Nat.le_refl _) _, ?_⟩
      unfold World.cell?
      rw [← z6, World.alloc_heap_new]
      rfl
    have a8 : Below W7.heap.size W7 W8 ∧ W8.cell? ⟨b + 7, 0, none⟩ = some (.func (.func 57) #[] #[]) := by
      rw [← h8]
      refine ⟨(Below.refl _ _).alloc (Nat.le_refl _) _, ?_⟩
      unfold World.cell?
      rw [← z7, World.alloc_heap_new]
      rfl
    have c8 : Below W8.heap.size W8 W8 := Below.refl _ _
    have c7 : Below W7.heap.size W7 W8 := below_on a8.1 c8
    have c6 : Below W6.heap.size W6 W8 := below_on a7.1 c7
    have c5 : Below W5.heap.size W5 W8 := below_on a6.1 c6
    have c4 : Below W4.heap.size W4 W8 := below_on a5.1 c5
    have c3 : Below W3.heap.size W3 W8 := below_on a4.1 c4
    have c2 : Below W2.heap.size W2 W8 := below_on a3.1 c3
    have c1 : Below W1.heap.size W1 W8 := below_on a2.1 c2
    have c0 : Below (w.alloc (.cells kzero 83)).heap.size (w.alloc (.cells kzero 83)) W8 := below_on a1.1 c1
    refine ⟨below_on b0 c0, (c0.block _ (by rw [z0]; omega)).trans n0, (c1.cell (p := ⟨b + 0, 0, none⟩) (by show b + 0 < _; omega)).trans a1.2, (c2.cell (p := ⟨b + 1, 0, none⟩) (by show b + 1 < _; omega)).trans a2.2, (c3.cell (p := ⟨b + 2, 0, none⟩) (by show b + 2 < _; omega)).trans a3.2, (c4.cell (p := ⟨b + 3, 0, none⟩) (by show b + 3 < _; omega)).trans a4.2, (c5.cell (p := ⟨b + 4, 0, none⟩) (by show b + 4 < _; omega)).trans a5.2, (c6.cell (p := ⟨b + 5, 0, none⟩) (by show b + 5 < _; omega)).trans a6.2, (c7.cell (p := ⟨b + 6, 0, none⟩) (by show b + 6 < _; omega)).trans a7.2, (c8.cell (p := ⟨b + 7, 0, none⟩) (by show b + 7 < _; omega)).trans a8.2, by omega⟩
  have HB8 : Hid (Below w.heap.size w W8 ∧ W8.heap[w.heap.size]? = some (.cells kzero 83 (0, 0)) ∧ Kb b W8) := B8
  refine calls_of_wp Tryd.func31 rfl ?_
  apply wp_seq_k; intro K0 hK0
  apply wp_region_lit
  refine wpList_allocTo rfl (some 0) rfl (.pointer (some ⟨w.heap.size, 0, none⟩)) (.cells kzero 83) (by as_aux_lemma => kernel_rfl) ?_
  apply wpList_nil
  refine hK0 _ _ ?_
  clear hK0
  apply wp_seq_k; intro K1 hK1
  apply wp_region_lit
  refine wpList_callTo rfl (some 1) rfl 43 #[.func (.func 32) #[] #[]] (by as_aux_lemma => kernel_rfl) (.func (.func 69) #[] #[.pointer (some ⟨b + 0, 0, none⟩)]) W1 (((deleting_any _ 32 (b + 0) z0).mono fun e W' ⟨k1, k2⟩ => ⟨k1, k2.trans h1⟩)) ?_
  refine wpList_buildTo rfl 82 _ rfl (some 2) rfl #[.int .i64 14, .func (.func 69) #[] #[.pointer (some ⟨b + 0, 0, none⟩)]] (by as_aux_lemma => kernel_rfl) ?_
  refine wpList_callTo rfl (some 3) rfl 43 #[.func (.func 44) #[] #[]] (by as_aux_lemma => kernel_rfl) (.func (.func 69) #[] #[.pointer (some ⟨b + 1, 0, none⟩)]) W2 (((deleting_any _ 44 (b + 1) z1).mono fun e W' ⟨k1, k2⟩ => ⟨k1, k2.trans h2⟩)) ?_
  refine wpList_buildTo rfl 82 _ rfl (some 4) rfl #[.int .i64 15, .func (.func 69) #[] #[.pointer (some ⟨b + 1, 0, none⟩)]] (by as_aux_lemma => kernel_rfl) ?_
  refine wpList_callTo rfl (some 5) rfl 45 #[.func (.func 46) #[] #[]] (by as_aux_lemma => kernel_rfl) (.func (.func 72) #[] #[.pointer (some ⟨b + 2, 0, none⟩)]) W3 (((killing_any _ 46 (b + 2) z2).mono fun e W' ⟨k1, k2⟩ => ⟨k1, k2.trans h3⟩)) ?_
  refine wpList_buildTo rfl 82 _ rfl (some 6) rfl #[.int .i64 16, .func (.func 72) #[] #[.pointer (some ⟨b + 2, 0, none⟩)]] (by as_aux_lemma => kernel_rfl) ?_
  refine wpList_callTo rfl (some 7) rfl 45 #[.func (.func 47) #[] #[]] (by as_aux_lemma => kernel_rfl) (.func (.func 72) #[] #[.pointer (some ⟨b + 3, 0, none⟩)]) W4 (((killing_any _ 47 (b + 3) z3).mono fun e W' ⟨k1, k2⟩ => ⟨k1, k2.trans h4⟩)) ?_
  refine wpList_buildTo rfl 82 _ rfl (some 8) rfl #[.int .i64 17, .func (.func 72) #[] #[.pointer (some ⟨b + 3, 0, none⟩)]] (by as_aux_lemma => kernel_rfl) ?_
  refine wpList_callTo rfl (some 9) rfl 45 #[.func (.func 48) #[] #[]] (by as_aux_lemma => kernel_rfl) (.func (.func 72) #[] #[.pointer (some ⟨b + 4, 0, none⟩)]) W5 (((killing_any _ 48 (b + 4) z4).mono fun e W' ⟨k1, k2⟩ => ⟨k1, k2.trans h5⟩)) ?_
  refine wpList_buildTo rfl 82 _ rfl (some 10) rfl #[.int .i64 18, .func (.func 72) #[] #[.pointer (some ⟨b + 4, 0, none⟩)]] (by as_aux_lemma => kernel_rfl) ?_
  refine wpList_buildTo rfl 82 _ rfl (some 11) rfl #[.int .i64 19, .func (.func 49) #[] #[]] (by as_aux_lemma => kernel_rfl) ?_
  refine wpList_buildTo rfl 82 _ rfl (some 12) rfl #[.int .i64 20, .func (.func 50) #[] #[]] (by as_aux_lemma => kernel_rfl) ?_
  refine wpList_buildTo rfl 82 _ rfl (some 13) rfl #[.int .i64 21, .func (.func 51) #[] #[]] (by as_aux_lemma => kernel_rfl) ?_
  refine wpList_buildTo rfl 82 _ rfl (some 14) rfl #[.int .i64 24, .func (.func 52) #[] #[]] (by as_aux_lemma => kernel_rfl) ?_
  refine wpList_buildTo rfl 82 _ rfl (some 15) rfl #[.int .i64 25, .func (.func 53) #[] #[]] (by as_aux_lemma => kernel_rfl) ?_
  refine wpList_callTo rfl (some 16) rfl 54 #[.func (.func 55) #[] #[]] (by as_aux_lemma => kernel_rfl) (.func (.func 79) #[] #[.pointer (some ⟨b + 5, 0, none⟩)]) W6 (((writing_any _ 55 (b + 5) z5).mono fun e W' ⟨k1, k2⟩ => ⟨k1, k2.trans h6⟩)) ?_
  refine wpList_buildTo rfl 82 _ rfl (some 17) rfl #[.int .i64 26, .func (.func 79) #[] #[.pointer (some ⟨b + 5, 0, none⟩)]] (by as_aux_lemma => kernel_rfl) ?_
  refine wpList_callTo rfl (some 18) rfl 54 #[.func (.func 56) #[] #[]] (by as_aux_lemma => kernel_rfl) (.func (.func 79) #[] #[.pointer (some ⟨b + 6, 0, none⟩)]) W7 (((writing_any _ 56 (b + 6) z6).mono fun e W' ⟨k1, k2⟩ => ⟨k1, k2.trans h7⟩)) ?_
  refine wpList_buildTo rfl 82 _ rfl (some 19) rfl #[.int .i64 27, .func (.func 79) #[] #[.pointer (some ⟨b + 6, 0, none⟩)]] (by as_aux_lemma => kernel_rfl) ?_
  refine wpList_callTo rfl (some 20) rfl 54 #[.func (.func 57) #[] #[]] (by as_aux_lemma => kernel_rfl) (.func (.func 79) #[] #[.pointer (some ⟨b + 7, 0, none⟩)]) W8 (((writing_any _ 57 (b + 7) z7).mono fun e W' ⟨k1, k2⟩ => ⟨k1, k2.trans h8⟩)) ?_
  refine wpList_buildTo rfl 82 _ rfl (some 21) rfl #[.int .i64 28, .func (.func 79) #[] #[.pointer (some ⟨b + 7, 0, none⟩)]] (by as_aux_lemma => kernel_rfl) ?_
  refine wpList_buildTo rfl 83 _ rfl (some 22) rfl (kcells b) (by as_aux_lemma => kernel_rfl) ?_
  refine wpList_store_rowTo rfl 83 _ _ rfl rfl w.heap.size (kcells b) (by as_aux_lemma => kernel_rfl) (by as_aux_lemma => kernel_rfl) 83 kzero HB8.out.2.1 (by as_aux_lemma => kernel_rfl) (by as_aux_lemma => kernel_rfl) (by as_aux_lemma => kernel_rfl) ?_
  apply wpList_nil
  refine hK1 _ _ ?_
  clear hK1
  have hr : (W8.setRow w.heap.size (kcells b)).heap[w.heap.size]? = some (.cells (kcells b) 83 (0, 0)) := by
    simp only [World.setRow]
    rw [Array.getElem?_modify, if_pos rfl, HB8.out.2.1]
    rfl
  have hk : ∀ k : Nat, k ≠ w.heap.size → (W8.setRow w.heap.size (kcells b)).heap[k]? = W8.heap[k]? := fun k hk => by
    simp only [World.setRow]
    rw [Array.getElem?_modify, if_neg (fun e => hk e.symm)]
  have hz : (W8.setRow w.heap.size (kcells b)).heap.size = W8.heap.size := by simp [World.setRow]
  have hc : ∀ (j : Nat) (v : Value), W8.cell? ⟨b + j, 0, none⟩ = some v → (W8.setRow w.heap.size (kcells b)).cell? ⟨b + j, 0, none⟩ = some v := fun j v e => by
    unfold World.cell? at e ⊢
    simp only at e ⊢
    rw [hk _ (by omega)]
    exact e
  have hK := HB8.out.2.2
  have hB := HB8.out.1
  refine wp_ret (bodyPost_ret (res_arr2 (g := w.heap.size) (t := 83) (e := 82) (n := 13) (d := 0) (i := ((Tryd.prog.info? 83).getD default)) (by as_aux_lemma => kernel_rfl) (by as_aux_lemma => kernel_rfl) (by as_aux_lemma => kernel_rfl) _ _ _ (by as_aux_lemma => kernel_rfl) hr (by as_aux_lemma => kernel_rfl)) (by as_aux_lemma => kernel_rfl) ⟨b, rfl, by omega, ⟨hc 0 _ hK.c0, hc 1 _ hK.c1, hc 2 _ hK.c2, hc 3 _ hK.c3, hc 4 _ hK.c4, hc 5 _ hK.c5, hc 6 _ hK.c6, hc 7 _ hK.c7, by rw [hz]; exact hK.lt⟩, ⟨hB.os, hB.tape, hB.output, by rw [hz]; exact hB.size, fun k hk' => (hk k (by omega)).trans (hB.block k hk')⟩⟩)
theorem ix13 (b : Nat) (w : World) : ∀ (i : Nat) (p : Int × Value), (kds b)[i]? = some p → (Instr.index 83 (.agg (kcells b)) (.int .i64 i)).run Tryd.prog w = .ok (krow p) w := by
  intro i p h
  have hi : i < 13 := (List.getElem?_eq_some_iff.1 h).1
  by_cases h0 : i = 0
  · have e : ∀ w : World, (Instr.index 83 (.agg (kcells b)) (.int .i64 0)).run Tryd.prog w = .ok (krow (14, .func (.func 69) #[] #[.pointer (some ⟨b + 0, 0, none⟩)])) w := fun w => by kernel_rfl
    subst h0
    rw [← (Option.some.inj h : ((14 : Int), (.func (.func 69) #[] #[.pointer (some ⟨b + 0, 0, none⟩)] : Value)) = p)]
    exact e w
  by_cases h1 : i = 1
  · have e : ∀ w : World, (Instr.index 83 (.agg (kcells b)) (.int .i64 1)).run Tryd.prog w = .ok (krow (15, .func (.func 69) #[] #[.pointer (some ⟨b + 1, 0, none⟩)])) w := fun w => by kernel_rfl
    subst h1
    rw [← (Option.some.inj h : ((15 : Int), (.func (.func 69) #[] #[.pointer (some ⟨b + 1, 0, none⟩)] : Value)) = p)]
    exact e w
  by_cases h2 : i = 2
  · have e : ∀ w : World, (Instr.index 83 (.agg (kcells b)) (.int .i64 2)).run Tryd.prog w = .ok (krow (16, .func (.func 72) #[] #[.pointer (some ⟨b + 2, 0, none⟩)])) w := fun w => by kernel_rfl
    subst h2
    rw [← (Option.some.inj h : ((16 : Int), (.func (.func 72) #[] #[.pointer (some ⟨b + 2, 0, none⟩)] : Value)) = p)]
    exact e w
  by_cases h3 : i = 3
  · have e : ∀ w : World, (Instr.index 83 (.agg (kcells b)) (.int .i64 3)).run Tryd.prog w = .ok (krow (17, .func (.func 72) #[] #[.pointer (some ⟨b + 3, 0, none⟩)])) w := fun w => by kernel_rfl
    subst h3
    rw [← (Option.some.inj h : ((17 : Int), (.func (.func 72) #[] #[.pointer (some ⟨b + 3, 0, none⟩)] : Value)) = p)]
    exact e w
  by_cases h4 : i = 4
  · have e : ∀ w : World, (Instr.index 83 (.agg (kcells b)) (.int .i64 4)).run Tryd.prog w = .ok (krow (18, .func (.func 72) #[] #[.pointer (some ⟨b + 4, 0, none⟩)])) w := fun w => by kernel_rfl
    subst h4
    rw [← (Option.some.inj h : ((18 : Int), (.func (.func 72) #[] #[.pointer (some ⟨b + 4, 0, none⟩)] : Value)) = p)]
    exact e w
  by_cases h5 : i = 5
  · have e : ∀ w : World, (Instr.index 83 (.agg (kcells b)) (.int .i64 5)).run Tryd.prog w = .ok (krow (19, .func (.func 49) #[] #[])) w := fun w => by kernel_rfl
    subst h5
    rw [← (Option.some.inj h : ((19 : Int), (.func (.func 49) #[] #[] : Value)) = p)]
    exact e w
  by_cases h6 : i = 6
  · have e : ∀ w : World, (Instr.index 83 (.agg (kcells b)) (.int .i64 6)).run Tryd.prog w = .ok (krow (20, .func (.func 50) #[] #[])) w := fun w => by kernel_rfl
    subst h6
    rw [← (Option.some.inj h : ((20 : Int), (.func (.func 50) #[] #[] : Value)) = p)]
    exact e w
  by_cases h7 : i = 7
  · have e : ∀ w : World, (Instr.index 83 (.agg (kcells b)) (.int .i64 7)).run Tryd.prog w = .ok (krow (21, .func (.func 51) #[] #[])) w := fun w => by kernel_rfl
    subst h7
    rw [← (Option.some.inj h : ((21 : Int), (.func (.func 51) #[] #[] : Value)) = p)]
    exact e w
  by_cases h8 : i = 8
  · have e : ∀ w : World, (Instr.index 83 (.agg (kcells b)) (.int .i64 8)).run Tryd.prog w = .ok (krow (24, .func (.func 52) #[] #[])) w := fun w => by kernel_rfl
    subst h8
    rw [← (Option.some.inj h : ((24 : Int), (.func (.func 52) #[] #[] : Value)) = p)]
    exact e w
  by_cases h9 : i = 9
  · have e : ∀ w : World, (Instr.index 83 (.agg (kcells b)) (.int .i64 9)).run Tryd.prog w = .ok (krow (25, .func (.func 53) #[] #[])) w := fun w => by kernel_rfl
    subst h9
    rw [← (Option.some.inj h : ((25 : Int), (.func (.func 53) #[] #[] : Value)) = p)]
    exact e w
  by_cases h10 : i = 10
  · have e : ∀ w : World, (Instr.index 83 (.agg (kcells b)) (.int .i64 10)).run Tryd.prog w = .ok (krow (26, .func (.func 79) #[] #[.pointer (some ⟨b + 5, 0, none⟩)])) w := fun w => by kernel_rfl
    subst h10
    rw [← (Option.some.inj h : ((26 : Int), (.func (.func 79) #[] #[.pointer (some ⟨b + 5, 0, none⟩)] : Value)) = p)]
    exact e w
  by_cases h11 : i = 11
  · have e : ∀ w : World, (Instr.index 83 (.agg (kcells b)) (.int .i64 11)).run Tryd.prog w = .ok (krow (27, .func (.func 79) #[] #[.pointer (some ⟨b + 6, 0, none⟩)])) w := fun w => by kernel_rfl
    subst h11
    rw [← (Option.some.inj h : ((27 : Int), (.func (.func 79) #[] #[.pointer (some ⟨b + 6, 0, none⟩)] : Value)) = p)]
    exact e w
  by_cases h12 : i = 12
  · have e : ∀ w : World, (Instr.index 83 (.agg (kcells b)) (.int .i64 12)).run Tryd.prog w = .ok (krow (28, .func (.func 79) #[] #[.pointer (some ⟨b + 7, 0, none⟩)])) w := fun w => by kernel_rfl
    subst h12
    rw [← (Option.some.inj h : ((28 : Int), (.func (.func 79) #[] #[.pointer (some ⟨b + 7, 0, none⟩)] : Value)) = p)]
    exact e w
  omega
/-- a kind's function, as the table has it -/
def kfind (b : Nat) (k : Int) : Option (Int × Value) := (kds b).find? fun p => decide (p.1 = k)
/-- makerOf's answer -/
def kres (b : Nat) (k : Int) : Value := match kfind b k with
  | some p => .tuple #[p.2, .bool true]
  | none => .tuple #[.nilFunc, .bool false]
theorem kds_fn {b : Nat} {p : Int × Value} (h : p ∈ kds b) : ∃ f cap, p.2 = .func (.func f) #[] cap := by
  simp only [kds, List.mem_cons, List.not_mem_nil, or_false] at h
  rcases h with rfl | rfl | rfl | rfl | rfl | rfl | rfl | rfl | rfl | rfl | rfl | rfl | rfl <;> exact ⟨_, _, rfl⟩
theorem cells2 {W : World} {b : Nat} {x y : Value} {t : TypeId} (h : W.heap[b]? = some (.cells #[x, y] t (0, 0))) : W.cell? ⟨b, 0, none⟩ = some x ∧ W.cell? ⟨b, 1, none⟩ = some y := by simp [World.cell?, h]
set_option maxRecDepth 100000 in
set_option maxHeartbeats 1000000 in
theorem makerOf_any (k : Int) (w : World) : Calls Tryd.prog 19 #[.int .i64 k] w fun e w' => ∃ b, e = .returned (kres b k) ∧ w.heap.size < b ∧ Kb b w' ∧ Below w.heap.size w w' := by
  have C0 : Hid (Calls Tryd.prog 31 #[] w fun e w' => ∃ b, e = .returned (.agg (kcells b)) ∧ Hid (w.heap.size < b ∧ Kb b w' ∧ Below w.heap.size w w')) := kinds_any w
  have hI := ix13
  have HIF : Hid (∀ b (i : Nat) (p : Int × Value) (w : World), (kds b)[i]? = some p → (Instr.index 83 (.agg (kcells b)) (.int .i64 i)).run Tryd.prog w = .ok (krow p) w) := fun b i p w h => ix13 b w i p h
  clear hI
  go_enter Tryd.func19, Tryd.ntmps19
  go_upto_region 2 with (go_at_call 31; refine C0.out.mono ?_; clear C0; rintro e w0 ⟨b, rfl, HM⟩)
  obtain ⟨A, hA⟩ : ∃ A, kcells b = A := ⟨_, rfl⟩
  have hI : Hid (∀ (i : Nat) (p : Int × Value) (w : World), (kds b)[i]? = some p → (Instr.index 83 (.agg A) (.int .i64 i)).run Tryd.prog w = .ok (krow p) w) := by rw [← hA]; exact HIF.out b
  rw [hA]
  clear HIF hA
  go_loopw [7] (fun t wr => ∃ i : Nat, t = .int .i64 i ∧ i ≤ 13 ∧ Hid (∀ (j : Nat) (p : Int × Value), j < i → (kds b)[j]? = some p → p.1 ≠ k) ∧ Hid (w.heap.size < b ∧ Kb b wr ∧ Below w.heap.size w wr)) (fun t _ => 13 - (intOf t).toNat)
  case atStart => exact ⟨0, rfl, Nat.zero_le _, (fun j p h => by omega), HM⟩
  case round =>
    clear HM
    obtain ⟨i, rfl, hi, HN, HM⟩ := hrel
    by_cases hlt : i < 13
    · obtain ⟨p, hp⟩ : ∃ p, (kds b)[i]? = some p := ⟨(kds b)[i]'hlt, List.getElem?_eq_getElem hlt⟩
      have hJ := hI.out i p wr hp
      have HP : Hid ((kds b)[i]? = some p) := hp
      have hlt' : (i : Int) < 13 := by omega
      obtain ⟨f1, cap, hf1⟩ := kds_fn (List.mem_of_getElem? hp)
      clear hp
      obtain ⟨k1, v1⟩ := p
      simp only at hf1
      subst hf1
      unfold krow at hJ
      simp only at hJ
      have HX : Hid ((wr.alloc (.cells #[.int .i64 k1, .func (.func f1) #[] cap] 82)).heap[wr.heap.size]? = some (.cells #[.int .i64 k1, .func (.func f1) #[] cap] 82 (0, 0))) := World.alloc_heap_new _ _
      have HA : Hid (w.heap.size < b ∧ Kb b (wr.alloc (.cells #[.int .i64 k1, .func (.func f1) #[] cap] 82)) ∧ Below w.heap.size w (wr.alloc (.cells #[.int .i64 k1, .func (.func f1) #[] cap] 82))) := ⟨HM.out.1, HM.out.2.1.below ((Below.refl _ wr).alloc (Nat.le_refl _) _), HM.out.2.2.alloc HM.out.2.2.size _⟩
      by_cases h1 : k1 = k
      · subst h1
        have HF : Hid (kres b k1 = .tuple #[.func (.func f1) #[] cap, .bool true]) := by
          show kres b k1 = _
          unfold kres kfind
          have : (kds b).find? (fun p => decide (p.1 = k1)) = some (k1, .func (.func f1) #[] cap) := by
            rw [List.find?_eq_some_iff_getElem]
            refine ⟨by simp, i, hlt, ?_, fun j hj => ?_⟩
            · have := HP.out; rw [List.getElem?_eq_getElem hlt] at this; exact Option.some.inj this
            · have := HN.out j ((kds b)[j]'(by have : (kds b).length = 13 := rfl; omega)) hj (List.getElem?_eq_getElem _)
              simpa using this
          rw [this]
        clear HN HP hI
        go_upto_region 4 with fail
        generalize wr.alloc (.cells #[.int .i64 k1, .func (.func f1) #[] cap] 82) = W1 at HA HX ⊢
        obtain ⟨x0, x1⟩ := cells2 HX.out
        clear HX HM hJ
        go_wp2
        exact bodyPost_ret (v := .tuple #[.func (.func f1) #[] cap, .bool true]) (by simp [results, Tryd.results19, go_sem]) rfl ⟨b, by rw [HF.out], HA.out⟩
      · have h1' : (k1 == k) = false := by simp [h1]
        have h1'' : decide (k1 = k) = false := by simp [h1]
        go_upto_region 4 with fail
        generalize wr.alloc (.cells #[.int .i64 k1, .func (.func f1) #[] cap] 82) = W1 at HA HX ⊢
        obtain ⟨x0, x1⟩ := cells2 HX.out
        clear HX HM hJ
        go_wp2
        exact ⟨⟨i + 1, by go_num, by omega, (fun j q hj hq => by
          by_cases e : j = i
          · subst e; rw [HP.out] at hq; cases hq; exact h1
          · exact HN.out j q (by omega) hq), HA⟩, by simp [intOf]; omega⟩
    · have hge : ¬ ((i : Int) < 13) := by omega
      have HF : Hid (kres b k = .tuple #[.nilFunc, .bool false]) := by
        show kres b k = _
        unfold kres kfind
        have : (kds b).find? (fun p => decide (p.1 = k)) = none := by
          rw [List.find?_eq_none]
          intro q hq
          obtain ⟨j, hj⟩ := List.mem_iff_getElem?.1 hq
          have hj' : j < 13 := (List.getElem?_eq_some_iff.1 hj).1
          simpa using HN.out j q (by omega) hj
        rw [this]
      clear HN hI
      go_wp2
      exact bodyPost_ret (v := .tuple #[.nilFunc, .bool false]) (by simp [results, Tryd.results19, go_sem]) rfl ⟨b, by rw [HF.out], HM.out⟩
end Go.Proofs.YtiejollfeggeoaaDoor
