/-
  Package change: the table of kinds, steps, deleting, lines. No program is walked in this text; no conditions.
-/
import Derived.Test.YtdggbnkhbmffoaaGreatDoorFBas
import Derived.Test.YtdggbnkhbmffoaaGreatDoorPkVW
import Derived.Great.Walk
import Derived.Laws.EntriesVeiled
import Derived.Lib.IndexLaws
import Derived.Lib.LastIndexByte
namespace Go.Proofs.YtdggbnkhbmffoaaGreatDoor
open Go.RowKit Go.Great Go.Shelf Wid

/-- the table: kinds and functions; the closures' boxes begin at b -/
def kds (b : Nat) : List (Int × Value) := [(14, .func (.func 71) #[] #[.pointer (some ⟨b + 0, 0, none⟩)]), (15, .func (.func 71) #[] #[.pointer (some ⟨b + 1, 0, none⟩)]), (16, .func (.func 74) #[] #[.pointer (some ⟨b + 2, 0, none⟩)]), (17, .func (.func 74) #[] #[.pointer (some ⟨b + 3, 0, none⟩)]), (18, .func (.func 74) #[] #[.pointer (some ⟨b + 4, 0, none⟩)]), (19, .func (.func 43) #[] #[]), (20, .func (.func 44) #[] #[]), (21, .func (.func 45) #[] #[]), (24, .func (.func 46) #[] #[]), (25, .func (.func 47) #[] #[]), (26, .func (.func 82) #[] #[.pointer (some ⟨b + 5, 0, none⟩)]), (27, .func (.func 82) #[] #[.pointer (some ⟨b + 6, 0, none⟩)]), (28, .func (.func 82) #[] #[.pointer (some ⟨b + 7, 0, none⟩)])]
def krow (p : Int × Value) : Value := .agg #[.int .i64 p.1, p.2]
def kcells (b : Nat) : Array Value := #[.int .i64 14, .func (.func 71) #[] #[.pointer (some ⟨b + 0, 0, none⟩)], .int .i64 15, .func (.func 71) #[] #[.pointer (some ⟨b + 1, 0, none⟩)], .int .i64 16, .func (.func 74) #[] #[.pointer (some ⟨b + 2, 0, none⟩)], .int .i64 17, .func (.func 74) #[] #[.pointer (some ⟨b + 3, 0, none⟩)], .int .i64 18, .func (.func 74) #[] #[.pointer (some ⟨b + 4, 0, none⟩)], .int .i64 19, .func (.func 43) #[] #[], .int .i64 20, .func (.func 44) #[] #[], .int .i64 21, .func (.func 45) #[] #[], .int .i64 24, .func (.func 46) #[] #[], .int .i64 25, .func (.func 47) #[] #[], .int .i64 26, .func (.func 82) #[] #[.pointer (some ⟨b + 5, 0, none⟩)], .int .i64 27, .func (.func 82) #[] #[.pointer (some ⟨b + 6, 0, none⟩)], .int .i64 28, .func (.func 82) #[] #[.pointer (some ⟨b + 7, 0, none⟩)]]
def kzero : Array Value := #[.int .i64 0, .nilFunc, .int .i64 0, .nilFunc, .int .i64 0, .nilFunc, .int .i64 0, .nilFunc, .int .i64 0, .nilFunc, .int .i64 0, .nilFunc, .int .i64 0, .nilFunc, .int .i64 0, .nilFunc, .int .i64 0, .nilFunc, .int .i64 0, .nilFunc, .int .i64 0, .nilFunc, .int .i64 0, .nilFunc, .int .i64 0, .nilFunc]
/-- the boxes -/
structure Kb (b : Nat) (W : World) : Prop where
  c0 : W.cell? ⟨b + 0, 0, none⟩ = some (.func (.func 26) #[] #[])
  c1 : W.cell? ⟨b + 1, 0, none⟩ = some (.func (.func 38) #[] #[])
  c2 : W.cell? ⟨b + 2, 0, none⟩ = some (.func (.func 40) #[] #[])
  c3 : W.cell? ⟨b + 3, 0, none⟩ = some (.func (.func 41) #[] #[])
  c4 : W.cell? ⟨b + 4, 0, none⟩ = some (.func (.func 42) #[] #[])
  c5 : W.cell? ⟨b + 5, 0, none⟩ = some (.func (.func 49) #[] #[])
  c6 : W.cell? ⟨b + 6, 0, none⟩ = some (.func (.func 50) #[] #[])
  c7 : W.cell? ⟨b + 7, 0, none⟩ = some (.func (.func 51) #[] #[])
  lt : b + 7 < W.heap.size
theorem Kb.below {b : Nat} {W X : World} (h : Kb b W) (hb : Below W.heap.size W X) : Kb b X := by
  have hl := h.lt
  exact ⟨(hb.cell (p := ⟨b + 0, 0, none⟩) (by show b + 0 < _; omega)).trans h.c0, (hb.cell (p := ⟨b + 1, 0, none⟩) (by show b + 1 < _; omega)).trans h.c1, (hb.cell (p := ⟨b + 2, 0, none⟩) (by show b + 2 < _; omega)).trans h.c2, (hb.cell (p := ⟨b + 3, 0, none⟩) (by show b + 3 < _; omega)).trans h.c3, (hb.cell (p := ⟨b + 4, 0, none⟩) (by show b + 4 < _; omega)).trans h.c4, (hb.cell (p := ⟨b + 5, 0, none⟩) (by show b + 5 < _; omega)).trans h.c5, (hb.cell (p := ⟨b + 6, 0, none⟩) (by show b + 6 < _; omega)).trans h.c6, (hb.cell (p := ⟨b + 7, 0, none⟩) (by show b + 7 < _; omega)).trans h.c7, Nat.lt_of_lt_of_le hl hb.size⟩
set_option maxRecDepth 100000 in
theorem deleting_any (w : World) (f b : Nat) (hb : w.heap.size = b) : Calls Tryz.prog 37 #[.func (.func f) #[] #[]] w fun e W' => e = .returned (.func (.func 71) #[] #[.pointer (some ⟨b, 0, none⟩)]) ∧ W' = w.alloc (.cells #[.func (.func f) #[] #[]] 95) := by
  subst hb
  go_enter Tryz.func37, Tryz.ntmps37
  go_wp2
  go_ret
  exact ⟨rfl, rfl⟩
set_option maxRecDepth 100000 in
theorem killing_any (w : World) (f b : Nat) (hb : w.heap.size = b) : Calls Tryz.prog 39 #[.func (.func f) #[] #[]] w fun e W' => e = .returned (.func (.func 74) #[] #[.pointer (some ⟨b, 0, none⟩)]) ∧ W' = w.alloc (.cells #[.func (.func f) #[] #[]] 95) := by
  subst hb
  go_enter Tryz.func39, Tryz.ntmps39
  go_wp2
  go_ret
  exact ⟨rfl, rfl⟩
set_option maxRecDepth 100000 in
theorem writing_any (w : World) (f b : Nat) (hb : w.heap.size = b) : Calls Tryz.prog 48 #[.func (.func f) #[] #[]] w fun e W' => e = .returned (.func (.func 82) #[] #[.pointer (some ⟨b, 0, none⟩)]) ∧ W' = w.alloc (.cells #[.func (.func f) #[] #[]] 79) := by
  subst hb
  go_enter Tryz.func48, Tryz.ntmps48
  go_wp2
  go_ret
  exact ⟨rfl, rfl⟩
theorem res_arr2 {P : Program} {fn : Func} {t e : TypeId} {n d g : Nat} {i : TypeInfo} (hr : fn.results = #[.cell d t]) (hu : P.underlying t = some (.array n e)) (hi : P.info? t = some i) (tmps : Array Value) (w : World) (vs : Array Value) (hs : i.size = vs.size)
    (hg : w.heap[g]? = some (.cells vs t (0, 0))) (hp : tmps.getD d undef = .pointer (some ⟨g, 0, none⟩)) : (results fn tmps).run P w = .ok (.agg vs) w := by
  have hl := run_loadCells_list (P := P) w ⟨g, 0, none⟩ vs.toList (fun j v h => by
    rw [Go.WideShapes.add_plain, Nat.zero_add]
    unfold World.cell?
    simp only [hg]
    simpa using h)
  rw [Array.length_toList, Array.toArray_toList] at hl
  rw [Array.getD_eq_getD_getElem?] at hp
  simp only [results, hr]
  simp [hp, asAddr, loadVar, isAgg, run_underlying hu, sizeOf, typeInfo, hi, hs, hl]
/-- the world that kinds leaves, but for the table itself -/
def kw (w : World) : World := ((((((((w.alloc (.cells kzero 62)).alloc (.cells #[.func (.func 26) #[] #[]] 95)).alloc (.cells #[.func (.func 38) #[] #[]] 95)).alloc (.cells #[.func (.func 40) #[] #[]] 95)).alloc (.cells #[.func (.func 41) #[] #[]] 95)).alloc (.cells #[.func (.func 42) #[] #[]] 95)).alloc (.cells #[.func (.func 49) #[] #[]] 79)).alloc (.cells #[.func (.func 50) #[] #[]] 79)).alloc (.cells #[.func (.func 51) #[] #[]] 79)
set_option maxRecDepth 100000 in
set_option maxHeartbeats 4000000 in
theorem kinds_any (w : World) : Calls Tryz.prog 24 #[] w fun e w' => ∃ b, e = .returned (.agg (kcells b)) ∧ w.heap.size < b ∧ Kb b w' ∧ Below w.heap.size w w' := by
  obtain ⟨b, hb⟩ : ∃ b, w.heap.size + 1 = b := ⟨_, rfl⟩
  have z0 : (w.alloc (.cells kzero 62)).heap.size = b + 0 := by simp; omega
  obtain ⟨W1, h1⟩ : ∃ W, (w.alloc (.cells kzero 62)).alloc (.cells #[.func (.func 26) #[] #[]] 95) = W := ⟨_, rfl⟩
  have z1 : W1.heap.size = b + 1 := by rw [← h1, World.size_alloc, z0]
  obtain ⟨W2, h2⟩ : ∃ W, (W1).alloc (.cells #[.func (.func 38) #[] #[]] 95) = W := ⟨_, rfl⟩
  have z2 : W2.heap.size = b + 2 := by rw [← h2, World.size_alloc, z1]
  obtain ⟨W3, h3⟩ : ∃ W, (W2).alloc (.cells #[.func (.func 40) #[] #[]] 95) = W := ⟨_, rfl⟩
  have z3 : W3.heap.size = b + 3 := by rw [← h3, World.size_alloc, z2]
  obtain ⟨W4, h4⟩ : ∃ W, (W3).alloc (.cells #[.func (.func 41) #[] #[]] 95) = W := ⟨_, rfl⟩
  have z4 : W4.heap.size = b + 4 := by rw [← h4, World.size_alloc, z3]
  obtain ⟨W5, h5⟩ : ∃ W, (W4).alloc (.cells #[.func (.func 42) #[] #[]] 95) = W := ⟨_, rfl⟩
  have z5 : W5.heap.size = b + 5 := by rw [← h5, World.size_alloc, z4]
  obtain ⟨W6, h6⟩ : ∃ W, (W5).alloc (.cells #[.func (.func 49) #[] #[]] 79) = W := ⟨_, rfl⟩
  have z6 : W6.heap.size = b + 6 := by rw [← h6, World.size_alloc, z5]
  obtain ⟨W7, h7⟩ : ∃ W, (W6).alloc (.cells #[.func (.func 50) #[] #[]] 79) = W := ⟨_, rfl⟩
  have z7 : W7.heap.size = b + 7 := by rw [← h7, World.size_alloc, z6]
  obtain ⟨W8, h8⟩ : ∃ W, (W7).alloc (.cells #[.func (.func 51) #[] #[]] 79) = W := ⟨_, rfl⟩
  have z8 : W8.heap.size = b + 8 := by rw [← h8, World.size_alloc, z7]
  have B8 : Below w.heap.size w W8 ∧ W8.heap[w.heap.size]? = some (.cells kzero 62 (0, 0)) ∧ Kb b W8 := by
    have n0 : (w.alloc (.cells kzero 62)).heap[w.heap.size]? = some (.cells kzero 62 (0, 0)) := World.alloc_heap_new _ _
    have b0 : Below w.heap.size w (w.alloc (.cells kzero 62)) := (Below.refl _ w).alloc (Nat.le_refl _) _
    have a1 : Below (w.alloc (.cells kzero 62)).heap.size (w.alloc (.cells kzero 62)) W1 ∧ W1.cell? ⟨b + 0, 0, none⟩ = some (.func (.func 26) #[] #[]) := by
      rw [← h1]
      refine ⟨(Below.refl _ _).alloc (Nat.le_refl _) _, ?_⟩
      unfold World.cell?
      rw [← z0, World.alloc_heap_new]
      rfl
    have a2 : Below W1.heap.size W1 W2 ∧ W2.cell? ⟨b + 1, 0, none⟩ = some (.func (.func 38) #[] #[]) := by
      rw [← h2]
      refine ⟨(Below.refl _ _).alloc (Nat.le_refl _) _, ?_⟩
      unfold World.cell?
      rw [← z1, World.alloc_heap_new]
      rfl
    have a3 : Below W2.heap.size W2 W3 ∧ W3.cell? ⟨b + 2, 0, none⟩ = some (.func (.func 40) #[] #[]) := by
      rw [← h3]
      refine ⟨(Below.refl _ _).alloc (Nat.le_refl _) _, ?_⟩
      unfold World.cell?
      rw [← z2, World.alloc_heap_new]
      rfl
    have a4 : Below W3.heap.size W3 W4 ∧ W4.cell? ⟨b + 3, 0, none⟩ = some (.func (.func 41) #[] #[]) := by
      rw [← h4]
      refine ⟨(Below.refl _ _).alloc (Nat.le_refl _) _, ?_⟩
      unfold World.cell?
      rw [← z3, World.alloc_heap_new]
      rfl
    have a5 : Below W4.heap.size W4 W5 ∧ W5.cell? ⟨b + 4, 0, none⟩ = some (.func (.func 42) #[] #[]) := by
      rw [← h5]
      refine ⟨(Below.refl _ _).alloc (Nat.le_refl _) _, ?_⟩
      unfold World.cell?
      rw [← z4, World.alloc_heap_new]
      rfl
    have a6 : Below W5.heap.size W5 W6 ∧ W6.cell? ⟨b + 5, 0, none⟩ = some (.func (.func 49) #[] #[]) := by
      rw [← h6]
      refine ⟨(Below.refl _ _).alloc (Nat.le_refl _) _, ?_⟩
      unfold World.cell?
      rw [← z5, World.alloc_heap_new]
      rfl
    have a7 : Below W6.heap.size W6 W7 ∧ W7.cell? ⟨b + 6, 0, none⟩ = some (.func (.func 50) #[] #[]) := by
      rw [← h7]
      refine ⟨(Below.refl _ _).alloc (Nat.le_refl _) _, ?_⟩
      unfold World.cell?
      rw [← z6, World.alloc_heap_new]
      rfl
    have a8 : Below W7.heap.size W7 W8 ∧ W8.cell? ⟨b + 7, 0, none⟩ = some (.func (.func 51) #[] #[]) := by
      rw [← h8]
      refine ⟨(Below.refl _ _).alloc (Nat.le_refl _) _, ?_⟩
      unfold World.cell?
      rw [← z7, World.alloc_heap_new]
      rfl
    have c8 : Below W8.heap.size W8 W8 := Below.refl _ _
    have c7 : Below W7.heap.size W7 W8 := below_on a8.1 c8
    have c6 : Below W6.heap.size W6 W8 := below_on a7.1 c7
    have c5 : Below W5.heap.size W5 W8 := below_on a6.1 c6
    have c4 : Below W4.heap.size W4 W8 := below_on a5.1 c5
    have c3 : Below W3.heap.size W3 W8 := below_on a4.1 c4
    have c2 : Below W2.heap.size W2 W8 := below_on a3.1 c3
    have c1 : Below W1.heap.size W1 W8 := below_on a2.1 c2
    have c0 : Below (w.alloc (.cells kzero 62)).heap.size (w.alloc (.cells kzero 62)) W8 := below_on a1.1 c1
    refine ⟨below_on b0 c0, (c0.block _ (by rw [z0]; omega)).trans n0, (c1.cell (p := ⟨b + 0, 0, none⟩) (by show b + 0 < _; omega)).trans a1.2, (c2.cell (p := ⟨b + 1, 0, none⟩) (by show b + 1 < _; omega)).trans a2.2, (c3.cell (p := ⟨b + 2, 0, none⟩) (by show b + 2 < _; omega)).trans a3.2, (c4.cell (p := ⟨b + 3, 0, none⟩) (by show b + 3 < _; omega)).trans a4.2, (c5.cell (p := ⟨b + 4, 0, none⟩) (by show b + 4 < _; omega)).trans a5.2, (c6.cell (p := ⟨b + 5, 0, none⟩) (by show b + 5 < _; omega)).trans a6.2, (c7.cell (p := ⟨b + 6, 0, none⟩) (by show b + 6 < _; omega)).trans a7.2, (c8.cell (p := ⟨b + 7, 0, none⟩) (by show b + 7 < _; omega)).trans a8.2, by omega⟩
  have HB8 : Hid (Below w.heap.size w W8 ∧ W8.heap[w.heap.size]? = some (.cells kzero 62 (0, 0)) ∧ Kb b W8) := B8
  refine calls_of_wp Tryz.func24 rfl ?_
  apply wp_seq_k; intro K0 hK0
  apply wp_region_lit
  refine wpList_allocTo rfl (some 0) rfl (.pointer (some ⟨w.heap.size, 0, none⟩)) (.cells kzero 62) (by as_aux_lemma => kernel_rfl) ?_
  apply wpList_nil
  refine hK0 _ _ ?_
  clear hK0
  apply wp_seq_k; intro K1 hK1
  apply wp_region_lit
  refine wpList_callTo rfl (some 1) rfl 37 #[.func (.func 26) #[] #[]] (by as_aux_lemma => kernel_rfl) (.func (.func 71) #[] #[.pointer (some ⟨b + 0, 0, none⟩)]) W1 (((deleting_any _ 26 (b + 0) z0).mono fun e W' ⟨k1, k2⟩ => ⟨k1, k2.trans h1⟩)) ?_
  refine wpList_buildTo rfl 61 _ rfl (some 2) rfl #[.int .i64 14, .func (.func 71) #[] #[.pointer (some ⟨b + 0, 0, none⟩)]] (by as_aux_lemma => kernel_rfl) ?_
  refine wpList_callTo rfl (some 3) rfl 37 #[.func (.func 38) #[] #[]] (by as_aux_lemma => kernel_rfl) (.func (.func 71) #[] #[.pointer (some ⟨b + 1, 0, none⟩)]) W2 (((deleting_any _ 38 (b + 1) z1).mono fun e W' ⟨k1, k2⟩ => ⟨k1, k2.trans h2⟩)) ?_
  refine wpList_buildTo rfl 61 _ rfl (some 4) rfl #[.int .i64 15, .func (.func 71) #[] #[.pointer (some ⟨b + 1, 0, none⟩)]] (by as_aux_lemma => kernel_rfl) ?_
  refine wpList_callTo rfl (some 5) rfl 39 #[.func (.func 40) #[] #[]] (by as_aux_lemma => kernel_rfl) (.func (.func 74) #[] #[.pointer (some ⟨b + 2, 0, none⟩)]) W3 (((killing_any _ 40 (b + 2) z2).mono fun e W' ⟨k1, k2⟩ => ⟨k1, k2.trans h3⟩)) ?_
  refine wpList_buildTo rfl 61 _ rfl (some 6) rfl #[.int .i64 16, .func (.func 74) #[] #[.pointer (some ⟨b + 2, 0, none⟩)]] (by as_aux_lemma => kernel_rfl) ?_
  refine wpList_callTo rfl (some 7) rfl 39 #[.func (.func 41) #[] #[]] (by as_aux_lemma => kernel_rfl) (.func (.func 74) #[] #[.pointer (some ⟨b + 3, 0, none⟩)]) W4 (((killing_any _ 41 (b + 3) z3).mono fun e W' ⟨k1, k2⟩ => ⟨k1, k2.trans h4⟩)) ?_
  refine wpList_buildTo rfl 61 _ rfl (some 8) rfl #[.int .i64 17, .func (.func 74) #[] #[.pointer (some ⟨b + 3, 0, none⟩)]] (by as_aux_lemma => kernel_rfl) ?_
  refine wpList_callTo rfl (some 9) rfl 39 #[.func (.func 42) #[] #[]] (by as_aux_lemma => kernel_rfl) (.func (.func 74) #[] #[.pointer (some ⟨b + 4, 0, none⟩)]) W5 (((killing_any _ 42 (b + 4) z4).mono fun e W' ⟨k1, k2⟩ => ⟨k1, k2.trans h5⟩)) ?_
  refine wpList_buildTo rfl 61 _ rfl (some 10) rfl #[.int .i64 18, .func (.func 74) #[] #[.pointer (some ⟨b + 4, 0, none⟩)]] (by as_aux_lemma => kernel_rfl) ?_
  refine wpList_buildTo rfl 61 _ rfl (some 11) rfl #[.int .i64 19, .func (.func 43) #[] #[]] (by as_aux_lemma => kernel_rfl) ?_
  refine wpList_buildTo rfl 61 _ rfl (some 12) rfl #[.int .i64 20, .func (.func 44) #[] #[]] (by as_aux_lemma => kernel_rfl) ?_
  refine wpList_buildTo rfl 61 _ rfl (some 13) rfl #[.int .i64 21, .func (.func 45) #[] #[]] (by as_aux_lemma => kernel_rfl) ?_
  refine wpList_buildTo rfl 61 _ rfl (some 14) rfl #[.int .i64 24, .func (.func 46) #[] #[]] (by as_aux_lemma => kernel_rfl) ?_
  refine wpList_buildTo rfl 61 _ rfl (some 15) rfl #[.int .i64 25, .func (.func 47) #[] #[]] (by as_aux_lemma => kernel_rfl) ?_
  refine wpList_callTo rfl (some 16) rfl 48 #[.func (.func 49) #[] #[]] (by as_aux_lemma => kernel_rfl) (.func (.func 82) #[] #[.pointer (some ⟨b + 5, 0, none⟩)]) W6 (((writing_any _ 49 (b + 5) z5).mono fun e W' ⟨k1, k2⟩ => ⟨k1, k2.trans h6⟩)) ?_
  refine wpList_buildTo rfl 61 _ rfl (some 17) rfl #[.int .i64 26, .func (.func 82) #[] #[.pointer (some ⟨b + 5, 0, none⟩)]] (by as_aux_lemma => kernel_rfl) ?_
  refine wpList_callTo rfl (some 18) rfl 48 #[.func (.func 50) #[] #[]] (by as_aux_lemma => kernel_rfl) (.func (.func 82) #[] #[.pointer (some ⟨b + 6, 0, none⟩)]) W7 (((writing_any _ 50 (b + 6) z6).mono fun e W' ⟨k1, k2⟩ => ⟨k1, k2.trans h7⟩)) ?_
  refine wpList_buildTo rfl 61 _ rfl (some 19) rfl #[.int .i64 27, .func (.func 82) #[] #[.pointer (some ⟨b + 6, 0, none⟩)]] (by as_aux_lemma => kernel_rfl) ?_
  refine wpList_callTo rfl (some 20) rfl 48 #[.func (.func 51) #[] #[]] (by as_aux_lemma => kernel_rfl) (.func (.func 82) #[] #[.pointer (some ⟨b + 7, 0, none⟩)]) W8 (((writing_any _ 51 (b + 7) z7).mono fun e W' ⟨k1, k2⟩ => ⟨k1, k2.trans h8⟩)) ?_
  refine wpList_buildTo rfl 61 _ rfl (some 21) rfl #[.int .i64 28, .func (.func 82) #[] #[.pointer (some ⟨b + 7, 0, none⟩)]] (by as_aux_lemma => kernel_rfl) ?_
  refine wpList_buildTo rfl 62 _ rfl (some 22) rfl (kcells b) (by as_aux_lemma => kernel_rfl) ?_
  refine wpList_store_rowTo rfl 62 _ _ rfl rfl w.heap.size (kcells b) (by as_aux_lemma => kernel_rfl) (by as_aux_lemma => kernel_rfl) 62 kzero HB8.out.2.1 (by as_aux_lemma => kernel_rfl) (by as_aux_lemma => kernel_rfl) (by as_aux_lemma => kernel_rfl) ?_
  apply wpList_nil
  refine hK1 _ _ ?_
  clear hK1
  have hr : (W8.setRow w.heap.size (kcells b)).heap[w.heap.size]? = some (.cells (kcells b) 62 (0, 0)) := by
    simp only [World.setRow]
    rw [Array.getElem?_modify, if_pos rfl, HB8.out.2.1]
    rfl
  have hk : ∀ k : Nat, k ≠ w.heap.size → (W8.setRow w.heap.size (kcells b)).heap[k]? = W8.heap[k]? := fun k hk => by
    simp only [World.setRow]
    rw [Array.getElem?_modify, if_neg (fun e => hk e.symm)]
  have hz : (W8.setRow w.heap.size (kcells b)).heap.size = W8.heap.size := by simp [World.setRow]
  have hc : ∀ (j : Nat) (v : Value), W8.cell? ⟨b + j, 0, none⟩ = some v → (W8.setRow w.heap.size (kcells b)).cell? ⟨b + j, 0, none⟩ = some v := fun j v e => by
    unfold World.cell? at e ⊢
    simp only at e ⊢
    rw [hk _ (by omega)]
    exact e
  have hK := HB8.out.2.2
  have hB := HB8.out.1
  refine wp_ret (bodyPost_ret (res_arr2 (g := w.heap.size) (t := 62) (e := 61) (n := 13) (d := 0) (i := ((Tryz.prog.info? 62).getD default)) (by as_aux_lemma => kernel_rfl) (by as_aux_lemma => kernel_rfl) (by as_aux_lemma => kernel_rfl) _ _ _ (by as_aux_lemma => kernel_rfl) hr (by as_aux_lemma => kernel_rfl)) (by as_aux_lemma => kernel_rfl) ⟨b, rfl, by omega, ⟨hc 0 _ hK.c0, hc 1 _ hK.c1, hc 2 _ hK.c2, hc 3 _ hK.c3, hc 4 _ hK.c4, hc 5 _ hK.c5, hc 6 _ hK.c6, hc 7 _ hK.c7, by rw [hz]; exact hK.lt⟩, ⟨hB.os, hB.tape, hB.output, by rw [hz]; exact hB.size, fun k hk' => (hk k (by omega)).trans (hB.block k hk')⟩⟩)
theorem ix13 (b : Nat) (w : World) : ∀ (i : Nat) (p : Int × Value), (kds b)[i]? = some p → (Instr.index 62 (.agg (kcells b)) (.int .i64 i)).run Tryz.prog w = .ok (krow p) w := by
  intro i p h
  have hi : i < 13 := (List.getElem?_eq_some_iff.1 h).1
  by_cases h0 : i = 0
  · have e : ∀ w : World, (Instr.index 62 (.agg (kcells b)) (.int .i64 0)).run Tryz.prog w = .ok (krow (14, .func (.func 71) #[] #[.pointer (some ⟨b + 0, 0, none⟩)])) w := fun w => by kernel_rfl
    subst h0
    rw [← (Option.some.inj h : ((14 : Int), (.func (.func 71) #[] #[.pointer (some ⟨b + 0, 0, none⟩)] : Value)) = p)]
    exact e w
  by_cases h1 : i = 1
  · have e : ∀ w : World, (Instr.index 62 (.agg (kcells b)) (.int .i64 1)).run Tryz.prog w = .ok (krow (15, .func (.func 71) #[] #[.pointer (some ⟨b + 1, 0, none⟩)])) w := fun w => by kernel_rfl
    subst h1
    rw [← (Option.some.inj h : ((15 : Int), (.func (.func 71) #[] #[.pointer (some ⟨b + 1, 0, none⟩)] : Value)) = p)]
    exact e w
  by_cases h2 : i = 2
  · have e : ∀ w : World, (Instr.index 62 (.agg (kcells b)) (.int .i64 2)).run Tryz.prog w = .ok (krow (16, .func (.func 74) #[] #[.pointer (some ⟨b + 2, 0, none⟩)])) w := fun w => by kernel_rfl
    subst h2
    rw [← (Option.some.inj h : ((16 : Int), (.func (.func 74) #[] #[.pointer (some ⟨b + 2, 0, none⟩)] : Value)) = p)]
    exact e w
  by_cases h3 : i = 3
  · have e : ∀ w : World, (Instr.index 62 (.agg (kcells b)) (.int .i64 3)).run Tryz.prog w = .ok (krow (17, .func (.func 74) #[] #[.pointer (some ⟨b + 3, 0, none⟩)])) w := fun w => by kernel_rfl
    subst h3
    rw [← (Option.some.inj h : ((17 : Int), (.func (.func 74) #[] #[.pointer (some ⟨b + 3, 0, none⟩)] : Value)) = p)]
    exact e w
  by_cases h4 : i = 4
  · have e : ∀ w : World, (Instr.index 62 (.agg (kcells b)) (.int .i64 4)).run Tryz.prog w = .ok (krow (18, .func (.func 74) #[] #[.pointer (some ⟨b + 4, 0, none⟩)])) w := fun w => by kernel_rfl
    subst h4
    rw [← (Option.some.inj h : ((18 : Int), (.func (.func 74) #[] #[.pointer (some ⟨b + 4, 0, none⟩)] : Value)) = p)]
    exact e w
  by_cases h5 : i = 5
  · have e : ∀ w : World, (Instr.index 62 (.agg (kcells b)) (.int .i64 5)).run Tryz.prog w = .ok (krow (19, .func (.func 43) #[] #[])) w := fun w => by kernel_rfl
    subst h5
    rw [← (Option.some.inj h : ((19 : Int), (.func (.func 43) #[] #[] : Value)) = p)]
    exact e w
  by_cases h6 : i = 6
  · have e : ∀ w : World, (Instr.index 62 (.agg (kcells b)) (.int .i64 6)).run Tryz.prog w = .ok (krow (20, .func (.func 44) #[] #[])) w := fun w => by kernel_rfl
    subst h6
    rw [← (Option.some.inj h : ((20 : Int), (.func (.func 44) #[] #[] : Value)) = p)]
    exact e w
  by_cases h7 : i = 7
  · have e : ∀ w : World, (Instr.index 62 (.agg (kcells b)) (.int .i64 7)).run Tryz.prog w = .ok (krow (21, .func (.func 45) #[] #[])) w := fun w => by kernel_rfl
    subst h7
    rw [← (Option.some.inj h : ((21 : Int), (.func (.func 45) #[] #[] : Value)) = p)]
    exact e w
  by_cases h8 : i = 8
  · have e : ∀ w : World, (Instr.index 62 (.agg (kcells b)) (.int .i64 8)).run Tryz.prog w = .ok (krow (24, .func (.func 46) #[] #[])) w := fun w => by kernel_rfl
    subst h8
    rw [← (Option.some.inj h : ((24 : Int), (.func (.func 46) #[] #[] : Value)) = p)]
    exact e w
  by_cases h9 : i = 9
  · have e : ∀ w : World, (Instr.index 62 (.agg (kcells b)) (.int .i64 9)).run Tryz.prog w = .ok (krow (25, .func (.func 47) #[] #[])) w := fun w => by kernel_rfl
    subst h9
    rw [← (Option.some.inj h : ((25 : Int), (.func (.func 47) #[] #[] : Value)) = p)]
    exact e w
  by_cases h10 : i = 10
  · have e : ∀ w : World, (Instr.index 62 (.agg (kcells b)) (.int .i64 10)).run Tryz.prog w = .ok (krow (26, .func (.func 82) #[] #[.pointer (some ⟨b + 5, 0, none⟩)])) w := fun w => by kernel_rfl
    subst h10
    rw [← (Option.some.inj h : ((26 : Int), (.func (.func 82) #[] #[.pointer (some ⟨b + 5, 0, none⟩)] : Value)) = p)]
    exact e w
  by_cases h11 : i = 11
  · have e : ∀ w : World, (Instr.index 62 (.agg (kcells b)) (.int .i64 11)).run Tryz.prog w = .ok (krow (27, .func (.func 82) #[] #[.pointer (some ⟨b + 6, 0, none⟩)])) w := fun w => by kernel_rfl
    subst h11
    rw [← (Option.some.inj h : ((27 : Int), (.func (.func 82) #[] #[.pointer (some ⟨b + 6, 0, none⟩)] : Value)) = p)]
    exact e w
  by_cases h12 : i = 12
  · have e : ∀ w : World, (Instr.index 62 (.agg (kcells b)) (.int .i64 12)).run Tryz.prog w = .ok (krow (28, .func (.func 82) #[] #[.pointer (some ⟨b + 7, 0, none⟩)])) w := fun w => by kernel_rfl
    subst h12
    rw [← (Option.some.inj h : ((28 : Int), (.func (.func 82) #[] #[.pointer (some ⟨b + 7, 0, none⟩)] : Value)) = p)]
    exact e w
  omega
/-- a kind's function, as the table has it -/
def kfind (b : Nat) (k : Int) : Option (Int × Value) := (kds b).find? fun p => decide (p.1 = k)
/-- makerOf's answer -/
def kres (b : Nat) (k : Int) : Value := match kfind b k with
  | some p => .tuple #[p.2, .bool true]
  | none => .tuple #[.nilFunc, .bool false]
theorem kds_fn {b : Nat} {p : Int × Value} (h : p ∈ kds b) : ∃ f cap, p.2 = .func (.func f) #[] cap := by
  simp only [kds, List.mem_cons, List.not_mem_nil, or_false] at h
  rcases h with rfl | rfl | rfl | rfl | rfl | rfl | rfl | rfl | rfl | rfl | rfl | rfl | rfl <;> exact ⟨_, _, rfl⟩
theorem cells2 {W : World} {b : Nat} {x y : Value} {t : TypeId} (h : W.heap[b]? = some (.cells #[x, y] t (0, 0))) : W.cell? ⟨b, 0, none⟩ = some x ∧ W.cell? ⟨b, 1, none⟩ = some y := by simp [World.cell?, h]
set_option maxRecDepth 100000 in
set_option maxHeartbeats 1000000 in
theorem makerOf_any (k : Int) (w : World) : Calls Tryz.prog 12 #[.int .i64 k] w fun e w' => ∃ b, e = .returned (kres b k) ∧ w.heap.size < b ∧ Kb b w' ∧ Below w.heap.size w w' := by
  have C0 : Hid (Calls Tryz.prog 24 #[] w fun e w' => ∃ b, e = .returned (.agg (kcells b)) ∧ Hid (w.heap.size < b ∧ Kb b w' ∧ Below w.heap.size w w')) := kinds_any w
  have hI := ix13
  have HIF : Hid (∀ b (i : Nat) (p : Int × Value) (w : World), (kds b)[i]? = some p → (Instr.index 62 (.agg (kcells b)) (.int .i64 i)).run Tryz.prog w = .ok (krow p) w) := fun b i p w h => ix13 b w i p h
  clear hI
  go_enter Tryz.func12, Tryz.ntmps12
  go_upto_region 2 with (go_at_call 24; refine C0.out.mono ?_; clear C0; rintro e w0 ⟨b, rfl, HM⟩)
  obtain ⟨A, hA⟩ : ∃ A, kcells b = A := ⟨_, rfl⟩
  have hI : Hid (∀ (i : Nat) (p : Int × Value) (w : World), (kds b)[i]? = some p → (Instr.index 62 (.agg A) (.int .i64 i)).run Tryz.prog w = .ok (krow p) w) := by rw [← hA]; exact HIF.out b
  rw [hA]
  clear HIF hA
  go_loopw [7] (fun t wr => ∃ i : Nat, t = .int .i64 i ∧ i ≤ 13 ∧ Hid (∀ (j : Nat) (p : Int × Value), j < i → (kds b)[j]? = some p → p.1 ≠ k) ∧ Hid (w.heap.size < b ∧ Kb b wr ∧ Below w.heap.size w wr)) (fun t _ => 13 - (intOf t).toNat)
  case atStart => exact ⟨0, rfl, Nat.zero_le _, (fun j p h => by omega), HM⟩
  case round =>
    clear HM
    obtain ⟨i, rfl, hi, HN, HM⟩ := hrel
    by_cases hlt : i < 13
    · obtain ⟨p, hp⟩ : ∃ p, (kds b)[i]? = some p := ⟨(kds b)[i]'hlt, List.getElem?_eq_getElem hlt⟩
      have hJ := hI.out i p wr hp
      have HP : Hid ((kds b)[i]? = some p) := hp
      have hlt' : (i : Int) < 13 := by omega
      obtain ⟨f1, cap, hf1⟩ := kds_fn (List.mem_of_getElem? hp)
      clear hp
      obtain ⟨k1, v1⟩ := p
      simp only at hf1
      subst hf1
      unfold krow at hJ
      simp only at hJ
      have HX : Hid ((wr.alloc (.cells #[.int .i64 k1, .func (.func f1) #[] cap] 61)).heap[wr.heap.size]? = some (.cells #[.int .i64 k1, .func (.func f1) #[] cap] 61 (0, 0))) := World.alloc_heap_new _ _
      have HA : Hid (w.heap.size < b ∧ Kb b (wr.alloc (.cells #[.int .i64 k1, .func (.func f1) #[] cap] 61)) ∧ Below w.heap.size w (wr.alloc (.cells #[.int .i64 k1, .func (.func f1) #[] cap] 61))) := ⟨HM.out.1, HM.out.2.1.below ((Below.refl _ wr).alloc (Nat.le_refl _) _), HM.out.2.2.alloc HM.out.2.2.size _⟩
      by_cases h1 : k1 = k
      · subst h1
        have HF : Hid (kres b k1 = .tuple #[.func (.func f1) #[] cap, .bool true]) := by
          show kres b k1 = _
          unfold kres kfind
          have : (kds b).find? (fun p => decide (p.1 = k1)) = some (k1, .func (.func f1) #[] cap) := by
            rw [List.find?_eq_some_iff_getElem]
            refine ⟨by simp, i, hlt, ?_, fun j hj => ?_⟩
            · have := HP.out; rw [List.getElem?_eq_getElem hlt] at this; exact Option.some.inj this
            · have := HN.out j ((kds b)[j]'(by have : (kds b).length = 13 := rfl; omega)) hj (List.getElem?_eq_getElem _)
              simpa using this
          rw [this]
        clear HN HP hI
        go_upto_region 4 with fail
        generalize wr.alloc (.cells #[.int .i64 k1, .func (.func f1) #[] cap] 61) = W1 at HA HX ⊢
        obtain ⟨x0, x1⟩ := cells2 HX.out
        clear HX HM hJ
        go_wp2
        exact bodyPost_ret (v := .tuple #[.func (.func f1) #[] cap, .bool true]) (by simp [results, Tryz.results12, go_sem]) rfl ⟨b, by rw [HF.out], HA.out⟩
      · have h1' : (k1 == k) = false := by simp [h1]
        have h1'' : decide (k1 = k) = false := by simp [h1]
        go_upto_region 4 with fail
        generalize wr.alloc (.cells #[.int .i64 k1, .func (.func f1) #[] cap] 61) = W1 at HA HX ⊢
        obtain ⟨x0, x1⟩ := cells2 HX.out
        clear HX HM hJ
        go_wp2
        exact ⟨⟨i + 1, by go_num, by omega, (fun j q hj hq => by
          by_cases e : j = i
          · subst e; rw [HP.out] at hq; cases hq; exact h1
          · exact HN.out j q (by omega) hq), HA⟩, by simp [intOf]; omega⟩
    · have hge : ¬ ((i : Int) < 13) := by omega
      have HF : Hid (kres b k = .tuple #[.nilFunc, .bool false]) := by
        show kres b k = _
        unfold kres kfind
        have : (kds b).find? (fun p => decide (p.1 = k)) = none := by
          rw [List.find?_eq_none]
          intro q hq
          obtain ⟨j, hj⟩ := List.mem_iff_getElem?.1 hq
          have hj' : j < 13 := (List.getElem?_eq_some_iff.1 hj).1
          simpa using HN.out j q (by omega) hj
        rw [this]
      clear HN hI
      go_wp2
      exact bodyPost_ret (v := .tuple #[.nilFunc, .bool false]) (by simp [results, Tryz.results12, go_sem]) rfl ⟨b, by rw [HF.out], HM.out⟩
end Go.Proofs.YtdggbnkhbmffoaaGreatDoor
namespace Go.Proofs.YtdggbnkhbmffoaaGreatDoor
open Go.RowKit Go.Shelf Bod Wid

/-- a function value that leads from boundaries of s to boundaries, as g does -/
structure Stp (w : World) (s : ByteArray) (g : Nat → Nat) (fv : Value) : Prop where
  ex : ∃ f, fv = .func (.func f) #[] #[] ∧ (∀ args W, (callFunc f args).run Tryz.prog W = .ok (.enter f args) W) ∧
    ∀ W (b : Nat), Below w.heap.size w W → cbZ s b = true → Calls Tryz.prog f #[.string s, .int .i64 b] W fun r W' => r = .returned (.int .i64 (g b : Nat)) ∧ Below W.heap.size W W'
  cb : ∀ b : Nat, cbZ s b = true → cbZ s (g b) = true
/-- the closure that times makes, with its two boxes -/
structure Tb (w : World) (c : Nat) (fv : Value) (b : Nat) (W : World) : Prop where
  bel : Below w.heap.size w W
  c : W.cell? ⟨b, 0, none⟩ = some (.int .i64 c)
  f : W.cell? ⟨b + 1, 0, none⟩ = some fv
  lt : b + 1 < W.heap.size
theorem Tb.below {w W X : World} {c b : Nat} {fv : Value} (h : Tb w c fv b W) (hb : Below W.heap.size W X) : Tb w c fv b X :=
  ⟨below_on h.bel hb, (hb.cell (p := ⟨b, 0, none⟩) (by have := h.lt; show b < _; omega)).trans h.c, (hb.cell (p := ⟨b + 1, 0, none⟩) h.lt).trans h.f, Nat.lt_of_lt_of_le h.lt hb.size⟩
set_option maxRecDepth 100000 in
set_option maxHeartbeats 1000000 in
theorem times_any (w : World) (c : Nat) (f : Nat) : Calls Tryz.prog 73 #[.int .i64 c, .func (.func f) #[] #[]] w fun e W' => ∃ b, e = .returned (.func (.func 102) #[] #[.pointer (some ⟨b, 0, none⟩), .pointer (some ⟨b + 1, 0, none⟩)]) ∧ Tb w c (.func (.func f) #[] #[]) b W' := by
  go_enter Tryz.func73, Tryz.ntmps73
  go_wp2
  refine bodyPost_ret (v := .func (.func 102) #[] #[.pointer (some ⟨w.heap.size, 0, none⟩), .pointer (some ⟨w.heap.size + 1, 0, none⟩)]) (by simp [results, Tryz.results73, go_sem]) rfl ⟨_, rfl, ((Below.refl _ w).alloc (Nat.le_refl _) _).alloc (by simp) _, ?_, ?_, by simp⟩
  · unfold World.cell?
    rw [Below.heap_alloc _ _ _ (by simp), World.alloc_heap_new]
    rfl
  · unfold World.cell?
    have := World.alloc_heap_new (w.alloc (.cells #[.int .i64 c] 3)) (.cells #[.func (.func f) #[] #[]] 95)
    rw [show (w.alloc (.cells #[.int .i64 c] 3)).heap.size = w.heap.size + 1 by simp] at this
    rw [this]
    rfl
set_option maxRecDepth 100000 in
set_option maxHeartbeats 1000000 in
theorem times1_any {w : World} {s : ByteArray} {g : Nat → Nat} {fv : Value} (h : Stp w s g fv) {c b : Nat} {W : World} (hW : Tb w c fv b W) (hs : s.size ≤ 1099511627776) (hc : c ≤ 1000) (a : Nat) (ha : cbZ s a = true) :
    Calls Tryz.prog 102 #[.string s, .int .i64 a, .pointer (some ⟨b, 0, none⟩), .pointer (some ⟨b + 1, 0, none⟩)] W fun e W' => e = .returned (.int .i64 (rpt g c a : Nat)) ∧ Below W.heap.size W W' := by
  obtain ⟨⟨f, rfl, en, C⟩, hcb⟩ := h
  have HT : Hid (∀ X, Below W.heap.size W X → X.cell? ⟨b, 0, none⟩ = some (.int .i64 c) ∧ X.cell? ⟨b + 1, 0, none⟩ = some (.func (.func f) #[] #[])) := fun X hX => ⟨(hW.below hX).c, (hW.below hX).f⟩
  have HC : Hid (∀ X (p : Nat), Below W.heap.size W X → cbZ s p = true → Calls Tryz.prog f #[.string s, .int .i64 p] X fun r W' => r = .returned (.int .i64 (g p : Nat)) ∧ Hid (Below W.heap.size W W')) := fun X p hX hp => (C X p (below_on hW.bel hX) hp).mono fun r W' ⟨q1, q2⟩ => ⟨q1, below_on hX q2⟩
  have HP : Hid (∀ p : Nat, cbZ s p = true → cbZ s (g p) = true ∧ p ≤ 1099511627776) := fun p hp => ⟨hcb p hp, by have := cb_le hp; omega⟩
  obtain ⟨R, hR⟩ : ∃ R, rpt g c a = R := ⟨_, rfl⟩
  have HI : Hid (cbZ s a = true ∧ rpt g c a = R) := ⟨ha, hR⟩
  have hc' : (c : Int) ≤ 1000 := by omega
  have HB0 : Hid (Below W.heap.size W W) := Below.refl _ _
  rw [hR]
  clear C hW hR ha hcb
  obtain ⟨c0, -⟩ := HT.out W HB0.out
  go_enter Tryz.func102, Tryz.ntmps102
  go_wp2
  go_loopw [1, 8] (fun t1 t8 wr => ∃ (p k : Nat), t1 = .int .i64 p ∧ t8 = .int .i64 k ∧ k ≤ c ∧ Hid (cbZ s p = true ∧ rpt g (c - k) p = R) ∧ Hid (Below W.heap.size W wr)) (fun _ t8 _ => c - (intOf t8).toNat)
  case atStart => exact ⟨a, 0, rfl, rfl, Nat.zero_le _, HI, HB0⟩
  case round =>
    clear HI HB0 c0
    obtain ⟨p, k, rfl, rfl, hk, HQ, HB⟩ := hrel
    obtain ⟨hn, hbl⟩ := HP.out p HQ.out.1
    obtain ⟨-, c1⟩ := HT.out wr HB.out
    by_cases hlt : k < c
    · have hlt' : (k : Int) < c := by omega
      have HN : Hid (cbZ s (g p) = true ∧ rpt g (c - (k + 1)) (g p) = R) := by
        refine ⟨hn, ?_⟩
        have := HQ.out.2
        rw [show c - k = (c - (k + 1)) + 1 by omega] at this
        exact this
      have CB : Hid (Calls Tryz.prog f #[.string s, .int .i64 p] wr fun r W' => r = .returned (.int .i64 (g p : Nat)) ∧ Hid (Below W.heap.size W W')) := HC.out wr p HB.out HQ.out.1
      generalize g p = p' at HN CB hn
      clear HQ hn
      go_wp2_with (go_at_fn f; refine CB.out.mono ?_; clear CB HB; rintro r w1 ⟨rfl, HB⟩)
      exact ⟨⟨p', k + 1, rfl, by go_num, by omega, HN, HB⟩, by simp [intOf]; omega⟩
    · have hlt' : ¬ ((k : Int) < c) := by omega
      have HR : Hid (p = R) := by have := HQ.out.2; rw [show c - k = 0 by omega] at this; exact this
      clear HQ hn
      go_wp2
      go_ret
      exact ⟨ret_int (by rw [HR.out]), HB.out⟩
end Go.Proofs.YtdggbnkhbmffoaaGreatDoor
namespace Go.Proofs.YtdggbnkhbmffoaaGreatDoor
open Go.RowKit Go.Shelf Bod Wid

/-- a call of a maker with a step in a box -/
structure Fd (w : World) (s : ByteArray) (a : Nat) (r : Int) (n bx : Nat) (fv : Value) (W : World) : Prop where
  f : Fb w s a r n W
  x : W.cell? ⟨bx, 0, none⟩ = some fv
  lt : bx < w.heap.size
theorem Fd.below {w W X : World} {s : ByteArray} {a n bx : Nat} {r : Int} {fv : Value} (h : Fd w s a r n bx fv W) (hb : Below W.heap.size W X) : Fd w s a r n bx fv X :=
  ⟨h.f.below hb, (hb.cell (p := ⟨bx, 0, none⟩) (Nat.lt_of_lt_of_le h.lt h.f.bel.size)).trans h.x, h.lt⟩
theorem Fd.get {w W : World} {s : ByteArray} {a n bx : Nat} {r : Int} {fv : Value} (h : Fd w s a r n bx fv W) : W.cell? ⟨w.heap.size, 0, none⟩ = some (.string s) ∧ W.cell? ⟨w.heap.size, 1, none⟩ = some (.int .i64 a) ∧ W.cell? ⟨w.heap.size, 2, none⟩ = some (.int .i64 r) ∧ W.cell? ⟨w.heap.size, 3, none⟩ = some (.int .i64 n) ∧ W.cell? ⟨bx, 0, none⟩ = some fv :=
  ⟨h.f.get.1.1, h.f.get.1.2.1, h.f.get.1.2.2.1, h.f.get.1.2.2.2, h.x⟩
set_option maxRecDepth 100000 in
set_option maxHeartbeats 2000000 in
theorem del1_any {w₀ w : World} {s : ByteArray} {g : Nat → Nat} {fv : Value} (h : Stp w₀ s g fv) (hw : Below w₀.heap.size w₀ w) (hs : s.size ≤ 1099511627776) (a : Nat) (ha : cbZ s a = true) (r : Int) (n : Nat) (hn : n ≤ 1000) (bx : Nat) (hx : w.cell? ⟨bx, 0, none⟩ = some fv) (hbx : bx < w.heap.size) :
    Calls Tryz.prog 71 #[scv s a r n, .pointer (some ⟨bx, 0, none⟩)] w fun e W' => e = .returned (rsv (cutP a (rpt g n a))) ∧ Below w.heap.size w W' := by
  have hal := cb_le ha
  have hrb := cb_le (rpt_inv (P := fun p : Nat => cbZ s p = true) h.cb n a ha)
  obtain ⟨R, hR⟩ : ∃ R, rpt g n a = R := ⟨_, rfl⟩
  rw [hR] at hrb
  obtain ⟨c, e, hce⟩ : ∃ c e, cutP a R = (c, e) := ⟨_, _, rfl⟩
  obtain ⟨q0, q1, q2, q3, q4, q5⟩ := c
  obtain ⟨⟨f, rfl, en, C⟩, hcb⟩ := id h
  have HF : Hid (Fd w s a r n bx (.func (.func f) #[] #[]) ((w.alloc (.cells #[.string s, .int .i64 a, .int .i64 r, .int .i64 n] 50)).alloc (.cells #[.int .i64 0, .int .i64 0, .string ⟨#[]⟩, .int .i64 0, .string ⟨#[]⟩, .bool false] 29))) := ⟨fb0 w s a r n, ((fb0 w s a r n).bel.cell (p := ⟨bx, 0, none⟩) hbx).trans hx, hbx⟩
  have C1 : Hid (∀ W, Fd w s a r n bx (.func (.func f) #[] #[]) W → Calls Tryz.prog 73 #[.int .i64 n, .func (.func f) #[] #[]] W fun e W' => ∃ b, e = .returned (.func (.func 102) #[] #[.pointer (some ⟨b, 0, none⟩), .pointer (some ⟨b + 1, 0, none⟩)]) ∧ Hid (Fd w s a r n bx (.func (.func f) #[] #[]) W' ∧ Tb w n (.func (.func f) #[] #[]) b W')) := fun W hW => (times_any W n f).mono fun e W' ⟨b, k1, k2⟩ => ⟨b, k1, hW.below k2.bel, ⟨below_on hW.f.bel k2.bel, k2.c, k2.f, k2.lt⟩⟩
  have C2 : Hid (∀ W b, Fd w s a r n bx (.func (.func f) #[] #[]) W ∧ Tb w n (.func (.func f) #[] #[]) b W → Calls Tryz.prog 102 #[.string s, .int .i64 a, .pointer (some ⟨b, 0, none⟩), .pointer (some ⟨b + 1, 0, none⟩)] W fun e W' => e = .returned (.int .i64 R) ∧ Hid (Fd w s a r n bx (.func (.func f) #[] #[]) W')) := fun W b hW => by
    have h2 : Stp w s g (.func (.func f) #[] #[]) := ⟨⟨f, rfl, en, fun X p hX hp => C X p (below_on hw hX) hp⟩, hcb⟩
    have := times1_any h2 hW.2 hs hn a ha
    rw [hR] at this
    exact this.mono fun e W' ⟨k1, k2⟩ => ⟨k1, hW.1.below k2⟩
  have C3 : Hid (∀ W, Fd w s a r n bx (.func (.func f) #[] #[]) W → Calls Tryz.prog 72 #[.agg #[.string s, .int .i64 a, .int .i64 r, .int .i64 n], .int .i64 R] W fun e' W' => e' = .returned (.tuple #[.agg #[.int .i64 q0, .int .i64 q1, .string q2, .int .i64 q3, .string q4, .bool q5], .int .i64 e]) ∧ Hid (Fd w s a r n bx (.func (.func f) #[] #[]) W')) := fun W hW => by
    have := cutTo_any W s a r n R (by omega) (by omega)
    rw [hce] at this
    exact this.mono fun e W' ⟨k1, k2⟩ => ⟨k1, hW.below k2⟩
  rw [hR, hce]
  unfold scv
  clear h C hcb hR hce hx en
  go_enter Tryz.func71, Tryz.ntmps71
  go_wp2
  generalize (w.alloc (.cells #[.string s, .int .i64 a, .int .i64 r, .int .i64 n] 50)).alloc (.cells #[.int .i64 0, .int .i64 0, .string ⟨#[]⟩, .int .i64 0, .string ⟨#[]⟩, .bool false] 29) = W0 at HF ⊢
  obtain ⟨c0, c1, c2, c3, c4⟩ := HF.out.get
  have hn1 : ¬ bx = w.heap.size + 1 := by omega
  have hn2 : ¬ w.heap.size + 1 = bx := by omega
  have HD : Hid (Fd w s a r n bx (.func (.func f) #[] #[]) W0.drew) := HF.out.below ⟨rfl, rfl, rfl, Nat.le_refl _, fun _ _ => rfl⟩
  go_region_held3 (fun W => W.cell? ⟨w.heap.size, 0, none⟩ = some (.string s) ∧ W.cell? ⟨w.heap.size, 1, none⟩ = some (.int .i64 a) ∧ W.cell? ⟨w.heap.size, 2, none⟩ = some (.int .i64 r) ∧ W.cell? ⟨w.heap.size, 3, none⟩ = some (.int .i64 n) ∧ W.cell? ⟨bx, 0, none⟩ = some (.func (.func f) #[] #[]))
    (first | go_keep | exact HD.out.get)
    (first
      | (go_at_call 73; refine (C1.out _ HD.out).mono ?_; clear C1 HD HF; rintro e' w1 ⟨b, rfl, H1⟩; have HD : Hid (Fd w s a r n bx (.func (.func f) #[] #[]) w1) := H1.out.1)
      | (go_at_call 102; refine (C2.out _ _ H1.out).mono ?_; clear C2 HD H1; rintro e' w2 ⟨rfl, HD⟩)
      | (go_at_call 72; refine (C3.out _ HD.out).mono ?_; clear C3 HD; rintro e' w3 ⟨rfl, HD⟩; obtain ⟨⟨y0, y1, y2, y3⟩, ⟨f0, f1, f2, f3, f4, f5⟩, ⟨z0, z1, z2, z3, z4, z5⟩⟩ := HD.out.f.get; have y4 := HD.out.x))
  go_wp2
  obtain ⟨k1, k2, k3, k4, k5, k6, k7⟩ := HD.out.f.fin (.int .i64 q0) (.int .i64 q1) (.string q2) (.int .i64 q3) (.string q4) (.bool q5)
  exact bodyPost_ret (v := rsv (⟨q0, q1, q2, q3, q4, q5⟩, e)) (by simp [results, Tryz.results71, go_sem, rsv, chc, k2, k3, k4, k5, k6, k7]) rfl ⟨rfl, k1⟩
set_option maxRecDepth 100000 in
set_option maxHeartbeats 2000000 in
theorem kil1_any {w₀ w : World} {s : ByteArray} {g : Nat → Nat} {fv : Value} (h : Stp w₀ s g fv) (hw : Below w₀.heap.size w₀ w) (hs : s.size ≤ 1099511627776) (a : Nat) (ha : cbZ s a = true) (r : Int) (n : Nat) (hn : n ≤ 1000) (bx : Nat) (hx : w.cell? ⟨bx, 0, none⟩ = some fv) (hbx : bx < w.heap.size) :
    Calls Tryz.prog 74 #[scv s a r n, .pointer (some ⟨bx, 0, none⟩)] w fun e W' => e = .returned (rsv (killP s a (rpt g n a))) ∧ Below w.heap.size w W' := by
  have hal := cb_le ha
  have hrb := cb_le (rpt_inv (P := fun p : Nat => cbZ s p = true) h.cb n a ha)
  obtain ⟨R, hR⟩ : ∃ R, rpt g n a = R := ⟨_, rfl⟩
  rw [hR] at hrb
  obtain ⟨c, e, hce⟩ : ∃ c e, killP s a R = (c, e) := ⟨_, _, rfl⟩
  obtain ⟨q0, q1, q2, q3, q4, q5⟩ := c
  obtain ⟨⟨f, rfl, en, C⟩, hcb⟩ := id h
  have HF : Hid (Fd w s a r n bx (.func (.func f) #[] #[]) ((w.alloc (.cells #[.string s, .int .i64 a, .int .i64 r, .int .i64 n] 50)).alloc (.cells #[.int .i64 0, .int .i64 0, .string ⟨#[]⟩, .int .i64 0, .string ⟨#[]⟩, .bool false] 29))) := ⟨fb0 w s a r n, ((fb0 w s a r n).bel.cell (p := ⟨bx, 0, none⟩) hbx).trans hx, hbx⟩
  have C1 : Hid (∀ W, Fd w s a r n bx (.func (.func f) #[] #[]) W → Calls Tryz.prog 73 #[.int .i64 n, .func (.func f) #[] #[]] W fun e W' => ∃ b, e = .returned (.func (.func 102) #[] #[.pointer (some ⟨b, 0, none⟩), .pointer (some ⟨b + 1, 0, none⟩)]) ∧ Hid (Fd w s a r n bx (.func (.func f) #[] #[]) W' ∧ Tb w n (.func (.func f) #[] #[]) b W')) := fun W hW => (times_any W n f).mono fun e W' ⟨b, k1, k2⟩ => ⟨b, k1, hW.below k2.bel, ⟨below_on hW.f.bel k2.bel, k2.c, k2.f, k2.lt⟩⟩
  have C2 : Hid (∀ W b, Fd w s a r n bx (.func (.func f) #[] #[]) W ∧ Tb w n (.func (.func f) #[] #[]) b W → Calls Tryz.prog 102 #[.string s, .int .i64 a, .pointer (some ⟨b, 0, none⟩), .pointer (some ⟨b + 1, 0, none⟩)] W fun e W' => e = .returned (.int .i64 R) ∧ Hid (Fd w s a r n bx (.func (.func f) #[] #[]) W')) := fun W b hW => by
    have h2 : Stp w s g (.func (.func f) #[] #[]) := ⟨⟨f, rfl, en, fun X p hX hp => C X p (below_on hw hX) hp⟩, hcb⟩
    have := times1_any h2 hW.2 hs hn a ha
    rw [hR] at this
    exact this.mono fun e W' ⟨k1, k2⟩ => ⟨k1, hW.1.below k2⟩
  have C3 : Hid (∀ W, Fd w s a r n bx (.func (.func f) #[] #[]) W → Calls Tryz.prog 75 #[.agg #[.string s, .int .i64 a, .int .i64 r, .int .i64 n], .int .i64 R] W fun e' W' => e' = .returned (.tuple #[.agg #[.int .i64 q0, .int .i64 q1, .string q2, .int .i64 q3, .string q4, .bool q5], .int .i64 e]) ∧ Hid (Fd w s a r n bx (.func (.func f) #[] #[]) W')) := fun W hW => by
    have := killTo_any W s a r n R hs hal hrb
    rw [hce] at this
    exact this.mono fun e W' ⟨k1, k2⟩ => ⟨k1, hW.below k2⟩
  rw [hR, hce]
  unfold scv
  clear h C hcb hR hce hx en
  go_enter Tryz.func74, Tryz.ntmps74
  go_wp2
  generalize (w.alloc (.cells #[.string s, .int .i64 a, .int .i64 r, .int .i64 n] 50)).alloc (.cells #[.int .i64 0, .int .i64 0, .string ⟨#[]⟩, .int .i64 0, .string ⟨#[]⟩, .bool false] 29) = W0 at HF ⊢
  obtain ⟨c0, c1, c2, c3, c4⟩ := HF.out.get
  have hn1 : ¬ bx = w.heap.size + 1 := by omega
  have hn2 : ¬ w.heap.size + 1 = bx := by omega
  have HD : Hid (Fd w s a r n bx (.func (.func f) #[] #[]) W0.drew) := HF.out.below ⟨rfl, rfl, rfl, Nat.le_refl _, fun _ _ => rfl⟩
  go_region_held3 (fun W => W.cell? ⟨w.heap.size, 0, none⟩ = some (.string s) ∧ W.cell? ⟨w.heap.size, 1, none⟩ = some (.int .i64 a) ∧ W.cell? ⟨w.heap.size, 2, none⟩ = some (.int .i64 r) ∧ W.cell? ⟨w.heap.size, 3, none⟩ = some (.int .i64 n) ∧ W.cell? ⟨bx, 0, none⟩ = some (.func (.func f) #[] #[]))
    (first | go_keep | exact HD.out.get)
    (first
      | (go_at_call 73; refine (C1.out _ HD.out).mono ?_; clear C1 HD HF; rintro e' w1 ⟨b, rfl, H1⟩; have HD : Hid (Fd w s a r n bx (.func (.func f) #[] #[]) w1) := H1.out.1)
      | (go_at_call 102; refine (C2.out _ _ H1.out).mono ?_; clear C2 HD H1; rintro e' w2 ⟨rfl, HD⟩)
      | (go_at_call 75; refine (C3.out _ HD.out).mono ?_; clear C3 HD; rintro e' w3 ⟨rfl, HD⟩; obtain ⟨⟨y0, y1, y2, y3⟩, ⟨f0, f1, f2, f3, f4, f5⟩, ⟨z0, z1, z2, z3, z4, z5⟩⟩ := HD.out.f.get; have y4 := HD.out.x))
  go_wp2
  obtain ⟨k1, k2, k3, k4, k5, k6, k7⟩ := HD.out.f.fin (.int .i64 q0) (.int .i64 q1) (.string q2) (.int .i64 q3) (.string q4) (.bool q5)
  exact bodyPost_ret (v := rsv (⟨q0, q1, q2, q3, q4, q5⟩, e)) (by simp [results, Tryz.results74, go_sem, rsv, chc, k2, k3, k4, k5, k6, k7]) rfl ⟨rfl, k1⟩
end Go.Proofs.YtdggbnkhbmffoaaGreatDoor
namespace Go.Proofs.YtdggbnkhbmffoaaGreatDoor
open Go.RowKit Go.Shelf Bod Wid

theorem cn_zero {s : ByteArray} {p : Nat} : ∀ a : Nat, p ≤ a → a ≤ s.size → (∀ j, p ≤ j → j < a → byt s j ≠ 10) → cn s p a = 0
  | 0, h, _, _ => by rw [show p = 0 by omega]; exact cn_self _ _
  | a + 1, h, hs, hn => by
    by_cases e : p = a + 1
    · rw [e]; exact cn_self _ _
    · rw [cn_add (s := s) (a := p) (b := a) (c := a + 1) (by omega) (by omega), cn_zero a (by omega) (by omega) (fun j h1 h2 => hn j h1 (by omega)), cn_one (by omega), if_neg (hn a (by omega) (by omega))]
theorem byt_bang {s : ByteArray} {j : Nat} (h : j < s.size) : s.data[j]! = byt s j := by
  rw [byt_get h]
  obtain ⟨d⟩ := s
  exact getElem!_pos d j h
theorem byt_num {s : ByteArray} {j : Nat} (h : j < s.size) : ((s.data[j]!).toNat : Int) = 10 ↔ byt s j = 10 := by
  rw [byt_bang h]
  exact ⟨fun e => UInt8.toNat_inj.1 (by simpa using (show (byt s j).toNat = 10 by omega)), fun e => by rw [e]; rfl⟩
theorem byt_at {s : ByteArray} {k : Nat} {c : UInt8} : s.data.toList[k]? = some c ↔ k < s.size ∧ byt s k = c := by
  obtain ⟨d⟩ := s
  show d.toList[k]? = some c ↔ k < d.size ∧ d.toList.getD k 0 = c
  rw [List.getD_eq_getElem?_getD, List.getElem?_eq_some_iff]
  constructor
  · rintro ⟨h, e⟩
    exact ⟨by simpa using h, by rw [List.getElem?_eq_getElem h]; exact e⟩
  · rintro ⟨h, e⟩
    have h' : k < d.toList.length := by simpa using h
    rw [List.getElem?_eq_getElem h'] at e
    exact ⟨h', e⟩
/-- the last newline's LF ahead of a place -/
theorem last_lf {s : ByteArray} {a p : Nat} (ha : a ≤ s.size) (h : IsL s a p) : Lib.lastIndexByte (s.extract 0 a) 10 = (p : Int) - 1 := by
  have hz : (s.extract 0 a).size = a := by rw [size_extract s 0 a ha]; omega
  have hb : ∀ j, j < a → byt (s.extract 0 a) j = byt s j := fun j hj => by rw [byt_ext (by omega), Nat.zero_add]
  have := Lib.lastIdx_spec (s.extract 0 a) 10 (s.extract 0 a).size
  unfold Lib.lastIndexByte
  rcases this with ⟨e, hn⟩ | ⟨i, hi, e, h1, h2⟩
  · rw [e]
    have : p = 0 := by
      rcases h.2.1 with q | q
      · exact q
      · rcases Nat.eq_zero_or_pos p with z | z
        · exact z
        · have hp := h.1
          have := hn (p - 1) (by omega)
          rw [Ne, byt_num (by omega), hb _ (by omega)] at this
          exact absurd q this
    omega
  · rw [e]
    rw [hz] at hi h2
    rw [byt_num (by omega), hb _ hi] at h1
    have hL : IsL s a (i + 1) := ⟨by omega, .inr (by simpa using h1), cn_zero a (by omega) ha fun j j1 j2 => by
      have := h2 j (by omega) j2
      rw [Ne, byt_num (by omega), hb _ j2] at this
      exact this⟩
    have := h.uniq ha hL
    omega
/-- the first LF behind a place -/
theorem first_lf {s : ByteArray} {a : Nat} (ha : a ≤ s.size) : (cn s a s.size = 0 → Lib.indexByte (s.extract a s.size).data.toList 10 = -1) ∧
    ∀ q : Nat, a < q → q ≤ s.size → cn s a (q - 1) = 0 → byt s (q - 1) = 10 → Lib.indexByte (s.extract a s.size).data.toList 10 = ((q - 1 - a : Nat) : Int) := by
  have hz := size_extract s a s.size (Nat.le_refl _)
  have hb : ∀ j, j < s.size - a → byt (s.extract a s.size) j = byt s (a + j) := fun j hj => byt_ext (by omega)
  have hg := Lib.indexByte_ge (s.extract a s.size).data.toList 10
  constructor
  · intro h0
    rcases Int.lt_or_le (-1) (Lib.indexByte (s.extract a s.size).data.toList 10) with e | e
    · obtain ⟨o, ho⟩ := Int.eq_ofNat_of_zero_le (show 0 ≤ Lib.indexByte (s.extract a s.size).data.toList 10 by omega)
      obtain ⟨k1, k2⟩ := byt_at.1 (Lib.indexByte_some ho).1
      rw [hb _ (by omega)] at k2
      exact absurd k2 (cn_in h0 (by omega) (by omega) (Nat.le_refl _))
    · omega
  · intro q q1 q2 q3 q4
    have hq : (s.extract a s.size).data.toList[q - 1 - a]? = some 10 := byt_at.2 ⟨by omega, by rw [hb _ (by omega), show a + (q - 1 - a) = q - 1 by omega]; exact q4⟩
    rcases Int.lt_or_le (-1) (Lib.indexByte (s.extract a s.size).data.toList 10) with e | e
    · obtain ⟨o, ho⟩ := Int.eq_ofNat_of_zero_le (show 0 ≤ Lib.indexByte (s.extract a s.size).data.toList 10 by omega)
      obtain ⟨i1, i2⟩ := Lib.indexByte_some ho
      obtain ⟨k1, k2⟩ := byt_at.1 i1
      rw [hb _ (by omega)] at k2
      rcases Nat.lt_trichotomy o (q - 1 - a) with l | l | l
      · exact absurd k2 (cn_in q3 (by omega) (by omega) (by omega))
      · rw [ho, l]
      · exact absurd hq (i2 _ l)
    · exact absurd hq (Lib.indexByte_none (by omega) _)
set_option maxRecDepth 100000 in
set_option maxHeartbeats 1000000 in
theorem lineStart_any (s : ByteArray) (hs : s.size ≤ 1099511627776) (a : Nat) (ha : cbZ s a = true) (w : World) : Calls Tryz.prog 79 #[.string s, .int .i64 a] w fun e W' => e = .returned (.int .i64 (lnP s a).1) ∧ Below w.heap.size w W' := by
  have hal := cb_le ha
  have hp := lnP_pl ha
  have hle := hp.le
  have e := last_lf hal hp.l
  have hz : (s.extract 0 a).size = a := by rw [size_extract s 0 a hal]; omega
  have C := Tryz.strings_LastIndexByte (s.extract 0 a) 10 (by omega) w
  rw [e] at C
  generalize (lnP s a).1 = p at *
  have b1 : (p : Int) ≤ 1099511627776 := by omega
  have C1 : Hid (Calls Tryz.prog 106 #[.string (s.extract 0 a), .int .u8 10] w fun e W' => e = .returned (.int .i64 ((p : Int) - 1)) ∧ W' = w) := C
  clear C e hz hp ha
  go_enter Tryz.func79, Tryz.ntmps79
  go_wp2_with (go_at_call 106; refine C1.out.mono ?_; clear C1; rintro e w1 ⟨rfl, rfl⟩)
  go_ret
  exact ⟨ret_int (by omega), Below.refl _ _⟩
set_option maxRecDepth 100000 in
set_option maxHeartbeats 1000000 in
theorem lineEnd_any (s : ByteArray) (hs : s.size ≤ 1099511627776) (a : Nat) (ha : cbZ s a = true) (w : World) (hT : Tw w) : Calls Tryz.prog 78 #[.string s, .int .i64 a] w fun e W' => e = .returned (.int .i64 (lnP s a).2) ∧ Below w.heap.size w W' := by
  have hal := cb_le ha
  have hp := lnP_pl ha
  have hle := hp.le
  obtain ⟨i1, i2⟩ := first_lf hal
  have C := Tryz.strings_IndexByte (s.extract a s.size) 10 w
  rcases hp.fin with ⟨f1, f2⟩ | ⟨q, q1, q2, q3, q4, q5, q6⟩
  · rw [show ((10 : Int)).toNat.toUInt8 = (10 : UInt8) from rfl, i1 f1] at C
    rw [f2]
    have C1 : Hid (Calls Tryz.prog 105 #[.string (s.extract a s.size), .int .u8 10] w fun e W' => e = .returned (.int .i64 (-1)) ∧ W' = w) := C
    clear C i1 i2 hp f2 f1 ha hle
    go_enter Tryz.func78, Tryz.ntmps78
    go_wp2_with (go_at_call 105; refine C1.out.mono ?_; clear C1; rintro e w1 ⟨rfl, rfl⟩)
    go_ret
    exact ⟨rfl, Below.refl _ _⟩
  · rw [show ((10 : Int)).toNat.toUInt8 = (10 : UInt8) from rfl, i2 q q1 q2 q3 q4] at C
    obtain ⟨o, ho⟩ : ∃ o, q - 1 - a = o := ⟨_, rfl⟩
    rw [ho] at C
    have C2 := cprev_any s (((a : Int) + o) + 1) (by unfold maxLen; omega) w hT.t (by omega)
    rw [show ((a : Int) + o) + 1 = q by omega] at C2
    have C3 : Hid (Calls Tryz.prog 38 #[.string s, .int .i64 (((a : Int) + o) + 1)] w fun e W' => e = .returned (.int .i64 (lnP s a).2) ∧ Hid (Below w.heap.size w W')) := by
      rw [show ((a : Int) + o) + 1 = q by omega]
      exact C2.mono fun e W' ⟨m, k1, k2, k3⟩ => ⟨by rw [k1, k2.uniq q5], k3⟩
    have C1 : Hid (Calls Tryz.prog 105 #[.string (s.extract a s.size), .int .u8 10] w fun e W' => e = .returned (.int .i64 (o : Nat)) ∧ W' = w) := C
    have b1 : (a : Int) + o ≤ 1099511627776 := by omega
    generalize (lnP s a).2 = b at *
    clear C C2 i1 i2 hp ha hle q1 q2 q3 q4 q5 q6 ho
    go_enter Tryz.func78, Tryz.ntmps78
    go_wp2_with (first | (go_at_call 105; refine C1.out.mono ?_; clear C1; rintro e w1 ⟨rfl, rfl⟩) | (go_at_call 38; refine C3.out.mono ?_; clear C3; rintro e w2 ⟨rfl, HB⟩))
    go_ret
    exact ⟨rfl, HB.out⟩
set_option maxRecDepth 100000 in
set_option maxHeartbeats 1000000 in
theorem lineAhead_any (s : ByteArray) (hs : s.size ≤ 1099511627776) (a : Nat) (ha : cbZ s a = true) (w : World) (hT : Tw w) : Calls Tryz.prog 42 #[.string s, .int .i64 a] w fun e W' => e = .returned (.int .i64 (lnA s a)) ∧ Below w.heap.size w W' := by
  have C1 : Hid (Calls Tryz.prog 78 #[.string s, .int .i64 a] w fun e W' => e = .returned (.int .i64 (lnP s a).2) ∧ Hid (Below w.heap.size w W')) := lineEnd_any s hs a ha w hT
  have C2 : Hid (∀ W, Below w.heap.size w W → Calls Tryz.prog 26 #[.string s, .int .i64 a] W fun e W' => e = .returned (.int .i64 (nxt s a)) ∧ Hid (Below w.heap.size w W')) := fun W hW => (cnext_any s a (by unfold maxLen; omega) W (hT.below hW).t).mono fun e W' ⟨m, k1, k2, k3⟩ => ⟨by rw [k1, k2.uniq (nxt_is s a)], below_on hW k3⟩
  unfold lnA
  generalize (lnP s a).2 = b at *
  generalize nxt s a = m at *
  by_cases h : b = a
  · subst h
    rw [if_pos rfl]
    clear ha
    go_enter Tryz.func42, Tryz.ntmps42
    go_wp2_with (first | (go_at_call 78; refine C1.out.mono ?_; clear C1; rintro e w1 ⟨rfl, HB⟩) | (go_at_call 26; refine (C2.out _ HB.out).mono ?_; clear C2 HB; rintro e w2 ⟨rfl, HB⟩))
    go_ret
    exact ⟨rfl, HB.out⟩
  · rw [if_neg h]
    have h1 : ¬ ((b : Int) = a) := by omega
    have h2 : ((b : Int) == a) = false := by simp; omega
    clear ha C2
    go_enter Tryz.func42, Tryz.ntmps42
    go_wp2_with (go_at_call 78; refine C1.out.mono ?_; clear C1; rintro e w1 ⟨rfl, HB⟩)
    go_ret
    exact ⟨rfl, HB.out⟩
end Go.Proofs.YtdggbnkhbmffoaaGreatDoor
