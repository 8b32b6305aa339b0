/-
  The statements' own 'awake' of layer 20 returns true. Conditions: the tables of unicode/utf8 lie as their text lays them.
-/
import Derived.Test.YtfjoklbiocniiaaDoorOLw
namespace Go.Proofs.YtfjoklbiocniiaaDoor
open Go.RowKit Go.Shelf Bod Wid
theorem Fr.len {w Y : World} {ov : Value} {R : List (List Cel)} (h : Fr w ov R Y) : ∃ oa ok, ov = .slice oa R.length ok := by
  obtain ⟨vs, rfl, h2, -⟩ := h
  obtain ⟨a, k, e⟩ := o_slice h2
  exact ⟨a, k, by simpa using e⟩
theorem Fr.below {w Y Z : World} {ov : Value} {R : List (List Cel)} (h : Fr w ov R Y) (hb : Below Y.heap.size Y Z) : Fr w ov R Z := by
  obtain ⟨vs, h1, h2, h3, h4⟩ := h
  have kp : ∀ g, g < Y.heap.size → Z.heap[g]? = Y.heap[g]? := fun g hg => hb.block g hg
  exact ⟨vs, h1, o_keep h2 (fun g e => kp g (o_blk h2 e).2.2), fun o ho => o_keep (h3 o ho) (fun g e => kp g (o_blk (h3 o ho) e).2.2), h4⟩
theorem Fr.at {w Y : World} {ov : Value} {R : List (List Cel)} (h : Fr w ov R Y) {i : Nat} {l : List Cel} (hi : R[i]? = some l) : ∃ og ok a k, ov = .slice (some ⟨og, 0, none⟩) R.length ok ∧ og < Y.heap.size ∧ Y.cell? ⟨og, i, none⟩ = some (.slice a l.length k) ∧ Y.ownsRow w.heap.size 42 2 (.slice a l.length k) l.length (ccs l) := by
  obtain ⟨vs, rfl, h2, h3, -⟩ := h
  rw [List.getElem?_map] at hi
  obtain ⟨o, ho, rfl⟩ := Option.map_eq_some_iff.1 hi
  have hlt := (List.getElem?_eq_some_iff.1 ho).1
  obtain ⟨og, ok, rfl, -, hog⟩ := h2.form (by omega)
  obtain ⟨a, k, e⟩ := o_slice (h3 o (List.mem_of_getElem? ho))
  refine ⟨og, ok, a, k, by simp, hog, ?_, by rw [← e]; exact h3 o (List.mem_of_getElem? ho)⟩
  rw [h2.cellAt i (by omega), List.getElem?_map, ho, ← e]
  rfl
/-- a cell of a row -/
theorem row_at {w Y : World} {l : List Cel} {a : Option Addr} {k j : Nat} {c : Cel} (h : Y.ownsRow w.heap.size 42 2 (.slice a l.length k) l.length (ccs l)) (hj : l[j]? = some c) : ∃ g, a = some ⟨g, 0, none⟩ ∧ g < Y.heap.size ∧ Y.cell? ⟨g, j * 2, none⟩ = some (.string c.tx) ∧ Y.cell? ⟨g, j * 2 + 1, none⟩ = some (.int .i64 c.sp) := by
  have hlt := (List.getElem?_eq_some_iff.1 hj).1
  obtain ⟨g, q, e, -, hg⟩ := h.form (by omega)
  have ea : a = some ⟨g, 0, none⟩ := by injection e
  subst ea
  have := own_cells h hj hlt (o := none) rfl
  exact ⟨g, rfl, hg, this.1, this.2⟩
theorem o_over {w1 w2 : World} {o : Obj} (h : Below (w1.alloc o).heap.size (w1.alloc o) w2) (b j : Nat) (v : Value) (hc : w1.cell? ⟨b, j, none⟩ = some v) : w2.cell? ⟨b, j, none⟩ = some v := by
  have hl := World.block_lt_of_cell? w1 _ hc
  have hl : b < w1.heap.size := hl
  exact (h.cell (p := ⟨b, j, none⟩) (by rw [World.size_alloc]; show b < _; omega)).trans ((World.cell?_of_block (Below.heap_alloc w1 o b hl)).trans hc)
def exP : ByteArray := ⟨#[62, 32]⟩
def exT : ByteArray := ⟨#[97, 98]⟩
def exW : ByteArray := ⟨#[97, 228, 184, 128]⟩
def exN : ByteArray := ⟨#[]⟩
theorem ex_1 : (layL 5 (layL 5 lst0 (cus exP (cl exP))) (cus exT (cl exT))).all.map trmL = [[⟨⟨#[62]⟩, 1⟩, ⟨⟨#[32]⟩, 1⟩, ⟨⟨#[97]⟩, 1⟩, ⟨⟨#[98]⟩, 1⟩]] := by kernel_rfl
theorem ex_1c : (curL 5 (layL 5 lst0 (cus exP (cl exP))) exT 1 (cl exT)).2 = (0, 3) := by kernel_rfl
theorem ex_2 : (layL 2 (layL 2 lst0 (cus exN (cl exN))) (cus exW (cl exW))).all.map trmL = [[⟨⟨#[97]⟩, 1⟩], [⟨⟨#[228, 184, 128]⟩, 2⟩, ⟨⟨#[]⟩, 0⟩], []] := by kernel_rfl
theorem ex_2c : (curL 2 (layL 2 lst0 (cus exN (cl exN))) exW 1 (cl exW)).2 = (0, 1) := by kernel_rfl
set_option maxRecDepth 100000 in
set_option maxHeartbeats 2000000 in
theorem awk_any (hM : Tryd.prog.follows .mixedOrders = true) (w : World) (hT : Lib.Utf8Tabs 0 1 w) (hlo0 : 0 < w.heap.size) (hlo1 : 1 < w.heap.size) :
    Calls Tryd.prog 7 #[] w fun e w' => e = .returned (.bool true) ∧ Below w.heap.size w w' := by
  have C1 : Hid (Calls Tryd.prog 10 #[.string ⟨#[62, 32]⟩, .string ⟨#[97, 98]⟩, .int .i64 1, .int .i64 5] w fun e Y => ∃ og ok rg rk, e = .returned (.agg #[.int .i64 5, .slice (some ⟨og, 0, none⟩) 1 ok, .int .i64 0, .int .i64 3]) ∧ Hid (Below w.heap.size w Y ∧ og < Y.heap.size ∧ rg < Y.heap.size ∧ Y.cell? ⟨og, 0, none⟩ = some (.slice (some ⟨rg, 0, none⟩) 4 rk) ∧ Y.cell? ⟨rg, 4, none⟩ = some (.string ⟨#[97]⟩) ∧ Y.cell? ⟨rg, 5, none⟩ = some (.int .i64 1))) := by
    refine (lay0_any hM exP exT 1 5 (by decide) (by decide) w hT hlo0 hlo1 5 (by decide)).mono ?_
    rintro e Y ⟨ov, rfl, HF⟩
    obtain ⟨hf, hb⟩ := HF.out
    rw [ex_1] at hf
    rw [ex_1c]
    obtain ⟨og, ok, a, k, rfl, h1, h2, h3⟩ := hf.at (i := 0) rfl
    obtain ⟨rg, rfl, h4, h5, h6⟩ := row_at h3 (j := 2) rfl
    exact ⟨og, ok, rg, k, rfl, hb, h1, h4, h2, h5, h6⟩
  have C2 : Hid (∀ X, Below w.heap.size w X → Calls Tryd.prog 10 #[.string ⟨#[]⟩, .string ⟨#[97, 228, 184, 128]⟩, .int .i64 1, .int .i64 2] X fun e Y => ∃ og ok a0 k0 rg rk, e = .returned (.agg #[.int .i64 2, .slice (some ⟨og, 0, none⟩) 3 ok, .int .i64 0, .int .i64 1]) ∧ Hid (Below X.heap.size X Y ∧ og < Y.heap.size ∧ rg < Y.heap.size ∧ Y.cell? ⟨og, 0, none⟩ = some (.slice a0 1 k0) ∧ Y.cell? ⟨og, 1, none⟩ = some (.slice (some ⟨rg, 0, none⟩) 2 rk) ∧ Y.cell? ⟨rg, 2, none⟩ = some (.string ⟨#[]⟩) ∧ Y.cell? ⟨rg, 3, none⟩ = some (.int .i64 0))) := fun X hX => by
    refine (lay0_any hM exN exW 1 2 (by decide) (by decide) X (tabs_below hT hX) (Nat.lt_of_lt_of_le hlo0 hX.size) (Nat.lt_of_lt_of_le hlo1 hX.size) 2 (by decide)).mono ?_
    rintro e Y ⟨ov, rfl, HF⟩
    obtain ⟨hf, hb⟩ := HF.out
    rw [ex_2] at hf
    rw [ex_2c]
    obtain ⟨og, ok, a0, k0, rfl, h1, h2, -⟩ := hf.at (i := 0) rfl
    obtain ⟨og', ok', a1, k1, e1, -, h3, h4⟩ := hf.at (i := 1) rfl
    have : og' = og := by injection e1 with e1; injection e1 with e1; injection e1 with e1; exact e1.symm
    subst this
    obtain ⟨rg, rfl, h5, h6, h7⟩ := row_at h4 (j := 1) rfl
    exact ⟨_, ok, a0, k0, rg, k1, rfl, hb, h1, h5, h2, h3, h6, h7⟩
  clear hT hM
  go_enter Tryd.func7, Tryd.ntmps7
  go_wp2_with (first | (go_at_call 10; refine C1.out.mono ?_; clear C1; rintro e w1 ⟨og, ok, rg, rk, rfl, H1⟩; have HX1 : Hid (Below w.heap.size w (w1.alloc (.cells #[.int .i64 5, .slice (some ⟨og, 0, none⟩) 1 ok, .int .i64 0, .int .i64 3] 30))) := H1.out.1.alloc H1.out.1.size _) | (go_at_call 10; refine (C2.out _ HX1.out).mono ?_; clear C2; rintro e w2 ⟨og2, ok2, a0, k0, rg2, rk2, rfl, H2⟩; obtain ⟨-, m1, m2, m3, m4, m5⟩ := H1.out; replace m3 := o_over H2.out.1 _ _ _ m3; replace m4 := o_over H2.out.1 _ _ _ m4; replace m5 := o_over H2.out.1 _ _ _ m5; have hfb : w2.heap[w1.heap.size]? = some (.cells #[.int .i64 5, .slice (some ⟨og, 0, none⟩) 1 ok, .int .i64 0, .int .i64 3] 30 (0, 0)) := (H2.out.1.block _ (by simp)).trans (World.alloc_heap_new _ _); obtain ⟨⟨u0, u1, u2, u3⟩, -⟩ := box4 hfb; obtain ⟨-, n1, n2, n3, n4, n5, n6⟩ := H2.out; clear hfb; have l0 := World.block_lt_of_cell? w2 _ u0; have l1 := World.block_lt_of_cell? w2 _ m3; have l2 := World.block_lt_of_cell? w2 _ m4; clear m1 m2))
  go_ret
  have hb2 : Below w.heap.size w w2 := HX1.out.trans (H2.out.1.mono (by have := HX1.out.size; exact this))
  exact ⟨rfl, hb2.alloc hb2.size _⟩
end Go.Proofs.YtfjoklbiocniiaaDoor
