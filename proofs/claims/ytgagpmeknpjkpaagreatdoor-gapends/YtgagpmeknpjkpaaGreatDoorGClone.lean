/-
  What package gap's Clone answers, of a buffer and of none, and what the document's own one answers. No conditions beyond.
-/
import Derived.Test.YtgagpmeknpjkpaaGreatDoorPkT
import Derived.Lib.SlBuf
import Derived.Deep.RegionHeld3
namespace Go.Proofs.YtgagpmeknpjkpaaGreatDoor
open Go.RowKit Bod

theorem cut_all (r : Option Nat) (N : Nat) : cutV (ad r) 0 N N = .slice (ad r) N N := by
  unfold cutV sliced
  cases r with
  | none => simp [ad]
  | some k => simp [ad, adr]

set_option maxRecDepth 100000 in
set_option maxHeartbeats 1000000 in
theorem clone_none (w : World) : Calls Tryz.prog 11 #[.pointer none] w fun x w' => x = .returned (.pointer none) ∧ w' = w := by
  go_enter Tryz.func11, Tryz.ntmps11
  go_wp2
  go_ret
  exact ⟨rfl, rfl⟩

set_option maxRecDepth 100000 in
set_option maxHeartbeats 4000000 in
theorem clone_pb {w : World} {b : Nat} {r : Option Nat} {g : Gp} {n : Nat} (h : PB w b r g n) :
    Calls Tryz.prog 11 #[.pointer (some ⟨b, 0, none⟩)] w fun x w' => x = .returned (.pointer (some ⟨w.heap.size + 1, 0, none⟩)) ∧ PB w' (w.heap.size + 1) (some w.heap.size) g n ∧ Below w.heap.size w w' := by
  obtain ⟨A, e, hP, hg, hA⟩ := h.ex
  have hsm := h.small
  have hb := h.lt
  obtain ⟨⟨c0, c1, c2, c3⟩, -⟩ := box4 hP.box
  rw [hA] at c0
  obtain ⟨j, hj⟩ : ∃ j, w.heap.size = j := ⟨_, rfl⟩
  obtain ⟨W0, hW0⟩ : ∃ W0, w.alloc (.cells (Lib.byteCells (List.replicate n 0)).toArray 5) = W0 := ⟨_, rfl⟩
  have hB0 : Below w.heap.size w W0 := by rw [← hW0]; exact (Below.refl _ w).alloc (Nat.le_refl _) _
  have hr0 : W0.heap[j]? = some (.cells (Lib.byteCells (List.replicate n 0)).toArray 5 (0, 0)) := by rw [← hW0, ← hj]; exact World.alloc_heap_new w _
  have hz0 : W0.heap.size = j + 1 := by rw [← hW0, ← hj]; simp
  have hmk : (Instr.makeSlice 39 (.int .i64 (n : Int)) (.int .i64 (n : Int))).run Tryz.prog w = .ok (.slice (some ⟨j, 0, none⟩) n n) W0 := by
    rw [run_make_row' 39 5 (.int .u8 0) 1 Tryz.underlying39 infoZ rfl .i64 .i64 n (by omega) (by omega) w, made_bc, hj, hW0]
  have hP0 := hP.below hB0
  obtain ⟨⟨v0, -⟩, -⟩ := box4 hP0.box
  rw [hA] at v0
  have hfull : splice (List.replicate n (0 : UInt8)) 0 ((A.drop 0).take n) = A := by
    rw [List.drop_zero, List.take_of_length_le (by omega)]
    unfold splice
    rw [List.take_zero, List.nil_append, List.drop_of_length_le (by simp; omega), List.append_nil]
  obtain ⟨W1, hW1⟩ : ∃ W1, W0.setRow j (Lib.byteCells A).toArray = W1 := ⟨_, rfl⟩
  have hcp : (Builtin.copy_ #[39, 39] 3 #[.slice (some ⟨j, 0, none⟩) n n, .slice (ad r) n n]).run Tryz.prog W0 = .ok (goInt n) W1 := by
    have := copy_to (j := j) (Z := List.replicate n 0) (A := A) (a := some ⟨j, 0, none⟩) (dl := n) (dc := n) (off := 0) (so := 0) (n := n) (r := r) hP.nil (fun _ => rfl) (Nat.le_refl _) (by simp) (by omega) 3 W0 hr0 (fun k hk => (hP0.row k hk).2)
    rw [hfull, hA, Nat.zero_add, cut_all, hW1] at this
    exact this
  have hbj : b ≠ j := by omega
  have hP1 : W1.heap[b]? = some (.cells #[.slice (ad r) A.length A.length, .int .i64 g.p, .int .i64 e, .int .i64 g.l] 41 (0, 0)) := by rw [← hW1]; exact (setRow_other _ _ _ _ hbj).trans hP0.box
  have hr1 : W1.heap[j]? = some (.cells (Lib.byteCells A).toArray 5 (0, 0)) := by rw [← hW1]; exact setRow_heap _ _ _ _ _ _ hr0
  have hz1 : W1.heap.size = j + 1 := by rw [← hW1, ← hz0]; simp [World.setRow]
  have hB1 : Below w.heap.size w W1 := by rw [← hW1]; exact hB0.trans ⟨rfl, rfl, rfl, by simp [World.setRow], fun k hk => setRow_other _ _ _ _ (by omega)⟩
  obtain ⟨⟨d0, d1, d2, d3⟩, -⟩ := box4 hP1
  have HC : Hid (W1.cell? ⟨b, 1, none⟩ = some (.int .i64 g.p) ∧ W1.cell? ⟨b, 2, none⟩ = some (.int .i64 e) ∧ W1.cell? ⟨b, 3, none⟩ = some (.int .i64 g.l)) := ⟨d1, d2, d3⟩
  have HF : Hid (PB (W1.alloc (.cells #[.slice (some ⟨j, 0, none⟩) n n, .int .i64 g.p, .int .i64 e, .int .i64 g.l] 41)).drew (j + 1) (some j) g n ∧ Below w.heap.size w (W1.alloc (.cells #[.slice (some ⟨j, 0, none⟩) n n, .int .i64 g.p, .int .i64 e, .int .i64 g.l] 41)).drew) := by
    have q1 := World.alloc_heap_new W1 (.cells #[.slice (some ⟨j, 0, none⟩) n n, .int .i64 g.p, .int .i64 e, .int .i64 g.l] 41)
    rw [hz1] at q1
    have q2 : PB (W1.alloc (.cells #[.slice (some ⟨j, 0, none⟩) n n, .int .i64 g.p, .int .i64 e, .int .i64 g.l] 41)) (j + 1) (some j) g n := by
      refine ⟨⟨A, e, ⟨by rw [hA]; exact q1, fun i hi => ?_, fun h0 => by cases h0⟩, hg, hA⟩, h.cap, h.lm, h.ok⟩
      cases hi
      exact ⟨by omega, (Below.heap_alloc _ _ _ (by rw [hz1]; omega)).trans hr1⟩
    refine ⟨q2.below ⟨rfl, rfl, rfl, Nat.le_refl _, fun _ _ => rfl⟩, ?_⟩
    have q3 := hB1.alloc hB1.size (.cells #[.slice (some ⟨j, 0, none⟩) n n, .int .i64 g.p, .int .i64 e, .int .i64 g.l] 41)
    exact ⟨q3.os, q3.tape, q3.output, q3.size, q3.block⟩
  have HZ : Hid (W1.heap.size = j + 1) := hz1
  have HCa : Hid ((W1.alloc (.cells #[.slice (some ⟨j, 0, none⟩) n n, .int .i64 g.p, .int .i64 e, .int .i64 g.l] 41)).drew.cell? ⟨b, 1, none⟩ = some (.int .i64 g.p) ∧ (W1.alloc (.cells #[.slice (some ⟨j, 0, none⟩) n n, .int .i64 g.p, .int .i64 e, .int .i64 g.l] 41)).drew.cell? ⟨b, 2, none⟩ = some (.int .i64 e) ∧ (W1.alloc (.cells #[.slice (some ⟨j, 0, none⟩) n n, .int .i64 g.p, .int .i64 e, .int .i64 g.l] 41)).drew.cell? ⟨b, 3, none⟩ = some (.int .i64 g.l)) := (box4 ((Below.heap_alloc W1 _ b (by rw [hz1]; omega)).trans hP1)).1.2
  rw [hj] at hB0 hB1 HF ⊢
  clear h hP hg hP0 hP1 hr0 hr1 hB0 hB1 hfull hW0 hW1 hj hz0 hz1 d0 d1 d2 d3 hA hbj
  go_enter Tryz.func11, Tryz.ntmps11
  go_wp2_with (at_builtin; refine Lib.wpList_copy_run _ rfl (.tmp 12) (.tmp 16) 39 39 rfl _ _ rfl rfl hcp ?_)
  go_region_held3 (fun w' => w'.cell? ⟨b, 1, none⟩ = some (.int .i64 g.p) ∧ w'.cell? ⟨b, 2, none⟩ = some (.int .i64 e) ∧ w'.cell? ⟨b, 3, none⟩ = some (.int .i64 g.l)) (first | exact HC.out | exact HCa.out) (fail)
  go_wp2
  go_ret
  exact ⟨by rw [HZ.out]; rfl, HF.out⟩

set_option maxRecDepth 100000 in
set_option maxHeartbeats 1000000 in
theorem rclone_any {b : Nat} {g : Gp} (w : World) (h : RB w b g) :
    Calls Tryz.prog 12 #[.pointer (some ⟨b, 0, none⟩)] w fun x w' => x = .returned (.pointer (some ⟨w.heap.size, 0, none⟩)) ∧ RB w' w.heap.size g ∧ Below w.heap.size w w' := by
  obtain ⟨⟨c0, c1, c2⟩, f0, f1, hb⟩ := h.cells
  have HC : Hid (w.cell? ⟨b, 0, none⟩ = some (.string g.s) ∧ w.cell? ⟨b, 1, none⟩ = some (.int .i64 g.p) ∧ w.cell? ⟨b, 2, none⟩ = some (.int .i64 g.l)) := ⟨c0, c1, c2⟩
  have HF : Hid (RB (w.alloc (.cells #[.string g.s, .int .i64 g.p, .int .i64 g.l] 43)).drew w.heap.size g ∧ Below w.heap.size w (w.alloc (.cells #[.string g.s, .int .i64 g.p, .int .i64 g.l] 43)).drew) := by
    have q3 := (Below.refl w.heap.size w).alloc (Nat.le_refl _) (.cells #[.string g.s, .int .i64 g.p, .int .i64 g.l] 43)
    exact ⟨rb_new w g, ⟨q3.os, q3.tape, q3.output, q3.size, q3.block⟩⟩
  have HCa : Hid ((w.alloc (.cells #[.string g.s, .int .i64 g.p, .int .i64 g.l] 43)).drew.cell? ⟨b, 0, none⟩ = some (.string g.s) ∧ (w.alloc (.cells #[.string g.s, .int .i64 g.p, .int .i64 g.l] 43)).drew.cell? ⟨b, 1, none⟩ = some (.int .i64 g.p) ∧ (w.alloc (.cells #[.string g.s, .int .i64 g.p, .int .i64 g.l] 43)).drew.cell? ⟨b, 2, none⟩ = some (.int .i64 g.l)) := by
    have hr : RB (w.alloc (.cells #[.string g.s, .int .i64 g.p, .int .i64 g.l] 43)).drew b g := (Below.heap_alloc w _ b hb).trans h
    exact hr.cells.1
  clear h f0 f1 c0 c1 c2
  go_enter Tryz.func12, Tryz.ntmps12
  go_wp2
  go_region_held3 (fun w' => w'.cell? ⟨b, 0, none⟩ = some (.string g.s) ∧ w'.cell? ⟨b, 1, none⟩ = some (.int .i64 g.p) ∧ w'.cell? ⟨b, 2, none⟩ = some (.int .i64 g.l)) (first | exact HC.out | exact HCa.out) (fail)
  go_wp2
  go_ret
  exact ⟨rfl, HF.out⟩
end Go.Proofs.YtgagpmeknpjkpaaGreatDoor
