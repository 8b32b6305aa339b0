/-
  The document's first example of package unit, as the statements ask for it ahead of all else: 'cuts' returns true. Conditions: the two tables of unicode/utf8 lie as their text lays them.
-/
import Derived.Test.YtadgbbnkhjapnabDoorUIter
namespace Go.Proofs.YtadgbbnkhjapnabDoor
open Go.RowKit Bod

theorem walk_any (s : ByteArray) (w : World) :
    Calls Tryd.prog 17 #[.string s] w fun e w' => e = .returned (.func (.func 20) #[] #[.pointer (some ⟨w.heap.size, 0, none⟩)]) ∧ w' = w.alloc (.cells #[.string s] 9) :=
  callsIn_wide.1 (walk_in 1 s w)

theorem func_nil (f : Fn) (a b : Array Value) (w : World) : (binOp .eql 36 (.func f a b) .nilFunc).run Tryd.prog w = .ok (.bool false) w := by kernel_rfl

theorem ex_next : nextZ ⟨#[97]⟩ 0 = 1 := by decide +kernel
theorem ex_up : upZ ⟨#[97, 195, 169]⟩ 2 = 3 := by decide +kernel
theorem ex_bd : bdZ ⟨#[97]⟩ 1 = true := by decide +kernel
theorem ex_offs : offs ⟨#[97, 195, 169, 195]⟩ 0 = [0, 1, 3] := by decide +kernel
theorem ex_cells : ucells ⟨#[97, 195, 169, 195]⟩ [0, 1, 3] = [.int .i32 97, .int .i64 1, .int .i32 233, .int .i64 2, .int .i32 (-1), .int .i64 1] := by kernel_rfl

set_option maxRecDepth 100000 in
set_option maxHeartbeats 2000000 in
theorem cuts_any (w : World) (hT : Lib.Utf8Tabs 0 1 w) (hlo0 : 0 < w.heap.size) (hlo1 : 1 < w.heap.size) :
    Calls Tryd.prog 8 #[] w fun e w' => e = .returned (.bool true) ∧ Below w.heap.size w w' := by
  have hT1 : ∀ o, Lib.Utf8Tabs 0 1 (w.alloc o) := fun o => tabs_below hT ((Below.refl _ w).alloc (Nat.le_refl _) o)
  have cN := fun o => next_any ⟨#[97]⟩ 0 (by decide +kernel) (w.alloc o) (hT1 o)
  rw [ex_next] at cN
  have cUn : ∀ w1, Below w.heap.size w w1 → Calls Tryd.prog 10 #[.string ⟨#[97, 195, 169, 195]⟩] w1 fun e W' => ∃ g, e = .returned (.slice (some ⟨g, 0, none⟩) 3 3) ∧ (W'.cell? ⟨g, 2, none⟩ = some (.int .i32 233) ∧ W'.cell? ⟨g, 3, none⟩ = some (.int .i64 2) ∧ W'.cell? ⟨g, 4, none⟩ = some (.int .i32 (-1)) ∧ W'.cell? ⟨g, 5, none⟩ = some (.int .i64 1)) ∧ Below w.heap.size w W' := fun w1 hb => by
    have h := units_any ⟨#[97, 195, 169, 195]⟩ (by decide +kernel) (by rw [ex_offs]; decide) w1 (tabs_below hT hb) (Nat.lt_of_lt_of_le hlo0 hb.size) (Nat.lt_of_lt_of_le hlo1 hb.size)
    rw [ex_offs, ex_cells] at h
    refine h.mono ?_
    rintro e w2 ⟨g, rfl, hrow, hb2⟩
    exact ⟨g, rfl, ⟨hrow.cellAt 2 (by decide), hrow.cellAt 3 (by decide), hrow.cellAt 4 (by decide), hrow.cellAt 5 (by decide)⟩, hb.trans (hb2.mono hb.size)⟩
  have cUp : ∀ w1, Below w.heap.size w w1 → Calls Tryd.prog 13 #[.string ⟨#[97, 195, 169]⟩, .int .i64 2] w1 fun e W' => e = .returned (.int .i64 3) ∧ Below w.heap.size w W' := fun w1 hb => by
    have h := up_any ⟨#[97, 195, 169]⟩ 2 (by decide +kernel) w1 (tabs_below hT hb)
    rw [ex_up] at h
    exact h.mono fun e w2 ⟨h1, h2⟩ => ⟨h1, hb.trans (h2.mono hb.size)⟩
  have cBd : ∀ w1, Below w.heap.size w w1 → Calls Tryd.prog 9 #[.string ⟨#[97]⟩, .int .i64 1] w1 fun e W' => e = .returned (.bool true) ∧ Below w.heap.size w W' := fun w1 hb => by
    have h := bound_any ⟨#[97]⟩ 1 (by decide +kernel) w1 (tabs_below hT hb)
    rw [ex_bd] at h
    exact h.mono fun e w2 ⟨h1, h2⟩ => ⟨h1, hb.trans (h2.mono hb.size)⟩
  have hfn := func_nil
  have HU : Hid _ := cUn
  have HP : Hid _ := cUp
  have HD : Hid _ := cBd
  have HN : Hid _ := cN
  clear cUn cUp cBd cN
  go_enter Tryd.func8, Tryd.ntmps8
  go_wp2_with (first | (go_at_call 17; refine (walk_any _ _).mono ?_; rintro e w' ⟨rfl, rfl⟩) | (go_at_call 15; refine (HN.out _).mono ?_; rintro e w1 ⟨rfl, hb1⟩; have hB : Hid (Below w.heap.size w w1) := ((Below.refl _ w).alloc (Nat.le_refl _) _).trans (hb1.mono (by simp)); clear hb1) | (go_at_call 10; refine (HU.out _ hB.out).mono ?_; clear hB; rintro e w2 ⟨g, rfl, ⟨c2, c3, c4, c5⟩, hb2⟩; have hB : Hid (Below w.heap.size w w2) := hb2; clear hb2) | (go_at_call 13; refine (HP.out _ hB.out).mono ?_; clear hB; rintro e w3 ⟨rfl, hb2⟩; have hB : Hid (Below w.heap.size w w3) := hb2; clear hb2) | (go_at_call 9; refine (HD.out _ hB.out).mono ?_; clear hB; rintro e w4 ⟨rfl, hb2⟩; have hB : Hid (Below w.heap.size w w4) := hb2; clear hb2))
  go_ret
  exact ⟨rfl, hB.out⟩
end Go.Proofs.YtadgbbnkhjapnabDoor
