/-
  The document's first examples of package cluster, as the statements ask for them ahead of all else: 'steps' and 'fixed' return true. Conditions: the two tables of unicode/utf8 lie as their text lays them.
-/
import Derived.Test.YtjgeeimkcghmoabDoorCPlaces
import Derived.Test.YtjgeeimkcghmoabDoorCDrawn
namespace Go.Proofs.YtjgeeimkcghmoabDoor
open Go.RowKit Bod Wid

theorem func_some (f : Fn) (a b : Array Value) (w : World) : (binOp .neq 41 (.func f a b) .nilFunc).run Tryd.prog w = .ok (.bool true) w := by kernel_rfl

theorem ex_n1 : IsNext ⟨#[97]⟩ 0 1 := ⟨by decide +kernel, .inl (by decide), fun j h1 h2 => by omega⟩
theorem ex_s1 : IsSnap ⟨#[97]⟩ 1 1 := IsSnap.self (by decide +kernel)
theorem ex_n3 : IsNext ⟨#[97, 204, 129, 98]⟩ 0 3 := ⟨by decide +kernel, .inl (by decide), fun j h1 h2 => by
  have : j = 1 ∨ j = 2 := by omega
  rcases this with rfl | rfl <;> decide +kernel⟩
theorem ex_b1 : cbZ ⟨#[97, 204, 129, 98]⟩ 1 = false := by decide +kernel
theorem ex_cl : cl ⟨#[97, 204, 129, 13, 10, 228, 184, 128, 255]⟩ = [⟨0, 3, 0, 1⟩, ⟨3, 5, 1, 0⟩, ⟨5, 8, 4, 2⟩, ⟨8, 9, 5, 1⟩] := by kernel_rfl
theorem ex_d : drawnL ⟨#[1]⟩ (cl ⟨#[1]⟩) = [94, 65] := by decide +kernel

set_option maxRecDepth 100000 in
set_option maxHeartbeats 1000000 in
theorem steps_any (w : World) (hT : Lib.Utf8Tabs 0 1 w) :
    Calls Tryd.prog 11 #[] w fun e w' => e = .returned (.bool true) ∧ Below w.heap.size w w' := by
  have cN : Calls Tryd.prog 12 #[.string ⟨#[97]⟩, .int .i64 0] w fun e w' => e = .returned (.int .i64 1) ∧ Below w.heap.size w w' :=
    (cnext_any ⟨#[97]⟩ 0 (by decide +kernel) w hT).mono fun e w' ⟨m, h1, h2, h3⟩ => ⟨by rw [h1, h2.uniq ex_n1]; rfl, h3⟩
  have CS : Hid (∀ W, Below w.heap.size w W → Calls Tryd.prog 19 #[.string ⟨#[97]⟩, .int .i64 1] W fun e w' => e = .returned (.int .i64 1) ∧ Below w.heap.size w w') := fun W hW =>
    (csnap_any ⟨#[97]⟩ 1 (by decide +kernel) W (tabs_below hT hW) (by decide)).mono fun e w' ⟨m, h1, h2, h3⟩ => ⟨by rw [h1, h2.uniq ex_s1]; rfl, hW.trans (h3.mono hW.size)⟩
  have hfn := func_some
  go_enter Tryd.func11, Tryd.ntmps11
  go_wp2_with (first | (go_at_call 12; refine cN.mono ?_; clear cN; rintro e w1 ⟨rfl, hb1⟩; have HB : Hid (Below w.heap.size w w1) := hb1; clear hb1) | (go_at_call 19; refine (CS.out _ HB.out).mono ?_; clear CS HB; rintro e w2 ⟨rfl, hb2⟩; have HB : Hid (Below w.heap.size w w2) := hb2; clear hb2) | (go_at_call 14; refine (walk_any _ _).mono ?_; rintro e w3 ⟨rfl, rfl⟩))
  go_ret
  exact ⟨rfl, HB.out.alloc HB.out.size _⟩

set_option maxRecDepth 100000 in
set_option maxHeartbeats 2000000 in
theorem fixed_any (w : World) (hT : Lib.Utf8Tabs 0 1 w) (hlo0 : 0 < w.heap.size) (hlo1 : 1 < w.heap.size) :
    Calls Tryd.prog 5 #[] w fun e w' => e = .returned (.bool true) ∧ Below w.heap.size w w' := by
  have cS := steps_any w hT
  have CL : Hid (∀ W, Below w.heap.size w W → Calls Tryd.prog 8 #[.string ⟨#[97, 204, 129, 13, 10, 228, 184, 128, 255]⟩] W fun e w' => ∃ g cap, e = .returned (.slice (some ⟨g, 0, none⟩) 4 cap) ∧
      (w'.cell? ⟨g, 0, none⟩ = some (.int .i64 0) ∧ w'.cell? ⟨g, 1, none⟩ = some (.int .i64 3) ∧ w'.cell? ⟨g, 2, none⟩ = some (.int .i64 0) ∧ w'.cell? ⟨g, 3, none⟩ = some (.int .i64 1)) ∧
      (w'.cell? ⟨g, 4, none⟩ = some (.int .i64 3) ∧ w'.cell? ⟨g, 5, none⟩ = some (.int .i64 5) ∧ w'.cell? ⟨g, 6, none⟩ = some (.int .i64 1) ∧ w'.cell? ⟨g, 7, none⟩ = some (.int .i64 0)) ∧
      (w'.cell? ⟨g, 8, none⟩ = some (.int .i64 5) ∧ w'.cell? ⟨g, 9, none⟩ = some (.int .i64 8) ∧ w'.cell? ⟨g, 10, none⟩ = some (.int .i64 4) ∧ w'.cell? ⟨g, 11, none⟩ = some (.int .i64 2)) ∧
      (w'.cell? ⟨g, 12, none⟩ = some (.int .i64 8) ∧ w'.cell? ⟨g, 13, none⟩ = some (.int .i64 9) ∧ w'.cell? ⟨g, 14, none⟩ = some (.int .i64 5) ∧ w'.cell? ⟨g, 15, none⟩ = some (.int .i64 1)) ∧ Below w.heap.size w w') := fun W hW => by
    have h := list_any ⟨#[97, 204, 129, 13, 10, 228, 184, 128, 255]⟩ (by decide +kernel) (by decide +kernel) W (tabs_below hT hW) (Nat.lt_of_lt_of_le hlo0 hW.size) (Nat.lt_of_lt_of_le hlo1 hW.size)
    rw [ex_cl] at h
    refine h.mono ?_
    rintro e w' ⟨v, rfl, ⟨hrow, _⟩, hb⟩
    obtain ⟨g, cap, rfl⟩ := ownsRow_succ (k := 3) hrow
    exact ⟨g, cap, rfl, ⟨hrow.cellAt 0 (by decide), hrow.cellAt 1 (by decide), hrow.cellAt 2 (by decide), hrow.cellAt 3 (by decide)⟩, ⟨hrow.cellAt 4 (by decide), hrow.cellAt 5 (by decide), hrow.cellAt 6 (by decide), hrow.cellAt 7 (by decide)⟩, ⟨hrow.cellAt 8 (by decide), hrow.cellAt 9 (by decide), hrow.cellAt 10 (by decide), hrow.cellAt 11 (by decide)⟩, ⟨hrow.cellAt 12 (by decide), hrow.cellAt 13 (by decide), hrow.cellAt 14 (by decide), hrow.cellAt 15 (by decide)⟩, hW.trans (hb.mono hW.size)⟩
  have CN : Hid (∀ W, Below w.heap.size w W → Calls Tryd.prog 12 #[.string ⟨#[97, 204, 129, 98]⟩, .int .i64 0] W fun e w' => e = .returned (.int .i64 3) ∧ Below w.heap.size w w') := fun W hW =>
    (cnext_any ⟨#[97, 204, 129, 98]⟩ 0 (by decide +kernel) W (tabs_below hT hW)).mono fun e w' ⟨m, h1, h2, h3⟩ => ⟨by rw [h1, h2.uniq ex_n3]; rfl, hW.trans (h3.mono hW.size)⟩
  have CB : Hid (∀ W, Below w.heap.size w W → Calls Tryd.prog 13 #[.string ⟨#[97, 204, 129, 98]⟩, .int .i64 1] W fun e w' => e = .returned (.bool false) ∧ Below w.heap.size w w') := fun W hW =>
    (cbound_any ⟨#[97, 204, 129, 98]⟩ 1 (by decide +kernel) W (tabs_below hT hW) (by decide)).mono fun e w' ⟨h1, h3⟩ => ⟨by rw [h1, ex_b1], hW.trans (h3.mono hW.size)⟩
  have CE : Hid (∀ W, Below w.heap.size w W → Calls Tryd.prog 13 #[.string ⟨#[]⟩, .int .i64 0] W fun e w' => e = .returned (.bool true) ∧ Below w.heap.size w w') := fun W hW =>
    (cbound_any ⟨#[]⟩ 0 (by decide +kernel) W (tabs_below hT hW) (by decide)).mono fun e w' ⟨h1, h3⟩ => ⟨by rw [h1, cb_zero], hW.trans (h3.mono hW.size)⟩
  have CD : Hid (∀ W, Below w.heap.size w W → Calls Tryd.prog 6 #[.string ⟨#[1]⟩] W fun e w' => e = .returned (.string ⟨#[94, 65]⟩) ∧ Below w.heap.size w w') := fun W hW => by
    have h := drawn_any ⟨#[1]⟩ (by decide +kernel) (by decide +kernel) W (tabs_below hT hW) (Nat.lt_of_lt_of_le hlo0 hW.size) (Nat.lt_of_lt_of_le hlo1 hW.size)
    rw [ex_d] at h
    exact h.mono fun e w' ⟨h1, h3⟩ => ⟨h1, hW.trans (h3.mono hW.size)⟩
  go_enter Tryd.func5, Tryd.ntmps5
  go_wp2_with (first | (go_at_call 11; refine cS.mono ?_; clear cS; rintro e w1 ⟨rfl, hb1⟩; have HB : Hid (Below w.heap.size w w1) := hb1; clear hb1) | (go_at_call 8; refine (CL.out _ HB.out).mono ?_; clear CL HB; rintro e w2 ⟨g, cap, rfl, ⟨x0, x1, x2, x3⟩, ⟨x4, x5, x6, x7⟩, ⟨x8, x9, x10, x11⟩, ⟨x12, x13, x14, x15⟩, hb2⟩; have HB : Hid (Below w.heap.size w w2) := hb2; clear hb2) | (go_at_call 12; refine (CN.out _ HB.out).mono ?_; clear CN HB; rintro e w3 ⟨rfl, hb3⟩; have HB : Hid (Below w.heap.size w w3) := hb3; clear hb3) | (go_at_call 13; refine (CB.out _ HB.out).mono ?_; clear CB HB; rintro e w4 ⟨rfl, hb4⟩; have HB : Hid (Below w.heap.size w w4) := hb4; clear hb4) | (go_at_call 13; refine (CE.out _ HB.out).mono ?_; clear CE HB; rintro e w5 ⟨rfl, hb5⟩; have HB : Hid (Below w.heap.size w w5) := hb5; clear hb5) | (go_at_call 6; refine (CD.out _ HB.out).mono ?_; clear CD HB; rintro e w6 ⟨rfl, hb6⟩))
  go_ret
  exact ⟨rfl, hb6⟩
end Go.Proofs.YtjgeeimkcghmoabDoor
