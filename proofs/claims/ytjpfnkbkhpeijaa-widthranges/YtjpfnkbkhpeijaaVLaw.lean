/-
  The walks of the law's own awake and same: four answers that the document fixes; two lists that hold the same ranges are the same. Conditions: each list can be read.
-/
import Derived.Test.YtjpfnkbkhpeijaaVRef
import Derived.Deep.QuietTactic
import Derived.BigQuiet
namespace Go.Proofs.Ytjpfnkbkhpeijaa
open Go.RowKit Wid

set_option maxRecDepth 100000 in
set_option maxHeartbeats 1000000 in
theorem same_core (l : List (Int × Int)) (n b1 c1 b2 c2 : Nat) (hn : n = l.length) (hl : n ≤ 1000) (w : World)
    (h1 : ∀ j, j < l.length → w.cell? ⟨b1, j * 2, none⟩ = some (.int .i32 (l.getD j (0, 0)).1) ∧ w.cell? ⟨b1, j * 2 + 1, none⟩ = some (.int .i32 (l.getD j (0, 0)).2))
    (h2 : ∀ j, j < l.length → w.cell? ⟨b2, j * 2, none⟩ = some (.int .i32 (l.getD j (0, 0)).1) ∧ w.cell? ⟨b2, j * 2 + 1, none⟩ = some (.int .i32 (l.getD j (0, 0)).2)) :
    Calls Try.prog 14 #[.slice (some ⟨b1, 0, none⟩) n c1, .slice (some ⟨b2, 0, none⟩) n c2] w fun e w' => e = .returned (.bool true) ∧ ∃ m, w' = w.drewN m := by
  have H1 : Hid _ := h1
  have H2 : Hid _ := h2
  have HN : Hid (n = l.length) := hn
  clear h1 h2 hn
  go_enter Try.func14, Try.ntmps14
  go_wp2
  go_loopw [5] (fun t wr => ∃ k m : Nat, k ≤ n ∧ t = .int .i64 k ∧ wr = w.drewN m) (fun t _ => n - (intOf t).toNat)
  case atStart => exact ⟨0, 0, Nat.zero_le _, rfl, rfl⟩
  case round =>
    obtain ⟨k, m, hk, rfl, rfl⟩ := hrel
    by_cases hlt : k < n
    · obtain ⟨a1, a2⟩ := H1.out k (by rw [← HN.out]; exact hlt)
      obtain ⟨a3, a4⟩ := H2.out k (by rw [← HN.out]; exact hlt)
      generalize (l.getD k (0, 0)).1 = x1 at a1 a3
      generalize (l.getD k (0, 0)).2 = x2 at a2 a4
      go_wp2
      go_quiet (fail)
      go_wp2
      exact ⟨⟨k + 1, m + nq, by omega, by go_num, rfl⟩, by simp [intOf]; omega⟩
    · go_wp2
      go_ret
      exact ⟨rfl, m, rfl⟩
set_option maxRecDepth 100000 in
set_option maxHeartbeats 1000000 in
theorem same_none (a1 a2 : Option Addr) (c1 c2 : Nat) (w : World) :
    Calls Try.prog 14 #[.slice a1 0 c1, .slice a2 0 c2] w fun e w' => e = .returned (.bool true) ∧ Below w.heap.size w w' := by
  go_enter Try.func14, Try.ntmps14
  go_wp2
  go_loopw [5] (fun t wr => t = .int .i64 0 ∧ w = wr) (fun _ _ => 0)
  case atStart => exact ⟨rfl, rfl⟩
  case round =>
    obtain ⟨rfl, rfl⟩ := hrel
    go_wp2
    go_ret
    exact ⟨rfl, Below.refl _ _⟩
theorem below_drewN (w : World) (m : Nat) : Below w.heap.size w (w.drewN m) := ⟨rfl, rfl, rfl, Nat.le_refl _, fun _ _ => rfl⟩
theorem same_any {l : List (Int × Int)} {v1 v2 : Value} (hl : l.length ≤ 1000) {w : World} (h1 : Rg w v1 l) (h2 : Rg w v2 l) :
    Calls Try.prog 14 #[v1, v2] w fun e w' => e = .returned (.bool true) ∧ Below w.heap.size w w' := by
  obtain ⟨a1, c1, rfl, g1⟩ := h1
  obtain ⟨a2, c2, rfl, g2⟩ := h2
  by_cases h0 : l.length = 0
  · rw [h0]; exact same_none a1 a2 c1 c2 w
  · obtain ⟨b1, rfl, k1⟩ := g1 h0
    obtain ⟨b2, rfl, k2⟩ := g2 h0
    exact (same_core l l.length b1 c1 b2 c2 rfl hl w k1 k2).mono fun e w' ⟨he, m, hw⟩ => ⟨he, hw ▸ below_drewN w m⟩
theorem Rg.below {W W' : World} {v : Value} {l : List (Int × Int)} (h : Rg W v l) (hb : Below W.heap.size W W') : Rg W' v l := by
  obtain ⟨a, cap, rfl, g⟩ := h
  refine ⟨a, cap, rfl, fun h0 => ?_⟩
  obtain ⟨b, rfl, k⟩ := g h0
  have hl : ∀ (a : Addr) (v : Value), W.cell? a = some v → W'.cell? a = some v := fun a v h => by
    have hlt : a.block < W.heap.size := by
      unfold World.cell? at h
      cases ho : W.heap[a.block]? with
      | none => simp [ho] at h
      | some o => exact (Array.getElem?_eq_some_iff.1 ho).1
    exact (hb.cell (p := a) hlt).trans h
  exact ⟨b, rfl, fun j hj => ⟨hl _ _ (k j hj).1, hl _ _ (k j hj).2⟩⟩

theorem cls_at : cls 768 = 3 ∧ cls (-1) = 5 ∧ cls 133 = 2 ∧ cel 19968 = 2 ∧ cel 133 = 1 := by decide +kernel
/-- Class and Cells in whatever world a call has come to -/
theorem class_from {w : World} (c k : Int) (hk : cls c = k) (W : World) (hb : Below w.heap.size w W) : Calls Try.prog 8 #[.int .i32 c] W fun e w' => e = .returned (.int .i64 k) ∧ Below w.heap.size w w' :=
  hk ▸ (class_any c W).mono fun _ _ ⟨h1, h2⟩ => ⟨h1, hb.trans (h2.mono hb.size)⟩
theorem cells_from' {w : World} (c k : Int) (hk : cel c = k) (W : World) (hb : Below w.heap.size w W) : Calls Try.prog 10 #[.int .i32 c] W fun e w' => e = .returned (.int .i64 k) ∧ Below w.heap.size w w' :=
  hk ▸ (cells_any c W).mono fun _ _ ⟨h1, h2⟩ => ⟨h1, hb.trans (h2.mono hb.size)⟩

set_option maxRecDepth 100000 in
set_option maxHeartbeats 2000000 in
theorem awake_any (w : World) : Calls Try.prog 7 #[] w fun e w' => e = .returned (.bool true) ∧ Below w.heap.size w w' := by
  obtain ⟨k1, k2, k3, k4, k5⟩ := cls_at
  have C1 : Hid (∀ W, Below w.heap.size w W → Calls Try.prog 8 #[.int .i32 768] W fun e w' => e = .returned (.int .i64 3) ∧ Below w.heap.size w w') := class_from 768 3 k1
  have C2 : Hid (∀ W, Below w.heap.size w W → Calls Try.prog 8 #[.int .i32 (-1)] W fun e w' => e = .returned (.int .i64 5) ∧ Below w.heap.size w w') := class_from (-1) 5 k2
  have C3 : Hid (∀ W, Below w.heap.size w W → Calls Try.prog 8 #[.int .i32 133] W fun e w' => e = .returned (.int .i64 2) ∧ Below w.heap.size w w') := class_from 133 2 k3
  have C4 : Hid (∀ W, Below w.heap.size w W → Calls Try.prog 10 #[.int .i32 19968] W fun e w' => e = .returned (.int .i64 2) ∧ Below w.heap.size w w') := cells_from' 19968 2 k4
  have C5 : Hid (∀ W, Below w.heap.size w W → Calls Try.prog 10 #[.int .i32 133] W fun e w' => e = .returned (.int .i64 1) ∧ Below w.heap.size w w') := cells_from' 133 1 k5
  clear k1 k2 k3 k4 k5
  have HB : Hid (Below w.heap.size w w) := Below.refl _ _
  go_enter Try.func7, Try.ntmps7
  go_wp2_with (first | (go_at_call 8; refine (C1.out _ HB.out).mono ?_; clear HB C1; rintro e w1 ⟨rfl, hb1⟩; have HB : Hid (Below w.heap.size w w1) := hb1; clear hb1) | (go_at_call 10; refine (C4.out _ HB.out).mono ?_; clear HB C4; rintro e w1 ⟨rfl, hb1⟩; have HB : Hid (Below w.heap.size w w1) := hb1; clear hb1) | (go_at_call 8; refine (C2.out _ HB.out).mono ?_; clear HB C2; rintro e w1 ⟨rfl, hb1⟩; have HB : Hid (Below w.heap.size w w1) := hb1; clear hb1) | (go_at_call 8; refine (C3.out _ HB.out).mono ?_; clear HB C3; rintro e w1 ⟨rfl, hb1⟩; have HB : Hid (Below w.heap.size w w1) := hb1; clear hb1) | (go_at_call 10; refine (C5.out _ HB.out).mono ?_; clear HB C5; rintro e w1 ⟨rfl, hb1⟩; have HB : Hid (Below w.heap.size w w1) := hb1; clear hb1))
  go_ret
  exact ⟨rfl, HB.out⟩
end Go.Proofs.Ytjpfnkbkhpeijaa
