/-
  The walk of the law's own same: two slices that read as one list of clusters are one. Conditions: the list can be made.
-/
import Derived.Test.YtjgeeimkcghmoabDoorCQuiet
namespace Go.Proofs.YtjgeeimkcghmoabDoor
open Go.RowKit Go.Sort Bod Wid

set_option maxRecDepth 100000 in
set_option maxHeartbeats 1000000 in
/-- two slices that read as one list are one -/
theorem same_core (l : List Clu) (N b1 c1 b2 c2 : Nat) (hN : l.length = N) (hn : N ≤ 140737488355328) (w : World)
    (h1 : ∀ k c, l[k]? = some c → w.cell? ⟨b1, k * 4, none⟩ = some (.int .i64 c.fr) ∧ w.cell? ⟨b1, k * 4 + 1, none⟩ = some (.int .i64 c.to) ∧ w.cell? ⟨b1, k * 4 + 2, none⟩ = some (.int .i64 c.k) ∧ w.cell? ⟨b1, k * 4 + 3, none⟩ = some (.int .i64 c.n))
    (h2 : ∀ k c, l[k]? = some c → w.cell? ⟨b2, k * 4, none⟩ = some (.int .i64 c.fr) ∧ w.cell? ⟨b2, k * 4 + 1, none⟩ = some (.int .i64 c.to) ∧ w.cell? ⟨b2, k * 4 + 2, none⟩ = some (.int .i64 c.k) ∧ w.cell? ⟨b2, k * 4 + 3, none⟩ = some (.int .i64 c.n)) :
    Calls Tryd.prog 10 #[.slice (some ⟨b1, 0, none⟩) N c1, .slice (some ⟨b2, 0, none⟩) N c2] w fun e w' => e = .returned (.bool true) ∧ ∃ m, w' = w.drewN m := by
  have H1 : Hid _ := h1
  have H2 : Hid _ := h2
  have HN : Hid (l.length = N) := hN
  clear h1 h2 hN
  go_enter Tryd.func10, Tryd.ntmps10
  go_wp2
  go_loopw [5] (fun t wr => ∃ k m : Nat, k ≤ N ∧ t = .int .i64 k ∧ wr = w.drewN m) (fun t _ => N - (intOf t).toNat)
  case atStart => exact ⟨0, 0, Nat.zero_le _, rfl, rfl⟩
  case round =>
    obtain ⟨k, m, hk, rfl, rfl⟩ := hrel
    by_cases hlt : k < N
    · obtain ⟨c, hc⟩ : ∃ c, l[k]? = some c := ⟨l[k]'(by rw [HN.out]; exact hlt), List.getElem?_eq_getElem _⟩
      obtain ⟨a0, a1, a2, a3⟩ := H1.out k c hc
      obtain ⟨d0, d1, d2, d3⟩ := H2.out k c hc
      go_wp2
      go_quiet (fail)
      go_wp2
      exact ⟨⟨k + 1, m + nq, by omega, by go_num, rfl⟩, by simp [intOf]; omega⟩
    · go_wp2
      go_ret
      exact ⟨rfl, m, rfl⟩

set_option maxRecDepth 100000 in
set_option maxHeartbeats 1000000 in
theorem same_none (a1 a2 : Option Addr) (c1 c2 : Nat) (w : World) :
    Calls Tryd.prog 10 #[.slice a1 0 c1, .slice a2 0 c2] w fun e w' => e = .returned (.bool true) ∧ Below w.heap.size w w' := by
  go_enter Tryd.func10, Tryd.ntmps10
  go_wp2
  go_loopw [5] (fun t wr => t = .int .i64 0 ∧ wr = w) (fun _ _ => 0)
  case atStart => exact ⟨rfl, rfl⟩
  case round =>
    obtain ⟨rfl, rfl⟩ := hrel
    go_wp2
    go_ret
    exact ⟨rfl, Below.refl _ _⟩

theorem same_any {l : List Clu} {v1 v2 : Value} (hn : l.length ≤ 140737488355328) {w : World} (h1 : Rd4 w v1 l) (h2 : Rd4 w v2 l) :
    Calls Tryd.prog 10 #[v1, v2] w fun e w' => e = .returned (.bool true) ∧ Below w.heap.size w w' := by
  obtain ⟨a1, c1, rfl, g1⟩ := h1
  obtain ⟨a2, c2, rfl, g2⟩ := h2
  by_cases h0 : l = []
  · subst h0; exact same_none a1 a2 c1 c2 w
  · obtain ⟨b1, rfl, _, k1⟩ := g1 h0
    obtain ⟨b2, rfl, _, k2⟩ := g2 h0
    exact (same_core l l.length b1 c1 b2 c2 rfl hn w k1 k2).mono fun e w' ⟨he, m, hw⟩ => ⟨he, hw ▸ ⟨rfl, rfl, rfl, Nat.le_refl _, fun _ _ => rfl⟩⟩
end Go.Proofs.YtjgeeimkcghmoabDoor
