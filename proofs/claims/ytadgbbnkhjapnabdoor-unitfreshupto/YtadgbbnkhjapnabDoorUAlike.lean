/-
  The walk of 'alike': two slices that hold the same units are alike. Conditions: each slice can be read.
-/
import Derived.Test.YtadgbbnkhjapnabDoorUCuts
import Derived.Deep.QuietTactic
import Derived.BigQuiet
namespace Go.Proofs.YtadgbbnkhjapnabDoor
open Go.RowKit Bod

set_option maxRecDepth 100000 in
set_option maxHeartbeats 1000000 in
theorem alike_core (n b1 o1 c1 b2 o2 c2 : Nat) (c z : Nat → Int) (hn : n ≤ maxLen) (w : World)
    (h1 : ∀ j, j < n → w.cell? ⟨b1, o1 + j * 2, none⟩ = some (.int .i32 (c j)) ∧ w.cell? ⟨b1, o1 + j * 2 + 1, none⟩ = some (.int .i64 (z j)))
    (h2 : ∀ j, j < n → w.cell? ⟨b2, o2 + j * 2, none⟩ = some (.int .i32 (c j)) ∧ w.cell? ⟨b2, o2 + j * 2 + 1, none⟩ = some (.int .i64 (z j))) :
    Calls Tryd.prog 11 #[.slice (some ⟨b1, o1, none⟩) n c1, .slice (some ⟨b2, o2, none⟩) n c2] w fun e w' => e = .returned (.bool true) ∧ ∃ m, w' = w.drewN m := by
  unfold maxLen at hn
  have H1 : Hid _ := h1
  have H2 : Hid _ := h2
  clear h1 h2
  go_enter Tryd.func11, Tryd.ntmps11
  go_wp2
  go_loopw [13] (fun t wr => ∃ k m : Nat, k ≤ n ∧ t = .int .i64 k ∧ wr = w.drewN m) (fun t _ => n - (intOf t).toNat)
  case atStart => exact ⟨0, 0, Nat.zero_le _, rfl, rfl⟩
  case round =>
    obtain ⟨k, m, hk, rfl, rfl⟩ := hrel
    by_cases hlt : k < n
    · obtain ⟨a1, a2⟩ := H1.out k hlt
      obtain ⟨a3, a4⟩ := H2.out k hlt
      go_wp2
      go_quiet (fail)
      go_wp2
      exact ⟨⟨k + 1, m + nq, by omega, by go_num, rfl⟩, by simp [intOf]; omega⟩
    · go_wp2
      go_ret
      exact ⟨rfl, m, rfl⟩

/-- a slice value that holds n units: characters c, sizes z -/
def Rd (W : World) (v : Value) (n : Nat) (c z : Nat → Int) : Prop :=
  ∃ a cap, v = .slice a n cap ∧ (n ≠ 0 → ∃ b o, a = some ⟨b, o, none⟩ ∧ ∀ j, j < n → W.cell? ⟨b, o + j * 2, none⟩ = some (.int .i32 (c j)) ∧ W.cell? ⟨b, o + j * 2 + 1, none⟩ = some (.int .i64 (z j)))

set_option maxRecDepth 100000 in
set_option maxHeartbeats 1000000 in
theorem alike_none (a1 a2 : Option Addr) (c1 c2 : Nat) (w : World) :
    Calls Tryd.prog 11 #[.slice a1 0 c1, .slice a2 0 c2] w fun e w' => e = .returned (.bool true) ∧ Below w.heap.size w w' := by
  go_enter Tryd.func11, Tryd.ntmps11
  go_wp2
  go_loopw [13] (fun t wr => t = .int .i64 0 ∧ wr = w) (fun _ _ => 0)
  case atStart => exact ⟨rfl, rfl⟩
  case round =>
    obtain ⟨rfl, rfl⟩ := hrel
    go_wp2
    go_ret
    exact ⟨rfl, Below.refl _ _⟩

theorem below_drewN (w : World) (m : Nat) : Below w.heap.size w (w.drewN m) := ⟨rfl, rfl, rfl, Nat.le_refl _, fun _ _ => rfl⟩

theorem alike_any {n : Nat} {c z : Nat → Int} {v1 v2 : Value} (hn : n ≤ maxLen) {w : World} (h1 : Rd w v1 n c z) (h2 : Rd w v2 n c z) :
    Calls Tryd.prog 11 #[v1, v2] w fun e w' => e = .returned (.bool true) ∧ Below w.heap.size w w' := by
  obtain ⟨a1, c1, rfl, g1⟩ := h1
  obtain ⟨a2, c2, rfl, g2⟩ := h2
  by_cases h0 : n = 0
  · subst h0; exact alike_none a1 a2 c1 c2 w
  · obtain ⟨b1, o1, rfl, k1⟩ := g1 h0
    obtain ⟨b2, o2, rfl, k2⟩ := g2 h0
    exact (alike_core n b1 o1 c1 b2 o2 c2 c z hn w k1 k2).mono fun e w' ⟨he, m, hw⟩ => ⟨he, hw ▸ below_drewN w m⟩

theorem Rd.below {W W' : World} {v : Value} {n : Nat} {c z : Nat → Int} (h : Rd W v n c z) (hb : Below W.heap.size W W') : Rd W' v n c z := by
  obtain ⟨a, cap, rfl, g⟩ := h
  refine ⟨a, cap, rfl, fun h0 => ?_⟩
  obtain ⟨b, o, rfl, k⟩ := g h0
  have hl : ∀ (a : Addr) (v : Value), W.cell? a = some v → W'.cell? a = some v := fun a v h => by
    have hlt : a.block < W.heap.size := by
      unfold World.cell? at h
      cases ho : W.heap[a.block]? with
      | none => simp [ho] at h
      | some o => exact (Array.getElem?_eq_some_iff.1 ho).1
    exact (hb.cell (p := a) hlt).trans h
  exact ⟨b, o, rfl, fun j hj => ⟨hl _ _ (k j hj).1, hl _ _ (k j hj).2⟩⟩

/-- the j-th unit of a list of offsets -/
def chAt (s : ByteArray) (xs : List Nat) (j : Nat) : Int := ch s (xs.getD j 0)
def szAt (s : ByteArray) (xs : List Nat) (j : Nat) : Int := sz s (xs.getD j 0)
theorem ucells_get (s : ByteArray) : ∀ (xs : List Nat) (j : Nat), j < xs.length → (ucells s xs)[j * 2]? = some (.int .i32 (chAt s xs j)) ∧ (ucells s xs)[j * 2 + 1]? = some (.int .i64 (szAt s xs j))
  | [], _, h => by simp at h
  | x :: xs, 0, _ => by simp [ucells, chAt, szAt]
  | x :: xs, j + 1, h => by
    have := ucells_get s xs j (by simpa using h)
    simp only [ucells, List.flatMap_cons, chAt, szAt, List.getD_cons_succ] at this ⊢
    rw [show (j + 1) * 2 = j * 2 + 2 by omega]
    simpa using this
theorem ucells_len (s : ByteArray) : ∀ xs : List Nat, (ucells s xs).length = xs.length * 2
  | [] => rfl
  | x :: xs => by
    have := ucells_len s xs
    simp only [ucells, List.flatMap_cons, List.length_append, List.length_cons, List.length_nil] at this ⊢
    omega
/-- a row of units that a slice owns is read -/
theorem Rd.of_row {W : World} {base g cap : Nat} {s : ByteArray} {xs : List Nat} (h : W.ownsRow base 32 2 (.slice (some ⟨g, 0, none⟩) xs.length cap) xs.length (ucells s xs)) : Rd W (.slice (some ⟨g, 0, none⟩) xs.length cap) xs.length (chAt s xs) (szAt s xs) := by
  refine ⟨_, cap, rfl, fun _ => ⟨g, 0, rfl, fun j hj => ?_⟩⟩
  obtain ⟨e1, e2⟩ := ucells_get s xs j hj
  rw [Nat.zero_add]
  exact ⟨(h.cellAt (j * 2) (by omega)).trans e1, (h.cellAt (j * 2 + 1) (by omega)).trans e2⟩
end Go.Proofs.YtadgbbnkhjapnabDoor
