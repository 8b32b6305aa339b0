/-
  The walks of package cluster's joined, begun and grown: what CMath tells. Conditions: of begun and grown: the sums are no greater than an int.
-/
import Derived.Test.YtfjoklbiocniiaaDoorPkB
import Derived.Test.YtfjoklbiocniiaaDoorKBase
import Derived.Test.YtfjoklbiocniiaaDoorVWalkB
import Derived.Deep.RegionHeld3
namespace Go.Proofs.YtfjoklbiocniiaaDoor
open Go.RowKit Bod Wid


set_option maxRecDepth 100000 in
set_option maxHeartbeats 1000000 in
theorem joined_any (a b : Int) (w : World) : Calls Tryd.prog 46 #[.int .i32 a, .int .i32 b] w fun e w' => e = .returned (.bool (jn a b)) ∧ Below w.heap.size w w' := by
  have HB : Hid (∀ W, Below w.heap.size w W → Calls Tryd.prog 65 #[.int .i32 b] W fun e w' => e = .returned (.int .i64 (cls b)) ∧ Below w.heap.size w w') := fun W hb => (class_any b W).mono fun _ _ ⟨h1, h2⟩ => ⟨h1, hb.trans (h2.mono hb.size)⟩
  have HA : Hid (∀ W, Below w.heap.size w W → Calls Tryd.prog 65 #[.int .i32 a] W fun e w' => e = .returned (.int .i64 (cls a)) ∧ Below w.heap.size w w') := fun W hb => (class_any a W).mono fun _ _ ⟨h1, h2⟩ => ⟨h1, hb.trans (h2.mono hb.size)⟩
  unfold jn
  by_cases h1 : b = 10
  · rw [if_pos h1]
    subst h1
    go_enter Tryd.func46, Tryd.ntmps46
    go_wp2
    go_ret
    exact ⟨rfl, Below.refl _ _⟩
  · rw [if_neg h1]
    by_cases h2 : cls b = 3
    · simp only [h2, true_and]
      rw [h2] at HB
      generalize cls a = k at HA
      by_cases h3 : k = 1
      · subst h3
        go_enter Tryd.func46, Tryd.ntmps46
        go_wp2_with (first | (go_at_call 65; refine (HB.out _ (Below.refl _ _)).mono ?_; clear HB; rintro e w1 ⟨rfl, hb1⟩) | (go_at_call 65; refine (HA.out _ hb1).mono ?_; clear HA; rintro e w2 ⟨rfl, hb2⟩))
        go_ret
        exact ⟨rfl, hb2⟩
      · go_enter Tryd.func46, Tryd.ntmps46
        go_wp2_with (first | (go_at_call 65; refine (HB.out _ (Below.refl _ _)).mono ?_; clear HB; rintro e w1 ⟨rfl, hb1⟩) | (go_at_call 65; refine (HA.out _ hb1).mono ?_; clear HA; rintro e w2 ⟨rfl, hb2⟩))
        go_ret
        exact ⟨ret_bool (by rw [Bool.eq_iff_iff]; simp [h3]), hb2⟩
    · rw [decide_eq_false (fun h => h2 h.1)]
      generalize cls b = k at HB h2
      go_enter Tryd.func46, Tryd.ntmps46
      go_wp2_with (go_at_call 65; refine (HB.out _ (Below.refl _ _)).mono ?_; clear HB; rintro e w1 ⟨rfl, hb1⟩)
      go_ret
      exact ⟨rfl, hb1⟩

/-- a cluster's value -/
abbrev cv (c : Clu) : Value := .agg #[.int .i64 (c.fr : Int), .int .i64 (c.to : Int), .int .i64 c.k, .int .i64 c.n]
/-- .. and its cells -/
abbrev cvs (c : Clu) : Array Value := #[.int .i64 (c.fr : Int), .int .i64 (c.to : Int), .int .i64 c.k, .int .i64 c.n]

/-- four cells that may be written -/
def Zd (W : World) (b : Nat) : Prop := W.cell? ⟨b, 0, none⟩ = some (.int .i64 0) ∧ W.cell? ⟨b, 1, none⟩ = some (.int .i64 0) ∧ W.cell? ⟨b, 2, none⟩ = some (.int .i64 0) ∧ W.cell? ⟨b, 3, none⟩ = some (.int .i64 0) ∧
  W.frozen? ⟨b, 0, none⟩ = false ∧ W.frozen? ⟨b, 1, none⟩ = false ∧ W.frozen? ⟨b, 2, none⟩ = false ∧ W.frozen? ⟨b, 3, none⟩ = false
theorem zd_of {W : World} {b : Nat} {t : TypeId} (h : W.heap[b]? = some (.cells #[.int .i64 0, .int .i64 0, .int .i64 0, .int .i64 0] t (0, 0))) : Zd W b := by
  unfold Zd
  simp [World.cell?, World.frozen?, h]
set_option maxRecDepth 100000 in
set_option maxHeartbeats 1000000 in
theorem begun_any (i z : Nat) (c : Int) (h : i + z ≤ 9223372036854775807) (w : World) :
    Calls Tryd.prog 45 #[.int .i64 i, .agg #[.int .i32 c, .int .i64 z]] w fun e w' => e = .returned (.agg #[.int .i64 i, .int .i64 ((i : Int) + z), .int .i64 (cls c), .int .i64 (cel c)]) ∧ Below w.heap.size w w' := by
  obtain ⟨W0, hW0⟩ : ∃ W0, (w.alloc (.cells #[.int .i32 c, .int .i64 z] 82)).alloc (.cells #[.int .i64 0, .int .i64 0, .int .i64 0, .int .i64 0] 56) = W0 := ⟨_, rfl⟩
  have hB0 : Below w.heap.size w W0 := by rw [← hW0]; exact ((Below.refl _ w).alloc (Nat.le_refl _) _).alloc (by simp) _
  have hS0 : W0.heap.size = w.heap.size + 2 := by rw [← hW0]; simp
  have hc0 : W0.cell? ⟨w.heap.size, 0, none⟩ = some (.int .i32 c) := by rw [← hW0]; simp
  have hc1 : W0.cell? ⟨w.heap.size, 1, none⟩ = some (.int .i64 z) := by rw [← hW0]; simp
  have hz : W0.heap[w.heap.size + 1]? = some (.cells #[.int .i64 0, .int .i64 0, .int .i64 0, .int .i64 0] 56 (0, 0)) := by
    rw [← hW0]
    exact heap_two' w _ _
  have HC : Hid (∀ W, Below W0.heap.size W0 W → Calls Tryd.prog 65 #[.int .i32 c] W fun e w' => e = .returned (.int .i64 (cls c)) ∧ w'.cell? ⟨w.heap.size, 0, none⟩ = some (.int .i32 c) ∧ w'.cell? ⟨w.heap.size, 1, none⟩ = some (.int .i64 z) ∧ Below W0.heap.size W0 w') := fun W hb => (class_any c W).mono fun e w' ⟨h1, h2⟩ => (by
    have h3 : Below W0.heap.size W0 w' := hb.trans (h2.mono hb.size)
    exact ⟨h1, (h3.cell (p := ⟨w.heap.size, 0, none⟩) (by show w.heap.size < _; omega)).trans hc0, (h3.cell (p := ⟨w.heap.size, 1, none⟩) (by show w.heap.size < _; omega)).trans hc1, h3⟩)
  have HE : Hid (∀ W, Below W0.heap.size W0 W → Calls Tryd.prog 66 #[.int .i32 c] W fun e w' => e = .returned (.int .i64 (cel c)) ∧ w'.cell? ⟨w.heap.size, 0, none⟩ = some (.int .i32 c) ∧ w'.cell? ⟨w.heap.size, 1, none⟩ = some (.int .i64 z) ∧ Zd w' (w.heap.size + 1) ∧ Below W0.heap.size W0 w') := fun W hb => (cells_any c W).mono fun e w' ⟨h1, h2⟩ => (by
    have h3 : Below W0.heap.size W0 w' := hb.trans (h2.mono hb.size)
    exact ⟨h1, (h3.cell (p := ⟨w.heap.size, 0, none⟩) (by show w.heap.size < _; omega)).trans hc0, (h3.cell (p := ⟨w.heap.size, 1, none⟩) (by show w.heap.size < _; omega)).trans hc1, zd_of (by rw [h3.block _ (by omega)]; exact hz), h3⟩)
  have hwr : IntKind.i64.wrap ((i : Int) + z) = ((i : Int) + z) := by rw [IntKind.wrap_i64]; omega
  generalize cls c = K at HC
  generalize cel c = L at HE
  go_enter Tryd.func45, Tryd.ntmps45
  go_wp2
  have HS : Hid (W0.heap.size = w.heap.size + 2) := hS0
  have H0 : Hid (Below w.heap.size w W0) := hB0
  clear hS0 hz hW0 hB0
  go_region_held3 (fun w' => w'.cell? ⟨w.heap.size, 0, none⟩ = some (.int .i32 c) ∧ w'.cell? ⟨w.heap.size, 1, none⟩ = some (.int .i64 z)) (go_keep) (first | (go_at_call 65; refine (HC.out _ ?_).mono ?_; (exact ⟨rfl, rfl, rfl, Nat.le_refl _, fun _ _ => rfl⟩); clear HC; rintro e w1 ⟨rfl, a0, a1, hb1⟩) | (go_at_call 66; refine (HE.out _ hb1).mono ?_; clear HE; rintro e w2 ⟨rfl, b0, b1, ⟨z0, z1, z2, z3, f0, f1, f2, f3⟩, hb2⟩))
  go_wp2
  have hb3 : Below w.heap.size w w2 := H0.out.trans (hb2.mono H0.out.size)
  have hs3 : w.heap.size + 2 ≤ w2.heap.size := by have := hb2.size; have := HS.out; omega
  refine bodyPost_ret (v := .agg #[.int .i64 i, .int .i64 ((i : Int) + z), .int .i64 K, .int .i64 L]) ?_ rfl ⟨rfl, (((hb3.setCell (p := ⟨w.heap.size + 1, 0, none⟩) (by simp) _).setCell (p := ⟨w.heap.size + 1, 1, none⟩) (by simp) _).setCell (p := ⟨w.heap.size + 1, 2, none⟩) (by simp) _).setCell (p := ⟨w.heap.size + 1, 3, none⟩) (by simp) _⟩
  simp [results, Tryd.results45, go_sem, z0, z1, z2, z3]

set_option maxRecDepth 100000 in
set_option maxHeartbeats 1000000 in
theorem grown_any (f t z : Nat) (k n c : Int) (h : t + z ≤ 9223372036854775807) (w : World) :
    Calls Tryd.prog 47 #[.agg #[.int .i64 f, .int .i64 t, .int .i64 k, .int .i64 n], .agg #[.int .i32 c, .int .i64 z]] w fun e w' => e = .returned (.agg #[.int .i64 f, .int .i64 ((t : Int) + z), .int .i64 (if c = 10 then 1 else k), .int .i64 (if c = 10 then 0 else n)]) ∧ Below w.heap.size w w' := by
  by_cases hc : c = 10
  · subst hc
    rw [if_pos rfl, if_pos rfl]
    go_enter Tryd.func47, Tryd.ntmps47
    go_wp2
    refine bodyPost_ret (v := .agg #[.int .i64 f, .int .i64 ((t : Int) + z), .int .i64 1, .int .i64 0]) (by simp [results, Tryd.results47, go_sem]) rfl ⟨rfl, (((Below.refl _ w).alloc (Nat.le_refl _) _).alloc (by simp) _).alloc (by simp; omega) _⟩
  · rw [if_neg hc, if_neg hc]
    go_enter Tryd.func47, Tryd.ntmps47
    go_wp2
    refine bodyPost_ret (v := .agg #[.int .i64 f, .int .i64 ((t : Int) + z), .int .i64 k, .int .i64 n]) (by simp [results, Tryd.results47, go_sem]) rfl ⟨rfl, (((Below.refl _ w).alloc (Nat.le_refl _) _).alloc (by simp) _).alloc (by simp; omega) _⟩
end Go.Proofs.YtfjoklbiocniiaaDoor
