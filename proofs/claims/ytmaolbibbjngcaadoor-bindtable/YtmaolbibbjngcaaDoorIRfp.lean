/-
  The document's own digit and prefix of layer 19. No conditions beyond.
-/
import Derived.Test.YtmaolbibbjngcaaDoorIRfi
namespace Go.Proofs.YtmaolbibbjngcaaDoor
open Go.RowKit
section
set_option maxRecDepth 100000
set_option maxHeartbeats 2000000
theorem rdig_any (k : Ky) (has : Bool) (w : World) : Calls Tryd.prog 32 #[kyv k, .bool has] w fun e w' => e = .returned (.bool (digR k has)) ∧ Below w.heap.size w w' := by
  have HB : Hid (Below w.heap.size w (w.alloc (.cells (kyc k) 30))) := (Below.refl _ w).alloc (Nat.le_refl _) _
  obtain ⟨R, hR⟩ : ∃ R, digR k has = R := ⟨_, rfl⟩
  have HR : Hid (digR k has = R) := hR
  rw [hR]
  clear hR
  obtain ⟨a, c, ct, m, sh, tx⟩ := k
  unfold digR at HR
  unfold kyv
  unfold kyc at HB
  simp only at HR
  by_cases h1 : a = 1
  · subst h1
    cases ct <;> cases m <;> cases has
    all_goals
      by_cases g0 : 48 ≤ c
      · by_cases g1 : c ≤ 57
        · go_enter Tryd.func32, Tryd.ntmps32
          go_wp2
          go_ret
          exact ⟨ret_bool (by rw [← HR.out]; simp [g0, g1] <;> omega), HB.out⟩
        · go_enter Tryd.func32, Tryd.ntmps32
          go_wp2
          go_ret
          exact ⟨ret_bool (by rw [← HR.out]; simp [g0, g1] <;> omega), HB.out⟩
      · go_enter Tryd.func32, Tryd.ntmps32
        go_wp2
        go_ret
        exact ⟨ret_bool (by rw [← HR.out]; simp <;> omega), HB.out⟩
  · have e1 : (a == 1) = false := by simp [h1]
    go_enter Tryd.func32, Tryd.ntmps32
    go_wp2
    go_ret
    exact ⟨ret_bool (by rw [← HR.out]; simp [h1]), HB.out⟩
theorem rpfx_any (k : Ky) (w : World) : Calls Tryd.prog 33 #[kyv k] w fun e w' => e = .returned (.string (preR k)) ∧ Below w.heap.size w w' := by
  have HB : Hid (Below w.heap.size w (w.alloc (.cells (kyc k) 30))) := (Below.refl _ w).alloc (Nat.le_refl _) _
  obtain ⟨R, hR⟩ : ∃ R, preR k = R := ⟨_, rfl⟩
  have HR : Hid (preR k = R) := hR
  rw [hR]
  clear hR
  obtain ⟨a, c, ct, m, sh, tx⟩ := k
  unfold preR at HR
  unfold kyv
  unfold kyc at HB
  simp only at HR
  by_cases h2 : a = 2
  · subst h2
    cases m
    · by_cases g : c = 81
      · subst g
        go_enter Tryd.func33, Tryd.ntmps33
        go_wp2
        go_ret
        exact ⟨ret_str' (by rw [← HR.out]; simp ), HB.out⟩
      · have eg : (c == 81) = false := by simp [g]
        by_cases i : c = 88
        · subst i
          go_enter Tryd.func33, Tryd.ntmps33
          go_wp2
          go_ret
          exact ⟨ret_str' (by rw [← HR.out]; simp ), HB.out⟩
        · have ei : (c == 88) = false := by simp [i]
          go_enter Tryd.func33, Tryd.ntmps33
          go_wp2
          go_ret
          exact ⟨ret_str' (by rw [← HR.out]; simp [g, i]), HB.out⟩
    · go_enter Tryd.func33, Tryd.ntmps33
      go_wp2
      go_ret
      exact ⟨ret_str' (by rw [← HR.out]; simp ), HB.out⟩
  have e2 : (a == 2) = false := by simp [h2]
  by_cases h1 : a = 1
  · subst h1
    cases m <;> cases ct
    · go_enter Tryd.func33, Tryd.ntmps33
      go_wp2
      go_ret
      exact ⟨ret_str' (by rw [← HR.out]; simp ), HB.out⟩
    · go_enter Tryd.func33, Tryd.ntmps33
      go_wp2
      go_ret
      exact ⟨ret_str' (by rw [← HR.out]; simp ), HB.out⟩
    · by_cases g : c = 109
      · subst g
        go_enter Tryd.func33, Tryd.ntmps33
        go_wp2
        go_ret
        exact ⟨ret_str' (by rw [← HR.out]; simp ), HB.out⟩
      · have eg : (c == 109) = false := by simp [g]
        by_cases i : c = 39
        · subst i
          go_enter Tryd.func33, Tryd.ntmps33
          go_wp2
          go_ret
          exact ⟨ret_str' (by rw [← HR.out]; simp ), HB.out⟩
        · have ei : (c == 39) = false := by simp [i]
          go_enter Tryd.func33, Tryd.ntmps33
          go_wp2
          go_ret
          exact ⟨ret_str' (by rw [← HR.out]; simp [g, i]), HB.out⟩
    · go_enter Tryd.func33, Tryd.ntmps33
      go_wp2
      go_ret
      exact ⟨ret_str' (by rw [← HR.out]; simp ), HB.out⟩
  have e1 : (a == 1) = false := by simp [h1]
  go_enter Tryd.func33, Tryd.ntmps33
  go_wp2
  go_ret
  exact ⟨ret_str' (by rw [← HR.out]; simp [h1, h2]), HB.out⟩
end
end Go.Proofs.YtmaolbibbjngcaaDoor
