/-
  Package bind's is, digit, markName and controlByte: what IMath tells of a key. Conditions: those of each theorem.
-/
import Derived.Test.YtmaolbibbjngcaaDoorIMath
namespace Go.Proofs.YtmaolbibbjngcaaDoor
open Go.RowKit

theorem is_eq {k : Ky} {kd ch : Int} {me b : Bool} (h : b = isP k kd me ch) : Ending.returned (.bool b) = .returned (.bool (isP k kd me ch)) := by rw [h]
set_option maxRecDepth 100000 in
set_option maxHeartbeats 1000000 in
theorem is_any (k : Ky) (kd : Int) (me : Bool) (ch : Int) (w : World) : Calls Tryd.prog 48 #[kyv k, .int .i64 kd, .bool me, .int .i32 ch] w fun e w' => e = .returned (.bool (isP k kd me ch)) ∧ Below w.heap.size w w' := by
  obtain ⟨a, c, ct, m, sh, tx⟩ := k
  unfold kyv
  obtain ⟨R, hR⟩ : ∃ R, isP ⟨a, c, ct, m, sh, tx⟩ kd me ch = R := ⟨_, rfl⟩
  rw [hR]
  have HR : Hid (isP ⟨a, c, ct, m, sh, tx⟩ kd me ch = R) := hR
  clear hR
  have HB : Hid (Below w.heap.size w (w.alloc (.cells #[.int .i64 a, .int .i32 c, .bool ct, .bool m, .bool sh, .string tx] 30))) := (Below.refl _ w).alloc (Nat.le_refl _) _
  by_cases h1 : a = kd
  · subst h1
    by_cases h2 : m = me
    · subst h2
      by_cases h3 : c = ch
      · subst h3
        by_cases h4 : a = 2
        · subst h4
          go_enter Tryd.func48, Tryd.ntmps48
          go_wp2
          go_ret
          exact ⟨ret_bool (by rw [← HR.out]; simp [isP]), HB.out⟩
        · have h5 : (a == 2) = false := by simp [h4]
          cases ct <;>
          · go_enter Tryd.func48, Tryd.ntmps48
            go_wp2
            go_ret
            exact ⟨ret_bool (by rw [← HR.out]; simp [isP, h4]), HB.out⟩
      · have h5 : (c == ch) = false := by simp [h3]
        go_enter Tryd.func48, Tryd.ntmps48
        go_wp2
        go_ret
        exact ⟨ret_bool (by rw [← HR.out]; simp [isP, h3]), HB.out⟩
    · have h5 : (m == me) = false := by simp [h2]
      go_enter Tryd.func48, Tryd.ntmps48
      go_wp2
      go_ret
      exact ⟨ret_bool (by rw [← HR.out]; simp [isP, h2]), HB.out⟩
  · have h5 : (a == kd) = false := by simp [h1]
    go_enter Tryd.func48, Tryd.ntmps48
    go_wp2
    go_ret
    exact ⟨ret_bool (by rw [← HR.out]; simp [isP, h1]), HB.out⟩
set_option maxRecDepth 100000 in
set_option maxHeartbeats 1000000 in
theorem dig_any (k : Ky) (w : World) : Calls Tryd.prog 38 #[kyv k] w fun e w' => e = .returned (.bool (digP k)) ∧ Below w.heap.size w w' := by
  obtain ⟨a, c, ct, m, sh, tx⟩ := k
  unfold kyv
  obtain ⟨R, hR⟩ : ∃ R, digP ⟨a, c, ct, m, sh, tx⟩ = R := ⟨_, rfl⟩
  rw [hR]
  have HR : Hid (digP ⟨a, c, ct, m, sh, tx⟩ = R) := hR
  clear hR
  have HB : Hid (Below w.heap.size w (w.alloc (.cells #[.int .i64 a, .int .i32 c, .bool ct, .bool m, .bool sh, .string tx] 30))) := (Below.refl _ w).alloc (Nat.le_refl _) _
  by_cases h1 : a = 1
  · subst h1
    cases ct
    · by_cases h2 : 48 ≤ c
      · by_cases h3 : c ≤ 57
        · go_enter Tryd.func38, Tryd.ntmps38
          go_wp2
          go_ret
          exact ⟨ret_bool (by rw [← HR.out]; simp [digP, h2, h3]), HB.out⟩
        · go_enter Tryd.func38, Tryd.ntmps38
          go_wp2
          go_ret
          exact ⟨ret_bool (by rw [← HR.out]; simp [digP, h3]), HB.out⟩
      · go_enter Tryd.func38, Tryd.ntmps38
        go_wp2
        go_ret
        exact ⟨ret_bool (by rw [← HR.out]; simp [digP]; omega), HB.out⟩
    · go_enter Tryd.func38, Tryd.ntmps38
      go_wp2
      go_ret
      exact ⟨ret_bool (by rw [← HR.out]; simp [digP]), HB.out⟩
  · have h5 : (a == 1) = false := by simp [h1]
    go_enter Tryd.func38, Tryd.ntmps38
    go_wp2
    go_ret
    exact ⟨ret_bool (by rw [← HR.out]; simp [digP, h1]), HB.out⟩
end Go.Proofs.YtmaolbibbjngcaaDoor
