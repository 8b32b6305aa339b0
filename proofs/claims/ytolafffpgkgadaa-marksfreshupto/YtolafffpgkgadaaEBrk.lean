/-
  The library's bits.Len, nextPowerOfTwo, xorshift and breakPatternsOrdered at 13 to 27 bytes: some change places within the range. Conditions: those of each theorem.
-/
import Derived.Test.YtolafffpgkgadaaEPdq
import Derived.Test.YtolafffpgkgadaaEHeap
namespace Go.Proofs.Ytolafffpgkgadaa
open Go.RowKit

def lg (n : Nat) : Nat := if n < 16 then 4 else 5
set_option maxRecDepth 100000 in
set_option maxHeartbeats 1000000 in
theorem len64_mid {n : Nat} (h1 : 13 ≤ n) (h2 : n ≤ 27) (w : World) : Calls Try.prog 67 #[.int .u64 (n : Int)] w fun e w' => e = .returned (.int .i64 (lg n : Int)) ∧ w' = w := by
  have a1 : ¬ ((4294967296 : Int) ≤ (n : Int)) := by omega
  have a2 : ¬ ((65536 : Int) ≤ (n : Int)) := by omega
  have a3 : ¬ ((256 : Int) ≤ (n : Int)) := by omega
  go_enter Try.func67, Try.ntmps67
  go_wp2
  go_ret
  refine ⟨congrArg (fun x => Ending.returned (.int .i64 x)) ?_, rfl⟩
  have hb : ∀ u : UInt8, wrap64 (wrap64 (u.toNat : Int)) = (u.toNat : Int) := fun u => by
    have := u.toNat_lt
    have e := w64 (x := (u.toNat : Int)) (by omega) (by omega)
    rw [e, e]
  refine (hb _).trans ?_
  have hc : n = 13 ∨ n = 14 ∨ n = 15 ∨ n = 16 ∨ n = 17 ∨ n = 18 ∨ n = 19 ∨ n = 20 ∨ n = 21 ∨ n = 22 ∨ n = 23 ∨ n = 24 ∨ n = 25 ∨ n = 26 ∨ n = 27 := by omega
  rcases hc with rfl | rfl | rfl | rfl | rfl | rfl | rfl | rfl | rfl | rfl | rfl | rfl | rfl | rfl | rfl <;> rfl
set_option maxRecDepth 100000 in
theorem blen_mid {n : Nat} (h1 : 13 ≤ n) (h2 : n ≤ 27) (w : World) : Calls Try.prog 56 #[.int .u64 (n : Int)] w fun e w' => e = .returned (.int .i64 (lg n : Int)) ∧ w' = w := by
  have CL := len64_mid h1 h2 w
  go_enter Try.func56, Try.ntmps56
  go_wp2_with (go_at_call 67; refine CL.mono ?_; rintro e w1 ⟨rfl, rfl⟩)
  go_ret
  exact ⟨rfl, rfl⟩
set_option maxRecDepth 100000 in
theorem npow_mid {n : Nat} (h1 : 13 ≤ n) (h2 : n ≤ 27) (w : World) : Calls Try.prog 69 #[.int .i64 (n : Int)] w fun e w' => e = .returned (.int .u64 (if n < 16 then 16 else 32)) ∧ w' = w := by
  have CL := blen_mid h1 h2 w
  unfold lg at CL
  by_cases c : n < 16
  · rw [if_pos c] at CL
    rw [if_pos c]
    go_enter Try.func69, Try.ntmps69
    go_wp2_with (go_at_call 56; refine CL.mono ?_; rintro e w1 ⟨rfl, rfl⟩)
    go_ret
    exact ⟨rfl, rfl⟩
  · rw [if_neg c] at CL
    rw [if_neg c]
    go_enter Try.func69, Try.ntmps69
    go_wp2_with (go_at_call 56; refine CL.mono ?_; rintro e w1 ⟨rfl, rfl⟩)
    go_ret
    exact ⟨rfl, rfl⟩
set_option maxRecDepth 100000 in
set_option maxHeartbeats 2000000 in
theorem next_any {s : Nat} {x : Int} {w : World} (h : w.heap[s]? = some (.cells #[.int .u64 x] 103 (0, 0))) : Calls Try.prog 70 #[.pointer (some ⟨s, 0, none⟩)] w fun e w' => ∃ y, e = .returned (.int .u64 y) ∧ w'.heap[s]? = some (.cells #[.int .u64 y] 103 (0, 0)) ∧ w.grownBy w' (some s) := by
  have hc : w.cell? ⟨s, 0, none⟩ = some (.int .u64 x) := by simp [World.cell?, h]
  have hf : w.frozen? ⟨s, 0, none⟩ = false := by simp [World.frozen?, h]
  have b1 : ∀ u, (w.setCell ⟨s, 0, none⟩ u).heap[s]? = some (.cells #[u] 103 (0, 0)) := fun u => by simpa using set1 (i := 0) u h
  have b2 : ∀ u v, ((w.setCell ⟨s, 0, none⟩ u).setCell ⟨s, 0, none⟩ v).heap[s]? = some (.cells #[v] 103 (0, 0)) := fun u v => by simpa using set1 (i := 0) v (b1 u)
  have HB : Hid (∀ u v t, (((w.setCell ⟨s, 0, none⟩ u).setCell ⟨s, 0, none⟩ v).setCell ⟨s, 0, none⟩ t).heap[s]? = some (.cells #[t] 103 (0, 0))) := fun u v t => by simpa using set1 (i := 0) t (b2 u v)
  have c1 : ∀ u, (w.setCell ⟨s, 0, none⟩ u).cell? ⟨s, 0, none⟩ = some u := fun u => by simp [World.cell?, b1]
  have c2 : ∀ u v, ((w.setCell ⟨s, 0, none⟩ u).setCell ⟨s, 0, none⟩ v).cell? ⟨s, 0, none⟩ = some v := fun u v => by simp [World.cell?, b2]
  have c3 : ∀ u v t, (((w.setCell ⟨s, 0, none⟩ u).setCell ⟨s, 0, none⟩ v).setCell ⟨s, 0, none⟩ t).cell? ⟨s, 0, none⟩ = some t := fun u v t => by simp [World.cell?, HB.out]
  clear h b1 b2
  go_enter Try.func70, Try.ntmps70
  go_wp2
  go_region
  all_goals go_wp2
  all_goals go_region
  all_goals go_wp2
  all_goals go_region
  all_goals go_wp2
  all_goals go_ret
  all_goals exact ⟨_, rfl, HB.out _ _ _, grownS (gcell _ _ _ _) (grownS (gcell _ _ _ _) (grownS (gcell _ _ _ _) ⟨rfl, rfl, rfl, Nat.le_refl _, fun _ _ _ => rfl⟩))⟩
end Go.Proofs.Ytolafffpgkgadaa
