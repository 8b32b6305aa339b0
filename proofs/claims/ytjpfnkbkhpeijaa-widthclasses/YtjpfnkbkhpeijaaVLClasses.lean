/-
  The walk of the law WidthClasses: for every list of numbers it returns true: Class and Cells answer as the document's own tables say. Conditions: the list can be read.
-/
import Derived.Test.YtjpfnkbkhpeijaaVLaw
import Derived.Test.YtjpfnkbkhpeijaaURunes
import Derived.Lib.QuietBelow
namespace Go.Proofs.Ytjpfnkbkhpeijaa.widthClasses
open Go.RowKit Go.Sort Wid

set_option maxRecDepth 100000 in
set_option maxHeartbeats 2000000 in
theorem walk (rs : List Int) (b o n cap : Nat) (hn : n = rs.length) (hm : n ≤ maxLen) (w : World) (h : ∀ j, j < rs.length → w.cell? ⟨b, o + j, none⟩ = some (.int .i32 (rs[j]?.getD 0))) (hb : b < w.heap.size) :
    Calls Try.prog 3 #[.slice (some ⟨b, o, none⟩) n cap] w fun e w' => e = .returned (.bool true) ∧ Below w.heap.size w w' := by
  have cA := awake_any w
  have HC : Hid _ := h
  have HN : Hid (n = rs.length) := hn
  unfold maxLen at hm
  clear h hn
  go_enter Try.func3, Try.ntmps3
  go_wp2_with (go_at_call 7; refine cA.mono ?_; clear cA; rintro e w0 ⟨rfl, hb0⟩)
  go_loopw [3] (fun t wr => ∃ k : Nat, k ≤ n ∧ t = .int .i64 k ∧ Below w.heap.size w wr) (fun t _ => n - (intOf t).toNat)
  case atStart => exact ⟨0, Nat.zero_le _, rfl, hb0⟩
  case round =>
    obtain ⟨k, hk, rfl, hB⟩ := hrel
    clear hb0
    by_cases hlt : k < n
    · have hc : wr.cell? ⟨b, o + k, none⟩ = some (.int .i32 (rs[k]?.getD 0)) := (hB.cell (p := ⟨b, o + k, none⟩) hb).trans (HC.out k (by rw [← HN.out]; exact hlt))
      generalize rs[k]?.getD 0 = c at hc
      have cQ1 : ∀ d os, Calls Try.prog 8 #[.int .i32 c] (grow (redrawn wr d) os) fun e w'' => e = .returned (.int .i64 (cls c)) ∧ ∃ p : Regrown, w'' = grow (redrawn wr p.d) p.os := fun d os => Calls.regrown_of (class_any c _)
      have cQ2 : ∀ d os, Calls Try.prog 9 #[.int .i32 c] (grow (redrawn wr d) os) fun e w'' => e = .returned (.int .i64 (cls c)) ∧ ∃ p : Regrown, w'' = grow (redrawn wr p.d) p.os := fun d os => Calls.regrown_of (rclass_any c _)
      have cQ3 : ∀ d os, Calls Try.prog 10 #[.int .i32 c] (grow (redrawn wr d) os) fun e w'' => e = .returned (.int .i64 (cel c)) ∧ ∃ p : Regrown, w'' = grow (redrawn wr p.d) p.os := fun d os => Calls.regrown_of (cells_any c _)
      have cQ4 : ∀ d os, Calls Try.prog 11 #[.int .i32 c] (grow (redrawn wr d) os) fun e w'' => e = .returned (.int .i64 (cel c)) ∧ ∃ p : Regrown, w'' = grow (redrawn wr p.d) p.os := fun d os => Calls.regrown_of (rcells_any c _)
      generalize cls c = K at cQ1 cQ2
      generalize cel c = L at cQ3 cQ4
      have q0 := cell_regrown hc
      clear hc
      go_wp2
      refine wp_region_quiet_below (by kernel_rfl) (by kernel_rfl) ?_
      repeat (quiet_step (fail))
      quiet_step (exact cQ1 _ _)
      repeat (quiet_step (fail))
      quiet_step (exact cQ2 _ _)
      repeat (quiet_step (fail))
      quiet_step (exact cQ3 _ _)
      repeat (quiet_step (fail))
      quiet_step (exact cQ4 _ _)
      repeat (quiet_step (fail))
      refine wpQuiet_nil ?_
      intro _ hw'
      obtain ⟨⟨dq, osq⟩, hw''⟩ := hw'
      subst hw''
      clear cQ1 cQ2 cQ3 cQ4 q0
      go_wp2
      exact ⟨⟨k + 1, by omega, by go_num, hB.trans ((below_regrown wr dq osq).mono hB.size)⟩, by simp [intOf]; omega⟩
    · go_wp2
      go_ret
      exact ⟨rfl, hB⟩
set_option maxRecDepth 100000 in
set_option maxHeartbeats 1000000 in
theorem walk_none (a : Option Addr) (cap : Nat) (w : World) : Calls Try.prog 3 #[.slice a 0 cap] w fun e w' => e = .returned (.bool true) ∧ Below w.heap.size w w' := by
  have cA := awake_any w
  go_enter Try.func3, Try.ntmps3
  go_wp2_with (go_at_call 7; refine cA.mono ?_; clear cA; rintro e w0 ⟨rfl, hb0⟩)
  go_loopw [3] (fun t wr => t = .int .i64 0 ∧ w0 = wr) (fun _ _ => 0)
  case atStart => exact ⟨rfl, rfl⟩
  case round =>
    obtain ⟨rfl, rfl⟩ := hrel
    go_wp2
    go_ret
    exact ⟨rfl, hb0⟩
theorem walk_of (a : Option Addr) (len cap : Nat) (w : World) (rs : List Int) (y : Runes w a len rs) (u : len ≤ maxLen) :
    Calls Try.prog 3 #[.slice a len cap] w fun e w' => e = .returned (.bool true) ∧ Below w.heap.size w w' := by
  obtain ⟨h1, _, h2⟩ := y
  by_cases h0 : len = 0
  · subst h0; exact walk_none a cap w
  · obtain ⟨b, o, rfl, hb, hc⟩ := h2 h0
    exact walk rs b o len cap h1.symm u w hc hb
end Go.Proofs.Ytjpfnkbkhpeijaa.widthClasses
