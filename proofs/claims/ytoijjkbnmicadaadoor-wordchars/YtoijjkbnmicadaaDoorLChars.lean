/-
  The walk of the law WordChars: for every list of numbers it returns true: IsWord, UpperOf and LowerOf answer as the document's own copies say. Conditions: the list can be read; the two tables of unicode/utf8 lie as their text lays them.
-/
import Derived.Test.YtoijjkbnmicadaaDoorWLaw
import Derived.Test.YtoijjkbnmicadaaDoorWRef
import Derived.Test.YtoijjkbnmicadaaDoorWRefC
import Derived.Test.YtoijjkbnmicadaaDoorURunes
namespace Go.Proofs.YtoijjkbnmicadaaDoor.wordChars
open Go.RowKit Go.Sort Wid

set_option maxRecDepth 100000 in
set_option maxHeartbeats 2000000 in
theorem walk (rs : List Int) (b o n cap : Nat) (hn : n = rs.length) (hm : n ≤ maxLen) (w : World) (h : ∀ j, j < rs.length → w.cell? ⟨b, o + j, none⟩ = some (.int .i32 (rs[j]?.getD 0))) (hb : b < w.heap.size) (hT : Lib.Utf8Tabs 1 2 w) (hlo0 : 1 < w.heap.size) (hlo1 : 2 < w.heap.size) :
    Calls Tryd.prog 3 #[.slice (some ⟨b, o, none⟩) n cap] w fun e w' => e = .returned (.bool true) ∧ Below w.heap.size w w' := by
  have cA := awake_any w hT hlo0 hlo1
  have HC : Hid _ := h
  have HN : Hid (n = rs.length) := hn
  unfold maxLen at hm
  clear h hn hT hlo0 hlo1
  go_enter Tryd.func3, Tryd.ntmps3
  go_wp2_with (go_at_call 9; refine cA.mono ?_; clear cA; rintro e w0 ⟨rfl, hb0⟩)
  go_loopw [3] (fun t wr => ∃ k : Nat, k ≤ n ∧ t = .int .i64 k ∧ Below w.heap.size w wr) (fun t _ => n - (intOf t).toNat)
  case atStart => exact ⟨0, Nat.zero_le _, rfl, hb0⟩
  case round =>
    obtain ⟨k, hk, rfl, hB⟩ := hrel
    clear hb0
    by_cases hlt : k < n
    · have hc : wr.cell? ⟨b, o + k, none⟩ = some (.int .i32 (rs[k]?.getD 0)) := (hB.cell (p := ⟨b, o + k, none⟩) hb).trans (HC.out k (by rw [← HN.out]; exact hlt))
      generalize rs[k]?.getD 0 = c at hc
      have C1 : Hid (∀ W, Below w.heap.size w W → Calls Tryd.prog 10 #[.int .i32 c] W fun e w' => e = .returned (.bool (wch c)) ∧ Below w.heap.size w w') := fun W hW => (isword_any c W).mono fun e w' ⟨h1, h2⟩ => ⟨h1, hW.trans (h2.mono hW.size)⟩
      have C2 : Hid (∀ W, Below w.heap.size w W → Calls Tryd.prog 11 #[.int .i32 c] W fun e w' => e = .returned (.bool (wch c)) ∧ Below w.heap.size w w') := fun W hW => (risword_any c W).mono fun e w' ⟨h1, h2⟩ => ⟨h1, hW.trans (h2.mono hW.size)⟩
      have C3 : Hid (∀ W, Below w.heap.size w W → Calls Tryd.prog 12 #[.int .i32 c] W fun e w' => e = .returned (.int .i32 (upc c)) ∧ Below w.heap.size w w') := fun W hW => (upof_any c W).mono fun e w' ⟨h1, h2⟩ => ⟨h1, hW.trans (h2.mono hW.size)⟩
      have C4 : Hid (∀ W, Below w.heap.size w W → Calls Tryd.prog 13 #[.int .i32 c] W fun e w' => e = .returned (.int .i32 (upc c)) ∧ Below w.heap.size w w') := fun W hW => (rupof_any c W).mono fun e w' ⟨h1, h2⟩ => ⟨h1, hW.trans (h2.mono hW.size)⟩
      have C5 : Hid (∀ W, Below w.heap.size w W → Calls Tryd.prog 14 #[.int .i32 c] W fun e w' => e = .returned (.int .i32 (lowc c)) ∧ Below w.heap.size w w') := fun W hW => (lowof_any c W).mono fun e w' ⟨h1, h2⟩ => ⟨h1, hW.trans (h2.mono hW.size)⟩
      have C6 : Hid (∀ W, Below w.heap.size w W → Calls Tryd.prog 15 #[.int .i32 c] W fun e w' => e = .returned (.int .i32 (lowc c)) ∧ Below w.heap.size w w') := fun W hW => (rlowof_any c W).mono fun e w' ⟨h1, h2⟩ => ⟨h1, hW.trans (h2.mono hW.size)⟩
      generalize wch c = z1 at C1 C2
      generalize upc c = z2 at C3 C4
      generalize lowc c = z3 at C5 C6
      go_wp2_with (first | (go_at_call 10; refine (C1.out _ hB).mono ?_; clear C1; rintro e w1 ⟨rfl, hb1⟩) | (go_at_call 11; refine (C2.out _ hb1).mono ?_; clear C2; rintro e w2 ⟨rfl, hb2⟩) | (go_at_call 12; refine (C3.out _ hb2).mono ?_; clear C3; rintro e w3 ⟨rfl, hb3⟩) | (go_at_call 13; refine (C4.out _ hb3).mono ?_; clear C4; rintro e w4 ⟨rfl, hb4⟩) | (go_at_call 14; refine (C5.out _ hb4).mono ?_; clear C5; rintro e w5 ⟨rfl, hb5⟩) | (go_at_call 15; refine (C6.out _ hb5).mono ?_; clear C6; rintro e w6 ⟨rfl, hb6⟩))
      exact ⟨⟨k + 1, by omega, by go_num, hb6⟩, by simp [intOf]; omega⟩
    · go_wp2
      go_ret
      exact ⟨rfl, hB⟩
set_option maxRecDepth 100000 in
set_option maxHeartbeats 1000000 in
theorem walk_none (a : Option Addr) (cap : Nat) (w : World) (hT : Lib.Utf8Tabs 1 2 w) (hlo0 : 1 < w.heap.size) (hlo1 : 2 < w.heap.size) : Calls Tryd.prog 3 #[.slice a 0 cap] w fun e w' => e = .returned (.bool true) ∧ Below w.heap.size w w' := by
  have cA := awake_any w hT hlo0 hlo1
  go_enter Tryd.func3, Tryd.ntmps3
  go_wp2_with (go_at_call 9; refine cA.mono ?_; clear cA; rintro e w0 ⟨rfl, hb0⟩)
  go_loopw [3] (fun t wr => t = .int .i64 0 ∧ w0 = wr) (fun _ _ => 0)
  case atStart => exact ⟨rfl, rfl⟩
  case round =>
    obtain ⟨rfl, rfl⟩ := hrel
    go_wp2
    go_ret
    exact ⟨rfl, hb0⟩
theorem walk_of (a : Option Addr) (len cap : Nat) (w : World) (hT : Lib.Utf8Tabs 1 2 w) (hlo0 : 1 < w.heap.size) (hlo1 : 2 < w.heap.size) (rs : List Int) (y : Runes w a len rs) (u : len ≤ maxLen) :
    Calls Tryd.prog 3 #[.slice a len cap] w fun e w' => e = .returned (.bool true) ∧ Below w.heap.size w w' := by
  obtain ⟨h1, _, h2⟩ := y
  by_cases h0 : len = 0
  · subst h0; exact walk_none a cap w hT hlo0 hlo1
  · obtain ⟨b, o, rfl, hb, hc⟩ := h2 h0
    exact walk rs b o len cap h1.symm u w hc hb hT hlo0 hlo1
end Go.Proofs.YtoijjkbnmicadaaDoor.wordChars
