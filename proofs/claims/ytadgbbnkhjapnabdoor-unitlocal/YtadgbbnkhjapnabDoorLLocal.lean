/-
  The law UnitLocal returns true for every text and every number: whether an offset is a boundary is seen by the three bytes at each side of it. Its conditions: the two tables of unicode/utf8 start as the program's text lays them (the card ties that).
-/
import Derived.Test.YtadgbbnkhjapnabDoorUCuts
import Derived.Test.YtadgbbnkhjapnabDoorUMathB
import Derived.Lib.QuietBelow
namespace Go.Proofs.YtadgbbnkhjapnabDoor.unitLocal
open Go.RowKit Go.Sort Bod

set_option maxRecDepth 100000 in
set_option maxHeartbeats 2000000 in
theorem walk (s : ByteArray) (at_ : Int) (hs : s.size ≤ 140737488351232) (h0 : 0 ≤ at_) (h1 : at_ ≤ 65535) (w : World) (hT : Lib.Utf8Tabs 0 1 w) (hlo0 : 0 < w.heap.size) (hlo1 : 1 < w.heap.size) :
    Calls Tryd.prog 3 #[.string s, .int .u16 at_] w fun e w' => e = .returned (.bool true) ∧ Below w.heap.size w w' := by
  have hs' : s.size ≤ maxLen := by unfold maxLen; omega
  have cC := cuts_any w hT hlo0 hlo1
  have hr0 : 0 ≤ at_ % ((s.size : Int) + 1) := Int.emod_nonneg _ (by omega)
  have hr1 : at_ % ((s.size : Int) + 1) < (s.size : Int) + 1 := Int.emod_lt_of_pos _ (by omega)
  have hmix : Tryd.prog.follows .mixedOrders = true := by kernel_rfl
  go_enter Tryd.func3, Tryd.ntmps3
  go_wp2_with (go_at_call 8; refine cC.mono ?_; rintro e w1 ⟨rfl, hb1⟩)
  obtain ⟨r, hr⟩ := Int.eq_ofNat_of_zero_le hr0
  rw [hr] at hr1 ⊢
  obtain ⟨W2, hW2⟩ : ∃ W2, w1.alloc (.cells #[.int .i64 (r : Nat), .int .i64 ((r : Int) / 2), .int .i64 ((s.size : Int) - (r : Int) / 3)] 3) = W2 := ⟨_, rfl⟩
  have hc : ∀ k, k < 3 → ∃ x : Nat, x ≤ s.size ∧ W2.cell? ⟨w1.heap.size, k, none⟩ = some (.int .i64 x) := by
    intro k hk
    rw [← hW2]
    have : k = 0 ∨ k = 1 ∨ k = 2 := by omega
    rcases this with rfl | rfl | rfl
    · exact ⟨r, by omega, by simp⟩
    · exact ⟨r / 2, by omega, by simp⟩
    · exact ⟨s.size - r / 3, by omega, by simp; omega⟩
  have hB2 : Below w.heap.size w W2 := by rw [← hW2]; exact hb1.alloc hb1.size _
  have hlt : w1.heap.size < W2.heap.size := by rw [← hW2]; simp
  rw [hW2]
  have HC : Hid (∀ k, k < 3 → ∃ x : Nat, x ≤ s.size ∧ W2.cell? ⟨w1.heap.size, k, none⟩ = some (.int .i64 x)) := hc
  clear hW2 hc hr hr0 cC
  go_loopw [27] (fun t wr => ∃ k : Nat, k ≤ 3 ∧ t = .int .i64 k ∧ Below W2.heap.size W2 wr) (fun t _ => 3 - (intOf t).toNat)
  case atStart => exact ⟨0, by omega, rfl, Below.refl _ _⟩
  case round =>
    obtain ⟨k, hk, rfl, hB⟩ := hrel
    by_cases h3 : k < 3
    · obtain ⟨x, hx, hcx⟩ := HC.out k h3
      have hcx' : wr.cell? ⟨w1.heap.size, k, none⟩ = some (.int .i64 x) := (hB.cell (p := ⟨w1.heap.size, k, none⟩) hlt).trans hcx
      clear hcx
      have hTr : Lib.Utf8Tabs 0 1 wr := tabs_below hT (hB2.trans (hB.mono hB2.size))
      have cQ : ∀ d os, Calls Tryd.prog 9 #[.string s, .int .i64 x] (grow (redrawn wr d) os) fun e w'' => e = .returned (.bool (bdZ s x)) ∧ ∃ p : Regrown, w'' = grow (redrawn wr p.d) p.os := fun d os => Calls.regrown_of (bound_any s x hs' _ (tabs_below hTr (below_regrown wr d os)))
      obtain ⟨a, ha⟩ : ∃ a : Nat, x - 3 = a := ⟨_, rfl⟩
      obtain ⟨b, hb⟩ : ∃ b : Nat, min (x + 3) s.size = b := ⟨_, rfl⟩
      have hmx : max ((x : Int) - 3) 0 = (a : Int) := by omega
      have hmn : min ((x : Int) + 3) (s.size : Int) = (b : Int) := by omega
      have hab : a ≤ b := by omega
      have hbs : b ≤ s.size := by omega
      have hax : a ≤ x := by omega
      have hloc : bdZ (s.extract a b) ((x : Int) - (a : Int)) = bdZ s x := by
        have := bd_local s x hx
        rw [ha, hb] at this
        rw [show (x : Int) - (a : Int) = ((x - a : Nat) : Int) by omega]
        exact this
      have cQ2 : ∀ d os, Calls Tryd.prog 9 #[.string (s.extract a b), .int .i64 ((x : Int) - (a : Int))] (grow (redrawn wr d) os) fun e w'' => e = .returned (.bool (bdZ s x)) ∧ ∃ p : Regrown, w'' = grow (redrawn wr p.d) p.os := fun d os => by
        have h := bound_any (s.extract a b) ((x : Int) - (a : Int)) (by rw [size_extract _ _ _ hbs]; omega) _ (tabs_below hTr (below_regrown wr d os))
        rw [hloc] at h
        exact Calls.regrown_of h
      have HH : Hid (x - 3 = a ∧ min (x + 3) s.size = b ∧ bdZ (s.extract a b) ((x : Int) - (a : Int)) = bdZ s x) := ⟨ha, hb, hloc⟩
      clear ha hb hloc
      have hw3 : IntKind.i64.wrap ((x : Int) + 3) = (x : Int) + 3 := by rw [IntKind.wrap_i64]; omega
      have hwa : IntKind.i64.wrap ((x : Int) - (a : Int)) = (x : Int) - (a : Int) := by rw [IntKind.wrap_i64]; omega
      obtain ⟨q, hq⟩ : ∃ q, bdZ s x = q := ⟨_, rfl⟩
      rw [hq] at cQ cQ2
      have HQ : Hid (bdZ s x = q) := hq
      clear hq
      go_wp2
      refine wp_region_quiet_below (by assumption) (by kernel_rfl) ?_
      repeat (quiet_step (fail))
      quiet_step (exact cQ _ _)
      repeat (quiet_step (fail))
      quiet_step (exact cQ2 _ _)
      repeat (quiet_step (fail))
      refine wpQuiet_nil ?_
      intro _ hw'
      obtain ⟨⟨dq, osq⟩, hw''⟩ := hw'
      subst hw''
      go_wp2
      exact ⟨⟨k + 1, by omega, by go_num, hB.trans ((below_regrown wr dq osq).mono hB.size)⟩, by simp [intOf]; omega⟩
    · go_wp2
      go_ret
      exact ⟨rfl, hB2.trans (hB.mono hB2.size)⟩
theorem walk_of (s : ByteArray) (at_ : Int) (w : World) (hT : Lib.Utf8Tabs 0 1 w) (hlo0 : 0 < w.heap.size) (hlo1 : 1 < w.heap.size) (hs : s.size ≤ 140737488351232) (hb : 0 ≤ at_ ∧ at_ ≤ 65535) :
    Calls Tryd.prog 3 #[.string s, .int .u16 at_] w fun e w' => e = .returned (.bool true) ∧ Below w.heap.size w w' := walk s at_ hs hb.1 hb.2 w hT hlo0 hlo1
end Go.Proofs.YtadgbbnkhjapnabDoor.unitLocal
