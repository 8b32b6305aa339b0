/-
  The walk of the law MetricRanges: for every text and two numbers, of together at most 1048576 letters, it returns true: Range is the document's own. Conditions: the two tables of unicode/utf8 lie as their text lays them.
-/
import Derived.Test.YtdfemihjnempfaaDoorMLaw
namespace Go.Proofs.YtdfemihjnempfaaDoor.metricRanges
open Go.RowKit Bod Wid

set_option maxRecDepth 100000 in
set_option maxHeartbeats 2000000 in
theorem walk (s : ByteArray) (i j : Int) (hs : s.size ≤ 1048576) (hi : -9223372036854775808 ≤ i ∧ i ≤ 9223372036854775807) (hj : -9223372036854775808 ≤ j ∧ j ≤ 9223372036854775807) (w : World) (hT : Lib.Utf8Tabs 1 2 w) (hlo0 : 1 < w.heap.size) (hlo1 : 2 < w.heap.size) :
    Calls Tryd.prog 4 #[.string s, .int .i64 i, .int .i64 j] w fun e w' => e = .returned (.bool true) ∧ Below w.heap.size w w' := by
  have cC := counts_any w hT hlo0 hlo1
  have C1 : Hid (∀ W, Below w.heap.size w W → Calls Tryd.prog 14 #[.string s, .int .i64 i, .int .i64 j] W fun e W' => e = .returned (sv (smr (rangeOf s i j))) ∧ Below w.heap.size w W') := fun W hb =>
    (mrange_any s i j (by omega) hi hj W (tabs_below hT hb) (Nat.lt_of_lt_of_le hlo0 hb.size) (Nat.lt_of_lt_of_le hlo1 hb.size)).mono fun e W' ⟨h1, h2⟩ => ⟨h1, hb.trans (h2.mono hb.size)⟩
  have C2 : Hid (∀ W, Below w.heap.size w W → Calls Tryd.prog 15 #[.string s, .int .i64 i, .int .i64 j] W fun e W' => e = .returned (sv (smr (rangeOf s i j))) ∧ Below w.heap.size w W') := fun W hb =>
    (rrange_any s i j (by omega) W).mono fun e W' ⟨h1, h2⟩ => ⟨h1, hb.trans (h2.mono hb.size)⟩
  have C3 : Hid (∀ W, Below w.heap.size w W → Calls Tryd.prog 14 #[.string s, .int .i64 j, .int .i64 i] W fun e W' => e = .returned (sv (smr (rangeOf s j i))) ∧ Below w.heap.size w W') := fun W hb =>
    (mrange_any s j i (by omega) hj hi W (tabs_below hT hb) (Nat.lt_of_lt_of_le hlo0 hb.size) (Nat.lt_of_lt_of_le hlo1 hb.size)).mono fun e W' ⟨h1, h2⟩ => ⟨h1, hb.trans (h2.mono hb.size)⟩
  have C4 : Hid (∀ W, Below w.heap.size w W → Calls Tryd.prog 15 #[.string s, .int .i64 j, .int .i64 i] W fun e W' => e = .returned (sv (smr (rangeOf s j i))) ∧ Below w.heap.size w W') := fun W hb =>
    (rrange_any s j i (by omega) W).mono fun e W' ⟨h1, h2⟩ => ⟨h1, hb.trans (h2.mono hb.size)⟩
  generalize smr (rangeOf s i j) = m at C1 C2
  generalize smr (rangeOf s j i) = n at C3 C4
  clear hT hlo0 hlo1 hs hi hj
  go_enter Tryd.func4, Tryd.ntmps4
  go_wp2_with (first | (go_at_call 9; refine cC.mono ?_; clear cC; rintro e w1 ⟨rfl, hb1⟩; have HB : Hid (Below w.heap.size w w1) := hb1; clear hb1) | (go_at_call 14; refine (C1.out _ HB.out).mono ?_; clear HB C1; rintro e w2 ⟨rfl, hb2⟩; have HB : Hid (Below w.heap.size w w2) := hb2; clear hb2) | (go_at_call 15; refine (C2.out _ HB.out).mono ?_; clear HB C2; rintro e w3 ⟨rfl, hb2⟩; have HB : Hid (Below w.heap.size w w3) := hb2; clear hb2) | (go_at_call 14; refine (C3.out _ HB.out).mono ?_; clear HB C3; rintro e w4 ⟨rfl, hb2⟩; have HB : Hid (Below w.heap.size w w4) := hb2; clear hb2) | (go_at_call 15; refine (C4.out _ HB.out).mono ?_; clear HB C4; rintro e w5 ⟨rfl, hb2⟩; have HB : Hid (Below w.heap.size w w5) := hb2; clear hb2))
  go_ret
  exact ⟨rfl, HB.out⟩

theorem walk_of {H : Type} (s : ByteArray) (i j : Int) (w : World) (hT : Lib.Utf8Tabs 1 2 w) (hlo0 : 1 < w.heap.size) (hlo1 : 2 < w.heap.size) (_hz : s.size ≤ 140737488351232) (hi : -9223372036854775808 ≤ i ∧ i ≤ 9223372036854775807) (hj : -9223372036854775808 ≤ j ∧ j ≤ 9223372036854775807) (hk : Rows.uptoSmall H ([DataW.lit (.string s.data.toList), DataW.lit (.int .i64 i), DataW.lit (.int .i64 j)] ++ []) = true) :
    Calls Tryd.prog 4 #[.string s, .int .i64 i, .int .i64 j] w fun e w' => e = .returned (.bool true) ∧ Below w.heap.size w w' := by
  have h : Rows.uptoBulkAll ([DataW.lit (H := H) (.string s.data.toList), DataW.lit (H := H) (.int .i64 i), DataW.lit (H := H) (.int .i64 j)] ++ []) ≤ 1048576 := of_decide_eq_true hk
  simp only [List.append_nil, Rows.uptoBulkAll, Rows.uptoBulk] at h
  exact walk s i j (by rw [Lib.size_eq]; omega) hi hj w hT hlo0 hlo1
end Go.Proofs.YtdfemihjnempfaaDoor.metricRanges
