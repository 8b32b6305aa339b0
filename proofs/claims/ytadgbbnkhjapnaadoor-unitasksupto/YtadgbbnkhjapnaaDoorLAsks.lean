/-
  The walk of the law UnitAsks: for every text of at most 1048576 letters and every number it returns true: At, Boundary, Down, Up, Next and Prev answer what the document's list of units says. Conditions: the two tables of unicode/utf8 lie as their text lays them.
-/
import Derived.Test.YtadgbbnkhjapnaaDoorURefA
namespace Go.Proofs.YtadgbbnkhjapnaaDoor.unitAsks
open Go.RowKit Bod

theorem chain {P : Program} {f : FuncId} {a : Array Value} {v : Value} {w W : World} (hB : Below w.heap.size w W) (h : Calls P f a W fun e W' => e = .returned v ∧ Below W.heap.size W W') : Calls P f a W fun e W' => e = .returned v ∧ Below w.heap.size w W' :=
  h.mono fun _ _ ⟨h1, h2⟩ => ⟨h1, hB.trans (h2.mono hB.size)⟩

set_option maxRecDepth 100000 in
set_option maxHeartbeats 2000000 in
theorem asked_any (s : ByteArray) (i : Int) (hs : s.size ≤ 1048576) (hi : i ≤ 9223372036854775807) (w : World) (hT : Lib.Utf8Tabs 0 1 w) :
    Calls Tryd.prog 15 #[.string s, .int .i64 i] w fun e w' => e = .returned (.bool true) ∧ Below w.heap.size w w' := by
  have hs' : s.size ≤ maxLen := by unfold maxLen; omega
  have cA := at_any s i hs' w hT
  have cR : ∀ W : World, Calls Tryd.prog 28 #[.string s, .int .i64 i] W fun e W' => e = .returned (.tuple #[.agg #[.int .i32 (atC s i), .int .i64 (atS s i)], .bool (atB s i)]) ∧ Below W.heap.size W W' := fun W => rat_any s i hs W
  have cB : ∀ W : World, Below w.heap.size w W → Calls Tryd.prog 24 #[.string s, .int .i64 i] W fun e W' => e = .returned (.bool (bdZ s i)) ∧ Below w.heap.size w W' := fun W hb => chain hb (bound_any s i hs' W (tabs_below hT hb))
  have cRB : ∀ W : World, Below w.heap.size w W → Calls Tryd.prog 29 #[.string s, .int .i64 i] W fun e W' => e = .returned (.bool (bdZ s i)) ∧ Below w.heap.size w W' := fun W hb => chain hb (rbound_any s i hs W)
  have cD : ∀ W : World, Below w.heap.size w W → Calls Tryd.prog 30 #[.string s, .int .i64 i] W fun e W' => e = .returned (.int .i64 (downZ s i)) ∧ Below w.heap.size w W' := fun W hb => chain hb (down_any s i hs' W (tabs_below hT hb))
  have cRD : ∀ W : World, Below w.heap.size w W → Calls Tryd.prog 31 #[.string s, .int .i64 i] W fun e W' => e = .returned (.int .i64 (downZ s i)) ∧ Below w.heap.size w W' := fun W hb => chain hb (rdown_any s i hs W)
  have cU : ∀ W : World, Below w.heap.size w W → Calls Tryd.prog 23 #[.string s, .int .i64 i] W fun e W' => e = .returned (.int .i64 (upZ s i)) ∧ Below w.heap.size w W' := fun W hb => chain hb (up_any s i hs' W (tabs_below hT hb))
  have cRU : ∀ W : World, Below w.heap.size w W → Calls Tryd.prog 32 #[.string s, .int .i64 i] W fun e W' => e = .returned (.int .i64 (upZ s i)) ∧ Below w.heap.size w W' := fun W hb => chain hb (rup_any s i hs W)
  have cN : ∀ W : World, Below w.heap.size w W → Calls Tryd.prog 22 #[.string s, .int .i64 i] W fun e W' => e = .returned (.int .i64 (nextZ s i)) ∧ Below w.heap.size w W' := fun W hb => chain hb (next_any s i hs' W (tabs_below hT hb))
  have cRN : ∀ W : World, Below w.heap.size w W → Calls Tryd.prog 33 #[.string s, .int .i64 i] W fun e W' => e = .returned (.int .i64 (nextZ s i)) ∧ Below w.heap.size w W' := fun W hb => chain hb (rnext_any s i hs W)
  have cP : ∀ W : World, Below w.heap.size w W → Calls Tryd.prog 34 #[.string s, .int .i64 i] W fun e W' => e = .returned (.int .i64 (prevZ s i)) ∧ Below w.heap.size w W' := fun W hb => chain hb (prev_any s i hs' W (tabs_below hT hb) hi)
  have cRP : ∀ W : World, Below w.heap.size w W → Calls Tryd.prog 35 #[.string s, .int .i64 i] W fun e W' => e = .returned (.int .i64 (prevZ s i)) ∧ Below w.heap.size w W' := fun W hb => chain hb (rprev_any s i hs W)
  clear hs hs' hi hT
  generalize atC s i = ac at cA cR
  generalize atS s i = az at cA cR
  generalize atB s i = ab at cA cR
  generalize bdZ s i = bd at cB cRB
  generalize downZ s i = dn at cD cRD
  generalize upZ s i = up at cU cRU
  generalize nextZ s i = nx at cN cRN
  generalize prevZ s i = pv at cP cRP
  have HCB : Hid _ := cB
  have HCRB : Hid _ := cRB
  have HCD : Hid _ := cD
  have HCRD : Hid _ := cRD
  have HCU : Hid _ := cU
  have HCRU : Hid _ := cRU
  have HCN : Hid _ := cN
  have HCRN : Hid _ := cRN
  have HCP : Hid _ := cP
  have HCRP : Hid _ := cRP
  have HCR : Hid _ := cR
  clear cB cRB cD cRD cU cRU cN cRN cP cRP cR
  go_enter Tryd.func15, Tryd.ntmps15
  go_wp2_with (first | (go_at_call 27; refine cA.mono ?_; clear cA; rintro e w1 ⟨rfl, hb1⟩; have hB1 : Hid (Below w.heap.size w w1) := hb1; clear hb1) | (go_at_call 28; refine (HCR.out _).mono ?_; clear HCR; rintro e w2 ⟨rfl, hb2⟩; have e0 : w2.cell? ⟨w1.heap.size, 0, none⟩ = some (.int .i32 ac) := (hb2.cell (p := ⟨w1.heap.size, 0, none⟩) (by simp)).trans (by simp); have e1 : w2.cell? ⟨w1.heap.size, 1, none⟩ = some (.int .i64 az) := (hb2.cell (p := ⟨w1.heap.size, 1, none⟩) (by simp)).trans (by simp); have hz : w1.heap.size < w2.heap.size := (by have := hb2.size; simp at this; omega); have hB2 : Hid (Below w.heap.size w w2) := (hB1.out.alloc hB1.out.size _).trans (hb2.mono (by have := hB1.out.size; simp; omega)); clear hb2) | (go_at_call 24; refine (HCB.out _ (hB2.out.alloc hB2.out.size _)).mono ?_; clear hB2 hB1; rintro e w3 ⟨rfl, hb3⟩; have HB : Hid (Below w.heap.size w w3) := hb3; clear hb3) | (go_at_call 29; refine (HCRB.out _ HB.out).mono ?_; clear HB; rintro e w3 ⟨rfl, hb3⟩; have HB : Hid (Below w.heap.size w w3) := hb3; clear hb3) | (go_at_call 30; refine (HCD.out _ HB.out).mono ?_; clear HB; rintro e w3 ⟨rfl, hb3⟩; have HB : Hid (Below w.heap.size w w3) := hb3; clear hb3) | (go_at_call 31; refine (HCRD.out _ HB.out).mono ?_; clear HB; rintro e w3 ⟨rfl, hb3⟩; have HB : Hid (Below w.heap.size w w3) := hb3; clear hb3) | (go_at_call 23; refine (HCU.out _ HB.out).mono ?_; clear HB; rintro e w3 ⟨rfl, hb3⟩; have HB : Hid (Below w.heap.size w w3) := hb3; clear hb3) | (go_at_call 32; refine (HCRU.out _ HB.out).mono ?_; clear HB; rintro e w3 ⟨rfl, hb3⟩; have HB : Hid (Below w.heap.size w w3) := hb3; clear hb3) | (go_at_call 22; refine (HCN.out _ HB.out).mono ?_; clear HB; rintro e w3 ⟨rfl, hb3⟩; have HB : Hid (Below w.heap.size w w3) := hb3; clear hb3) | (go_at_call 33; refine (HCRN.out _ HB.out).mono ?_; clear HB; rintro e w3 ⟨rfl, hb3⟩; have HB : Hid (Below w.heap.size w w3) := hb3; clear hb3) | (go_at_call 34; refine (HCP.out _ HB.out).mono ?_; clear HB; rintro e w3 ⟨rfl, hb3⟩; have HB : Hid (Below w.heap.size w w3) := hb3; clear hb3) | (go_at_call 35; refine (HCRP.out _ HB.out).mono ?_; clear HB; rintro e w3 ⟨rfl, hb3⟩; have HB : Hid (Below w.heap.size w w3) := hb3; clear hb3))
  go_ret
  exact ⟨rfl, HB.out⟩

set_option maxRecDepth 100000 in
set_option maxHeartbeats 2000000 in
theorem walk (s : ByteArray) (i : Int) (hs : s.size ≤ 1048576) (hi : i ≤ 9223372036854775807) (w : World) (hT : Lib.Utf8Tabs 0 1 w) (hlo0 : 0 < w.heap.size) (hlo1 : 1 < w.heap.size) :
    Calls Tryd.prog 4 #[.string s, .int .i64 i] w fun e w' => e = .returned (.bool true) ∧ Below w.heap.size w w' := by
  have cC := cuts_any w hT hlo0 hlo1
  have CA : Hid (∀ (W : World) (k : Int), k ≤ 9223372036854775807 → Below w.heap.size w W → Calls Tryd.prog 15 #[.string s, .int .i64 k] W fun e W' => e = .returned (.bool true) ∧ Below w.heap.size w W') := fun W k hk hb => chain hb (asked_any s k hs hk W (tabs_below hT hb))
  clear hT hlo0 hlo1
  go_enter Tryd.func4, Tryd.ntmps4
  go_wp2_with (first | (go_at_call 9; refine cC.mono ?_; clear cC; rintro e w1 ⟨rfl, hb1⟩; have HB : Hid (Below w.heap.size w w1) := hb1; clear hb1) | (go_at_call 15; refine (CA.out _ _ (by omega) HB.out).mono ?_; clear HB; rintro e w1 ⟨rfl, hb1⟩; have HB : Hid (Below w.heap.size w w1) := hb1; clear hb1))
  go_loopw [5] (fun t wr => ∃ k : Int, t = .int .i64 k ∧ -1 ≤ k ∧ k ≤ 101 ∧ Below w.heap.size w wr) (fun t _ => (101 - intOf t).toNat)
  case atStart => exact ⟨_, rfl, by omega, by omega, HB.out⟩
  case round =>
    obtain ⟨k, rfl, hk1, hk2, hb⟩ := hrel
    have HB2 : Hid (Below w.heap.size w wr) := hb
    clear hb HB
    by_cases g1 : k ≤ 100
    · by_cases g2 : k ≤ (s.size : Int) + 1
      · have hmin : k ≤ min ((s.size : Int) + 1) 100 := by omega
        go_wp2_with (go_at_call 15; refine (CA.out _ _ (by omega) HB2.out).mono ?_; clear HB2; rintro e w1 ⟨rfl, hb1⟩; have HB2 : Hid (Below w.heap.size w w1) := hb1; clear hb1)
        exact ⟨⟨k + 1, by go_num, by omega, by omega, HB2.out⟩, by simp [intOf]; omega⟩
      · have hmin : ¬ (k ≤ min ((s.size : Int) + 1) 100) := by omega
        go_wp2
        go_ret
        exact ⟨rfl, HB2.out⟩
    · have hmin : ¬ (k ≤ min ((s.size : Int) + 1) 100) := by omega
      go_wp2
      go_ret
      exact ⟨rfl, HB2.out⟩

theorem walk_of {H : Type} (s : ByteArray) (i : Int) (w : World) (hT : Lib.Utf8Tabs 0 1 w) (hlo0 : 0 < w.heap.size) (hlo1 : 1 < w.heap.size) (_hs : s.size ≤ 140737488351232) (hi : -9223372036854775808 ≤ i ∧ i ≤ 9223372036854775807) (hk : Rows.uptoSmall H ([DataW.lit (.string s.data.toList), DataW.lit (.int .i64 i)] ++ []) = true) :
    Calls Tryd.prog 4 #[.string s, .int .i64 i] w fun e w' => e = .returned (.bool true) ∧ Below w.heap.size w w' := by
  have h : Rows.uptoBulkAll ([DataW.lit (H := H) (.string s.data.toList), DataW.lit (.int .i64 i)] ++ []) ≤ 1048576 := of_decide_eq_true hk
  simp only [List.append_nil, Rows.uptoBulkAll, Rows.uptoBulk] at h
  exact walk s i (by rw [Lib.size_eq]; omega) hi.2 w hT hlo0 hlo1
end Go.Proofs.YtadgbbnkhjapnaaDoor.unitAsks
