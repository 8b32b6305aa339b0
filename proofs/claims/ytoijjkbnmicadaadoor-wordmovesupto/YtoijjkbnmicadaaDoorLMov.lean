/-
  The walk of the law WordMoves: for every text and every list of numbers it returns true: Ahead and Behind answer as the document's own copies say. Conditions: the text is so short that its lists can be made; the two tables of unicode/utf8 lie as their text lays them.
-/
import Derived.Test.YtoijjkbnmicadaaDoorWRefF
import Derived.Test.YtoijjkbnmicadaaDoorUInts
import Derived.Lib.QuietBelow
import Derived.BigQuiet
namespace Go.Proofs.YtoijjkbnmicadaaDoor.wordMoves
open Go.RowKit Go.Sort Bod Wid

set_option maxRecDepth 100000 in
set_option maxHeartbeats 2000000 in
theorem walk (s : ByteArray) (rs : List Int) (b o n cap : Nat) (hs : s.size ≤ 4398046511000) (hn : n = rs.length) (hm : n ≤ maxLen) (w : World) (h : ∀ j, j < rs.length → w.cell? ⟨b, o + j, none⟩ = some (.int .i64 (rs[j]?.getD 0))) (hb : b < w.heap.size) (hT : Lib.Utf8Tabs 1 2 w) (hlo0 : 1 < w.heap.size) (hlo1 : 2 < w.heap.size) :
    Calls Tryd.prog 5 #[.string s, .slice (some ⟨b, o, none⟩) n cap] w fun e w' => e = .returned (.bool true) ∧ Below w.heap.size w w' := by
  have cA := awake_any w hT hlo0 hlo1
  have hsm : s.size ≤ maxLen := by unfold maxLen; omega
  have HC : Hid _ := h
  have HN : Hid (n = rs.length) := hn
  have HTT : Hid (Lib.Utf8Tabs 1 2 w) := hT
  have hM : Tryd.prog.follows .mixedOrders = true := by kernel_rfl
  have HM : Hid (Tryd.prog.follows .mixedOrders = true) := hM
  clear hM
  have HSZ : Hid (s.size ≤ maxLen ∧ s.size ≤ 4398046511000) := ⟨hsm, hs⟩
  unfold maxLen at hm
  clear h hn hT hlo0 hlo1 hs hsm
  go_enter Tryd.func5, Tryd.ntmps5
  go_wp2_with (go_at_call 9; refine cA.mono ?_; clear cA; rintro e w0 ⟨rfl, hb0⟩)
  go_loopw [5] (fun t wr => ∃ k : Nat, k ≤ n ∧ t = .int .i64 k ∧ Below w.heap.size w wr) (fun t _ => n - (intOf t).toNat)
  case atStart => exact ⟨0, Nat.zero_le _, rfl, hb0⟩
  case round =>
    obtain ⟨k, hk, rfl, hB⟩ := hrel
    clear hb0
    by_cases hlt : k < n
    · have hc : wr.cell? ⟨b, o + k, none⟩ = some (.int .i64 (rs[k]?.getD 0)) := (hB.cell (p := ⟨b, o + k, none⟩) hb).trans (HC.out k (by rw [← HN.out]; exact hlt))
      generalize rs[k]?.getD 0 = c at hc
      have cQ1 := regrown (W := wr) (f := 19) (args := #[.string s, .int .i64 c]) (v := .int .i64 (aheadW (words s) s.size (heldN s c))) (fun W hW => ahead_any s c HSZ.out.1 W (tabs_below HTT.out (hB.trans (hW.mono hB.size))))
      have cQ2 := regrown (W := wr) (f := 20) (args := #[.string s, .int .i64 c]) (v := .int .i64 (aheadW (words s) s.size (heldN s c))) (fun W hW => rahead_any s c HSZ.out.2 W)
      have cQ3 := regrown (W := wr) (f := 21) (args := #[.string s, .int .i64 c]) (v := .int .i64 (behindW (words s) (heldN s c))) (fun W hW => behind_any s c HSZ.out.1 W (tabs_below HTT.out (hB.trans (hW.mono hB.size))))
      have cQ4 := regrown (W := wr) (f := 22) (args := #[.string s, .int .i64 c]) (v := .int .i64 (behindW (words s) (heldN s c))) (fun W hW => rbehind_any s c HSZ.out.2 W)
      generalize ((aheadW (words s) s.size (heldN s c) : Nat) : Int) = z1 at cQ1 cQ2
      generalize ((behindW (words s) (heldN s c) : Nat) : Int) = z2 at cQ3 cQ4
      have q0 := cell_regrown hc
      clear hc
      go_wp2
      refine wp_region_quiet_below HM.out (by kernel_rfl) ?_
      repeat (go_big_quiet_step (first | exact cQ1 _ _ | exact cQ2 _ _ | exact cQ3 _ _ | exact cQ4 _ _))
      refine wpQuiet_nil ?_
      intro _ hw'
      obtain ⟨⟨dq, osq⟩, hw''⟩ := hw'
      subst hw''
      clear cQ1 cQ2 cQ3 cQ4 q0
      go_wp2
      exact ⟨⟨k + 1, by omega, by go_num, hB.trans ((below_regrown wr dq osq).mono hB.size)⟩, by simp [intOf]; omega⟩
    · go_wp2
      go_ret
      exact ⟨rfl, hB⟩
set_option maxRecDepth 100000 in
set_option maxHeartbeats 1000000 in
theorem walk_none (s : ByteArray) (a : Option Addr) (cap : Nat) (w : World) (hT : Lib.Utf8Tabs 1 2 w) (hlo0 : 1 < w.heap.size) (hlo1 : 2 < w.heap.size) : Calls Tryd.prog 5 #[.string s, .slice a 0 cap] w fun e w' => e = .returned (.bool true) ∧ Below w.heap.size w w' := by
  have cA := awake_any w hT hlo0 hlo1
  go_enter Tryd.func5, Tryd.ntmps5
  go_wp2_with (go_at_call 9; refine cA.mono ?_; clear cA; rintro e w0 ⟨rfl, hb0⟩)
  go_loopw [5] (fun t wr => t = .int .i64 0 ∧ w0 = wr) (fun _ _ => 0)
  case atStart => exact ⟨rfl, rfl⟩
  case round =>
    obtain ⟨rfl, rfl⟩ := hrel
    go_wp2
    go_ret
    exact ⟨rfl, hb0⟩
theorem walk_of {H : Type} {d : DataW H} (s : ByteArray) (a : Option Addr) (len cap : Nat) (w : World) (hT : Lib.Utf8Tabs 1 2 w) (hlo0 : 1 < w.heap.size) (hlo1 : 2 < w.heap.size) (_hs : s.size ≤ 140737488351232) (rs : List Int) (y : Wholes w a len rs) (u : len ≤ Rows.uptoBulk d) (hk : Rows.uptoSmall H ([DataW.lit (.string s.data.toList), d] ++ []) = true) :
    Calls Tryd.prog 5 #[.string s, .slice a len cap] w fun e w' => e = .returned (.bool true) ∧ Below w.heap.size w w' := by
  have h : Rows.uptoBulkAll ([DataW.lit (H := H) (.string s.data.toList), d] ++ []) ≤ 1048576 := of_decide_eq_true hk
  simp only [List.append_nil, Rows.uptoBulkAll, Rows.uptoBulk] at h
  have hz : s.size ≤ 1048576 := by rw [Lib.size_eq]; omega
  obtain ⟨h1, _, h2⟩ := y
  by_cases h0 : len = 0
  · subst h0; exact walk_none s a cap w hT hlo0 hlo1
  · obtain ⟨b, o, rfl, hb, hc⟩ := h2 h0
    exact walk s rs b o len cap (by omega) h1.symm (by unfold maxLen; omega) w hc hb hT hlo0 hlo1
end Go.Proofs.YtoijjkbnmicadaaDoor.wordMoves
