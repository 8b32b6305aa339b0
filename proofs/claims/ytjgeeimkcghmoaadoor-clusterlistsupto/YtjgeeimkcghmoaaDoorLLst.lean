/-
  The walk of the law ClusterLists: for all texts of together at most 1048576 letters it returns true: List, Count, Cells and Drawn of each text are the document's own. Conditions: the two tables of unicode/utf8 lie as their text lays them.
-/
import Derived.Test.YtjgeeimkcghmoaaDoorYDrawL
import Derived.Test.YtjgeeimkcghmoaaDoorUTexts
namespace Go.Proofs.YtjgeeimkcghmoaaDoor.clusterLists
open Go.RowKit Bod Wid

set_option maxRecDepth 100000 in
set_option maxHeartbeats 2000000 in
theorem walk (a0 : Option Addr) (len cap : Nat) (ss : List ByteArray) (w : World) (hS : Texts w a0 len ss) (hlen : len ≤ 1048576) (hsz : ∀ s ∈ ss, s.size ≤ 1048576) (hT : Lib.Utf8Tabs 0 1 w) (hlo0 : 0 < w.heap.size) (hlo1 : 1 < w.heap.size) :
    Calls Tryd.prog 4 #[.slice a0 len cap] w fun e w' => e = .returned (.bool true) ∧ Below w.heap.size w w' := by
  have cC := fixed_any w hT hlo0 hlo1
  have TT : Hid (∀ W, Below w.heap.size w W → Lib.Utf8Tabs 0 1 W ∧ 0 < W.heap.size ∧ 1 < W.heap.size) := fun W hb => ⟨tabs_below hT hb, Nat.lt_of_lt_of_le hlo0 hb.size, Nat.lt_of_lt_of_le hlo1 hb.size⟩
  have HS : Hid (Texts w a0 len ss) := hS
  have HZ : Hid (∀ s ∈ ss, s.size ≤ 1048576) := hsz
  clear hS hsz hT hlo0 hlo1
  go_enter Tryd.func4, Tryd.ntmps4
  go_wp2_with (go_at_call 9; refine cC.mono ?_; clear cC; rintro e w1 ⟨rfl, hb1⟩; have HB : Hid (Below w.heap.size w w1) := hb1; clear hb1)
  go_loopw [3] (fun t wr => ∃ k : Nat, t = .int .i64 k ∧ k ≤ len ∧ Below w.heap.size w wr) (fun t _ => len - (intOf t).toNat)
  case atStart => exact ⟨0, rfl, by omega, HB.out⟩
  case round =>
    obtain ⟨m, rfl, hk, hb⟩ := hrel
    clear HB
    by_cases hml : m < len
    · obtain ⟨hS1, hS2⟩ := HS.out
      obtain ⟨b, o, rfl, hbl, hcs⟩ := hS2 (by omega)
      have hcell := (hb.cell (p := ⟨b, o + m, none⟩) hbl).trans (hcs m hml)
      obtain ⟨s, hs⟩ : ∃ s, ss.getD m ByteArray.empty = s := ⟨_, rfl⟩
      have hsm : s ∈ ss := by
        rw [← hs, List.getD, List.getElem?_eq_getElem (show m < ss.length by omega)]
        exact List.getElem_mem _
      have hsz := HZ.out s hsm
      rw [hs] at hcell
      have HB : Hid (Below w.heap.size w wr) := hb
      have hs' : s.size ≤ maxLen := by unfold maxLen; omega
      have K : ∀ {f : FuncId} {vs : Array Value} {W : World} {P : Ending → World → Prop}, Below w.heap.size w W → Calls Tryd.prog f vs W (fun e W' => P e W' ∧ Below W.heap.size W W') → Calls Tryd.prog f vs W fun e W' => P e W' ∧ Below w.heap.size w W' := fun hb h => h.mono fun _ _ ⟨h1, h2⟩ => ⟨h1, hb.trans (h2.mono hb.size)⟩
      have C1 : Hid (∀ W, Below w.heap.size w W → Calls Tryd.prog 19 #[.string s] W fun e W' => ∃ v, e = .returned v ∧ Rd4 W' v (cl s) ∧ Below w.heap.size w W') := fun W hb => by
        obtain ⟨t1, t2, t3⟩ := TT.out W hb
        exact (list_any s hs' (by omega) W t1 t2 t3).mono fun e W' ⟨v, h1, h2, h3⟩ => ⟨v, h1, Rd4.of_row h2.1, hb.trans (h3.mono hb.size)⟩
      have C2 : Hid (∀ W v, Below w.heap.size w W → Rd4 W v (cl s) → Calls Tryd.prog 20 #[.string s] W fun e W' => ∃ v2, e = .returned v2 ∧ Rd4 W' v (cl s) ∧ Rd4 W' v2 (cl s) ∧ Below w.heap.size w W') := fun W v hb hv =>
        (rlist_rd s (by omega) W).mono fun e W' ⟨v2, h1, h2, h3⟩ => ⟨v2, h1, hv.below h3, h2, hb.trans (h3.mono hb.size)⟩
      have C3 : Hid (∀ W v v2, Below w.heap.size w W → Rd4 W v (cl s) → Rd4 W v2 (cl s) → Calls Tryd.prog 18 #[v, v2] W fun e W' => e = .returned (.bool true) ∧ Below w.heap.size w W') := fun W v v2 hb h1 h2 =>
        K hb (same_any (by have := cl_len s; omega) h1 h2)
      have C4 : Hid (∀ W, Below w.heap.size w W → Calls Tryd.prog 21 #[.string s] W fun e W' => e = .returned (.int .i64 (cl s).length) ∧ Below w.heap.size w W') := fun W hb => by
        obtain ⟨t1, t2, t3⟩ := TT.out W hb
        exact K hb (count_any s hs' W t1 t2 t3)
      have C5 : Hid (∀ W, Below w.heap.size w W → Calls Tryd.prog 22 #[.string s] W fun e W' => e = .returned (.int .i64 (cl s).length) ∧ Below w.heap.size w W') := fun W hb => K hb (rcount_any s (by omega) W)
      have C6 : Hid (∀ W, Below w.heap.size w W → Calls Tryd.prog 23 #[.string s] W fun e W' => e = .returned (.int .i64 (sumN (cl s))) ∧ Below w.heap.size w W') := fun W hb => by
        obtain ⟨t1, t2, t3⟩ := TT.out W hb
        exact K hb (ccells_any s hs' (by omega) W t1 t2 t3)
      have C7 : Hid (∀ W, Below w.heap.size w W → Calls Tryd.prog 24 #[.string s] W fun e W' => e = .returned (.int .i64 (sumN (cl s))) ∧ Below w.heap.size w W') := fun W hb => K hb (rccells_any s (by omega) W)
      have C8 : Hid (∀ W, Below w.heap.size w W → Calls Tryd.prog 25 #[.string s] W fun e W' => e = .returned (.string ⟨(drawnL s (cl s)).toArray⟩) ∧ Below w.heap.size w W') := fun W hb => by
        obtain ⟨t1, t2, t3⟩ := TT.out W hb
        exact K hb (drawn_any s hs' (by omega) W t1 t2 t3)
      have C9 : Hid (∀ W, Below w.heap.size w W → Calls Tryd.prog 26 #[.string s] W fun e W' => e = .returned (.string ⟨(drawnL s (cl s)).toArray⟩) ∧ Below w.heap.size w W') := fun W hb => K hb (rdrawn_any s (by omega) W)
      clear hb hcs hbl hs hsm hS1 K
      generalize sumN (cl s) = x at C6 C7
      generalize (⟨(drawnL s (cl s)).toArray⟩ : ByteArray) = y at C8 C9
      generalize ((cl s).length : Int) = z at C4 C5
      go_wp2_with (first | (go_at_call 19; refine (C1.out _ HB.out).mono ?_; clear HB; rintro e W2 ⟨v2, rfl, hr2, hb2⟩; have HB : Hid (Below w.heap.size w W2) := hb2; have HL : Hid (Rd4 W2 v2 (cl s)) := hr2; clear hb2 hr2) | (go_at_call 20; refine (C2.out _ _ HB.out HL.out).mono ?_; clear HB HL; rintro e W3 ⟨v3, rfl, hr2, hr3, hb2⟩; have HB : Hid (Below w.heap.size w W3) := hb2; have HL : Hid (Rd4 W3 v2 (cl s)) := hr2; have HR : Hid (Rd4 W3 v3 (cl s)) := hr3; clear hb2 hr2 hr3) | (go_at_call 18; refine (C3.out _ _ _ HB.out HL.out HR.out).mono ?_; clear HB HL HR; rintro e W4 ⟨rfl, hb2⟩; have HB : Hid (Below w.heap.size w W4) := hb2; clear hb2) | (go_at_call 21; refine (C4.out _ HB.out).mono ?_; clear HB C4; rintro e W5 ⟨rfl, hb2⟩; have HB : Hid (Below w.heap.size w W5) := hb2; clear hb2) | (go_at_call 22; refine (C5.out _ HB.out).mono ?_; clear HB C5; rintro e W6 ⟨rfl, hb2⟩; have HB : Hid (Below w.heap.size w W6) := hb2; clear hb2) | (go_at_call 23; refine (C6.out _ HB.out).mono ?_; clear HB C6; rintro e W7 ⟨rfl, hb2⟩; have HB : Hid (Below w.heap.size w W7) := hb2; clear hb2) | (go_at_call 24; refine (C7.out _ HB.out).mono ?_; clear HB C7; rintro e W8 ⟨rfl, hb2⟩; have HB : Hid (Below w.heap.size w W8) := hb2; clear hb2) | (go_at_call 25; refine (C8.out _ HB.out).mono ?_; clear HB C8; rintro e W9 ⟨rfl, hb2⟩; have HB : Hid (Below w.heap.size w W9) := hb2; clear hb2) | (go_at_call 26; refine (C9.out _ HB.out).mono ?_; clear HB C9; rintro e W10 ⟨rfl, hb2⟩; have HB : Hid (Below w.heap.size w W10) := hb2; clear hb2))
      exact ⟨⟨m + 1, by go_num, by omega, HB.out⟩, by simp [intOf]; omega⟩
    · go_wp2
      go_ret
      exact ⟨rfl, hb⟩

theorem walk_of {H : Type} {d : DataW H} (a0 : Option Addr) (len cap : Nat) (w : World) (hT : Lib.Utf8Tabs 0 1 w) (hlo0 : 0 < w.heap.size) (hlo1 : 1 < w.heap.size) (ss : List ByteArray) (hS : Texts w a0 len ss) (hu : len ≤ Rows.uptoBulk d ∧ ∀ s ∈ ss, s.size ≤ Rows.uptoBulk d) (hk : Rows.uptoSmall H ([d] ++ []) = true) :
    Calls Tryd.prog 4 #[.slice a0 len cap] w fun e w' => e = .returned (.bool true) ∧ Below w.heap.size w w' := by
  have h : Rows.uptoBulkAll ([d] ++ []) ≤ 1048576 := of_decide_eq_true hk
  simp only [List.append_nil, Rows.uptoBulkAll] at h
  exact walk a0 len cap ss w hS (by omega) (fun s hs => by have := hu.2 s hs; omega) hT hlo0 hlo1
end Go.Proofs.YtjgeeimkcghmoaaDoor.clusterLists
