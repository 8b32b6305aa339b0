/-
  The walk of the law WordCases: for every list of texts it returns true: Upper, Lower and Capital answer as the document's own copies say. Conditions: the texts are so short that their lists can be made; the two tables of unicode/utf8 lie as their text lays them.
-/
import Derived.Test.YtoijjkbnmicadaaDoorWRefH
import Derived.Test.YtoijjkbnmicadaaDoorUTexts
namespace Go.Proofs.YtoijjkbnmicadaaDoor.wordCases
open Go.RowKit Go.Sort Bod Wid

set_option maxRecDepth 100000 in
set_option maxHeartbeats 4000000 in
theorem walk (a0 : Option Addr) (len cap : Nat) (ss : List ByteArray) (w : World) (hS : Texts w a0 len ss) (hlen : len ≤ 1048576) (hsz : ∀ s ∈ ss, s.size ≤ 1048576) (hT : Lib.Utf8Tabs 1 2 w) (hlo0 : 1 < w.heap.size) (hlo1 : 2 < w.heap.size) :
    Calls Tryd.prog 6 #[.slice a0 len cap] w fun e w' => e = .returned (.bool true) ∧ Below w.heap.size w w' := by
  have cA := awake_any w hT hlo0 hlo1
  have TT : Hid (∀ W, Below w.heap.size w W → Lib.Utf8Tabs 1 2 W ∧ 1 < W.heap.size ∧ 2 < W.heap.size) := fun W hb => ⟨tabs_below hT hb, Nat.lt_of_lt_of_le hlo0 hb.size, Nat.lt_of_lt_of_le hlo1 hb.size⟩
  have HS : Hid (Texts w a0 len ss) := hS
  have HZ : Hid (∀ s ∈ ss, s.size ≤ 1048576) := hsz
  clear hS hsz hT hlo0 hlo1
  go_enter Tryd.func6, Tryd.ntmps6
  go_wp2_with (go_at_call 9; refine cA.mono ?_; clear cA; rintro e w0 ⟨rfl, hb0⟩)
  go_loopw [3] (fun t wr => ∃ k : Nat, t = .int .i64 k ∧ k ≤ len ∧ Below w.heap.size w wr) (fun t _ => len - (intOf t).toNat)
  case atStart => exact ⟨0, rfl, Nat.zero_le _, hb0⟩
  case round =>
    obtain ⟨k, rfl, hk, hB⟩ := hrel
    clear hb0
    by_cases hlt : k < len
    · obtain ⟨hS1, hS2⟩ := HS.out
      obtain ⟨b, o, rfl, hbl, hcs⟩ := hS2 (by omega)
      obtain ⟨s, hs⟩ : ∃ s, ss.getD k ByteArray.empty = s := ⟨_, rfl⟩
      have hsm : s ∈ ss := by
        rw [← hs, List.getD, List.getElem?_eq_getElem (show k < ss.length by omega)]
        exact List.getElem_mem _
      have hsz := HZ.out s hsm
      have hcell : wr.cell? ⟨b, o + k, none⟩ = some (.string s) := by rw [← hs]; exact (hB.cell (p := ⟨b, o + k, none⟩) hbl).trans (hcs k hlt)
      have hmx : s.size ≤ maxLen := by unfold maxLen; omega
      have C1 : Hid (∀ W, Below w.heap.size w W → Calls Tryd.prog 23 #[.string s] W fun e w' => e = .returned (.string (fm (fun _ => upc) s)) ∧ Below w.heap.size w w') := fun W hW => by
        obtain ⟨t1, t2, t3⟩ := TT.out W hW
        exact (upper_any s hmx (by omega) W t1 t2 t3).mono fun e w' ⟨h1, h2⟩ => ⟨h1, hW.trans (h2.mono hW.size)⟩
      have C2 : Hid (∀ W, Below w.heap.size w W → Calls Tryd.prog 24 #[.string s] W fun e w' => e = .returned (.string (fm (fun _ => upc) s)) ∧ Below w.heap.size w w') := fun W hW => (rupper_any s (by omega) W).mono fun e w' ⟨h1, h2⟩ => ⟨h1, hW.trans (h2.mono hW.size)⟩
      have C3 : Hid (∀ W, Below w.heap.size w W → Calls Tryd.prog 25 #[.string s] W fun e w' => e = .returned (.string (fm (fun _ => lowc) s)) ∧ Below w.heap.size w w') := fun W hW => by
        obtain ⟨t1, t2, t3⟩ := TT.out W hW
        exact (lower_any s hmx (by omega) W t1 t2 t3).mono fun e w' ⟨h1, h2⟩ => ⟨h1, hW.trans (h2.mono hW.size)⟩
      have C4 : Hid (∀ W, Below w.heap.size w W → Calls Tryd.prog 26 #[.string s] W fun e w' => e = .returned (.string (fm (fun _ => lowc) s)) ∧ Below w.heap.size w w') := fun W hW => (rlower_any s (by omega) W).mono fun e w' ⟨h1, h2⟩ => ⟨h1, hW.trans (h2.mono hW.size)⟩
      have C5 : Hid (∀ W, Below w.heap.size w W → Calls Tryd.prog 27 #[.string s] W fun e w' => e = .returned (.string (fm (capG (words s)) s)) ∧ Below w.heap.size w w') := fun W hW => by
        obtain ⟨t1, t2, t3⟩ := TT.out W hW
        exact (capital_any s hmx (by omega) W t1 t2 t3).mono fun e w' ⟨h1, h2⟩ => ⟨h1, hW.trans (h2.mono hW.size)⟩
      have C6 : Hid (∀ W, Below w.heap.size w W → Calls Tryd.prog 28 #[.string s] W fun e w' => e = .returned (.string (fm (capG (words s)) s)) ∧ Below w.heap.size w w') := fun W hW => (rcapital_any s (by omega) W).mono fun e w' ⟨h1, h2⟩ => ⟨h1, hW.trans (h2.mono hW.size)⟩
      generalize fm (fun _ => upc) s = z1 at C1 C2
      generalize fm (fun _ => lowc) s = z2 at C3 C4
      generalize fm (capG (words s)) s = z3 at C5 C6
      clear hs hsm hcs hS1 hS2 hmx
      go_wp2_with (first | (go_at_call 23; refine (C1.out _ hB).mono ?_; clear C1; rintro e w1 ⟨rfl, hb1⟩) | (go_at_call 24; refine (C2.out _ hb1).mono ?_; clear C2; rintro e w2 ⟨rfl, hb2⟩) | (go_at_call 25; refine (C3.out _ hb2).mono ?_; clear C3; rintro e w3 ⟨rfl, hb3⟩) | (go_at_call 26; refine (C4.out _ hb3).mono ?_; clear C4; rintro e w4 ⟨rfl, hb4⟩) | (go_at_call 27; refine (C5.out _ hb4).mono ?_; clear C5; rintro e w5 ⟨rfl, hb5⟩) | (go_at_call 28; refine (C6.out _ hb5).mono ?_; clear C6; rintro e w6 ⟨rfl, hb6⟩))
      exact ⟨⟨k + 1, by first | rfl | simp, by omega, hb6⟩, by simp [intOf]; omega⟩
    · go_wp2
      go_ret
      exact ⟨rfl, hB⟩
theorem walk_of {H : Type} {d : DataW H} (a0 : Option Addr) (len cap : Nat) (w : World) (hT : Lib.Utf8Tabs 1 2 w) (hlo0 : 1 < w.heap.size) (hlo1 : 2 < w.heap.size) (ss : List ByteArray) (hS : Texts w a0 len ss) (hu : len ≤ Rows.uptoBulk d ∧ ∀ s ∈ ss, s.size ≤ Rows.uptoBulk d) (hk : Rows.uptoSmall H ([d] ++ []) = true) :
    Calls Tryd.prog 6 #[.slice a0 len cap] w fun e w' => e = .returned (.bool true) ∧ Below w.heap.size w w' := by
  have h : Rows.uptoBulkAll ([d] ++ []) ≤ 1048576 := of_decide_eq_true hk
  simp only [List.append_nil, Rows.uptoBulkAll] at h
  exact walk a0 len cap ss w hS (by omega) (fun s hs => by have := hu.2 s hs; omega) hT hlo0 hlo1
end Go.Proofs.YtoijjkbnmicadaaDoor.wordCases
