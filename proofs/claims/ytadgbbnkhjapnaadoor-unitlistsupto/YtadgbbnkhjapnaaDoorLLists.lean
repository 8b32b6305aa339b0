/-
  The walk of the law UnitLists: for all texts of together at most 1048576 letters and every limit it returns true: Units, Walk and Count of each text, one behind the other and back again, are the document's list of its units. Conditions: the two tables of unicode/utf8 lie as their text lays them.
-/
import Derived.Test.YtadgbbnkhjapnaaDoorURefU
import Derived.Test.YtadgbbnkhjapnaaDoorUWalked
import Derived.Test.YtadgbbnkhjapnaaDoorUTexts
namespace Go.Proofs.YtadgbbnkhjapnaaDoor.unitLists
open Go.RowKit Bod

theorem walked_any {s : ByteArray} (hs : s.size ≤ 1048576) {a0 : Option Addr} {cap N : Nat} (lim : Int) {w : World} (hT : Lib.Utf8Tabs 0 1 w) (hlo0 : 0 < w.heap.size) (hlo1 : 1 < w.heap.size) (hN : (offs s 0).length = N)
    (h : Rd w (.slice a0 N cap) N (chAt s (offs s 0)) (szAt s (offs s 0))) :
    Calls Tryd.prog 14 #[.string s, .slice a0 N cap, .int .i64 lim] w fun e W' => e = .returned (.bool true) ∧ Below w.heap.size w W' := by
  refine callsIn_wide.1 (walked_in 6 (by omega) s hs a0 cap N lim w hT hlo0 hlo1 hN (fun h0 => ?_))
  obtain ⟨a, c, he, g⟩ := h
  cases he
  obtain ⟨b, o, rfl, k⟩ := g h0
  refine ⟨b, o, rfl, ?_, k⟩
  have := (k 0 (by omega)).1
  unfold World.cell? at this
  cases ho : w.heap[b]? with
  | none => simp [ho] at this
  | some o => exact (Array.getElem?_eq_some_iff.1 ho).1

set_option maxRecDepth 100000 in
set_option maxHeartbeats 2000000 in
theorem walk (a0 : Option Addr) (len cap : Nat) (lim : Int) (ss : List ByteArray) (w : World) (hS : Texts w a0 len ss) (hlen : len ≤ 1048576) (hsz : ∀ s ∈ ss, s.size ≤ 1048576) (hT : Lib.Utf8Tabs 0 1 w) (hlo0 : 0 < w.heap.size) (hlo1 : 1 < w.heap.size) :
    Calls Tryd.prog 3 #[.slice a0 len cap, .int .i64 lim] w fun e w' => e = .returned (.bool true) ∧ Below w.heap.size w w' := by
  have cC := cuts_any w hT hlo0 hlo1
  have TT : Hid (∀ W, Below w.heap.size w W → Lib.Utf8Tabs 0 1 W ∧ 0 < W.heap.size ∧ 1 < W.heap.size) := fun W hb => ⟨tabs_below hT hb, Nat.lt_of_lt_of_le hlo0 hb.size, Nat.lt_of_lt_of_le hlo1 hb.size⟩
  have HS : Hid (Texts w a0 len ss) := hS
  have HZ : Hid (∀ s ∈ ss, s.size ≤ 1048576) := hsz
  clear hS hsz hT hlo0 hlo1
  go_enter Tryd.func3, Tryd.ntmps3
  go_wp2_with (go_at_call 9; refine cC.mono ?_; clear cC; rintro e w1 ⟨rfl, hb1⟩; have HB : Hid (Below w.heap.size w w1) := hb1; clear hb1)
  go_loopw [13] (fun t wr => ∃ k : Nat, t = .int .i64 k ∧ k ≤ 2 * len ∧ Below w.heap.size w wr) (fun t _ => 2 * len - (intOf t).toNat)
  case atStart => exact ⟨0, rfl, by omega, HB.out⟩
  case round =>
    obtain ⟨k, rfl, hk, hb⟩ := hrel
    clear HB
    by_cases hlt : k < 2 * len
    · obtain ⟨m, hm⟩ : ∃ m : Nat, min k (2 * len - 1 - k) = m := ⟨_, rfl⟩
      have hmin : min (k : Int) (2 * (len : Int) - 1 - (k : Int)) = (m : Int) := by omega
      have hml : m < len := by omega
      obtain ⟨hS1, hS2⟩ := HS.out
      obtain ⟨b, o, rfl, hbl, hcs⟩ := hS2 (by omega)
      have hcell := (hb.cell (p := ⟨b, o + m, none⟩) hbl).trans (hcs m hml)
      obtain ⟨s, hs⟩ : ∃ s, ss.getD m ByteArray.empty = s := ⟨_, rfl⟩
      have hsm : s ∈ ss := by
        rw [← hs, List.getD, List.getElem?_eq_getElem (show m < ss.length by omega)]
        exact List.getElem_mem _
      have hsz := HZ.out s hsm
      rw [hs] at hcell
      obtain ⟨N, hN⟩ : ∃ N, (offs s 0).length = N := ⟨_, rfl⟩
      have hNs : N ≤ s.size := by rw [← hN]; exact offs_len_le s
      have HB : Hid (Below w.heap.size w wr) := hb
      have hs' : s.size ≤ maxLen := by unfold maxLen; omega
      have hN' : N ≤ maxLen := by omega
      have C1 : Hid (∀ W, Below w.heap.size w W → Calls Tryd.prog 10 #[.string s] W fun e W' => ∃ a c, e = .returned (.slice a N c) ∧ Rd W' (.slice a N c) N (chAt s (offs s 0)) (szAt s (offs s 0)) ∧ Below w.heap.size w W') := fun W hb => by
        refine (runits_any s (by omega) W).mono ?_
        rintro e W' ⟨v, rfl, hrow, hb2⟩
        have hr := Rd.of_own hrow
        rw [hN] at hr
        obtain ⟨a, c, rfl, g⟩ := hr
        exact ⟨a, c, rfl, ⟨a, c, rfl, g⟩, hb.trans (hb2.mono hb.size)⟩
      have C2 : Hid (∀ W, Below w.heap.size w W → Calls Tryd.prog 12 #[.string s] W fun e W' => ∃ g, e = .returned (.slice (some ⟨g, 0, none⟩) N N) ∧ Rd W' (.slice (some ⟨g, 0, none⟩) N N) N (chAt s (offs s 0)) (szAt s (offs s 0)) ∧ Below W.heap.size W W') := fun W hb => by
        obtain ⟨t1, t2, t3⟩ := TT.out W hb
        refine (units_any s hs' (by omega) W t1 t2 t3).mono ?_
        rintro e W' ⟨g, rfl, hrow, hb2⟩
        have hr := Rd.of_row hrow
        rw [hN] at hr
        exact ⟨g, by rw [hN], hr, hb2⟩
      have C3 : Hid (∀ W, Below w.heap.size w W → Calls Tryd.prog 13 #[.string s] W fun e W' => e = .returned (.int .i64 N) ∧ Below W.heap.size W W') := fun W hb => by
        obtain ⟨t1, t2, t3⟩ := TT.out W hb
        have := count_any s hs' W t1 t2 t3
        rw [hN] at this
        exact this
      have C4 : Hid (∀ W a c (lim : Int), Below w.heap.size w W → Rd W (.slice a N c) N (chAt s (offs s 0)) (szAt s (offs s 0)) → Calls Tryd.prog 14 #[.string s, .slice a N c, .int .i64 lim] W fun e W' => e = .returned (.bool true) ∧ Below W.heap.size W W') := fun W a c lim hb hr => by
        obtain ⟨t1, t2, t3⟩ := TT.out W hb
        exact walked_any hsz lim t1 t2 t3 hN hr
      clear hb hcs hbl hs hsm hm hN hS1
      go_wp2_with (first | (go_at_call 10; refine (C1.out _ HB.out).mono ?_; clear HB; rintro e W2 ⟨a2, c2, rfl, hr2, hb2⟩; have HB : Hid (Below w.heap.size w W2) := hb2; have HL : Hid (Rd W2 (.slice a2 N c2) N (chAt s (offs s 0)) (szAt s (offs s 0))) := hr2; clear hb2 hr2) | (go_at_call 12; refine (C2.out _ HB.out).mono ?_; rintro e W3 ⟨g3, rfl, hr3, hb3⟩; have hl := HL.out.below hb3; have hB := HB.out.trans (hb3.mono HB.out.size); clear HB HL hb3; have HB : Hid (Below w.heap.size w W3) := hB; have HL : Hid (Rd W3 (.slice a2 N c2) N (chAt s (offs s 0)) (szAt s (offs s 0))) := hl; have HR : Hid (Rd W3 (.slice (some ⟨g3, 0, none⟩) N N) N (chAt s (offs s 0)) (szAt s (offs s 0))) := hr3; clear hl hB hr3) | (go_at_call 11; refine (alike_any hN' HR.out HL.out).mono ?_; rintro e W4 ⟨rfl, hb3⟩; have hl := HL.out.below hb3; have hB := HB.out.trans (hb3.mono HB.out.size); clear HB HL HR hb3; have HB : Hid (Below w.heap.size w W4) := hB; have HL : Hid (Rd W4 (.slice a2 N c2) N (chAt s (offs s 0)) (szAt s (offs s 0))) := hl; clear hl hB) | (go_at_call 13; refine (C3.out _ HB.out).mono ?_; rintro e W4 ⟨rfl, hb3⟩; have hl := HL.out.below hb3; have hB := HB.out.trans (hb3.mono HB.out.size); clear HB HL hb3; have HB : Hid (Below w.heap.size w W4) := hB; have HL : Hid (Rd W4 (.slice a2 N c2) N (chAt s (offs s 0)) (szAt s (offs s 0))) := hl; clear hl hB) | (go_at_call 14; refine (C4.out _ _ _ _ HB.out HL.out).mono ?_; rintro e W4 ⟨rfl, hb3⟩; have hl := HL.out.below hb3; have hB := HB.out.trans (hb3.mono HB.out.size); clear HB HL hb3; have HB : Hid (Below w.heap.size w W4) := hB; have HL : Hid (Rd W4 (.slice a2 N c2) N (chAt s (offs s 0)) (szAt s (offs s 0))) := hl; clear hl hB))
      exact ⟨⟨k + 1, by go_num, by omega, HB.out⟩, by simp [intOf]; omega⟩
    · go_wp2
      go_ret
      exact ⟨rfl, hb⟩

theorem walk_of {H : Type} {d : DataW H} (a0 : Option Addr) (len cap : Nat) (lim : Int) (w : World) (hT : Lib.Utf8Tabs 0 1 w) (hlo0 : 0 < w.heap.size) (hlo1 : 1 < w.heap.size) (ss : List ByteArray) (hS : Texts w a0 len ss) (hu : len ≤ Rows.uptoBulk d ∧ ∀ s ∈ ss, s.size ≤ Rows.uptoBulk d) (_hi : -9223372036854775808 ≤ lim ∧ lim ≤ 9223372036854775807) (hk : Rows.uptoSmall H ([d, DataW.lit (.int .i64 lim)] ++ []) = true) :
    Calls Tryd.prog 3 #[.slice a0 len cap, .int .i64 lim] w fun e w' => e = .returned (.bool true) ∧ Below w.heap.size w w' := by
  have h : Rows.uptoBulkAll ([d, DataW.lit (H := H) (.int .i64 lim)] ++ []) ≤ 1048576 := of_decide_eq_true hk
  simp only [List.append_nil, Rows.uptoBulkAll, Rows.uptoBulk] at h
  exact walk a0 len cap lim ss w hS (by omega) (fun s hs => by have := hu.2 s hs; omega) hT hlo0 hlo1
end Go.Proofs.YtadgbbnkhjapnaaDoor.unitLists
