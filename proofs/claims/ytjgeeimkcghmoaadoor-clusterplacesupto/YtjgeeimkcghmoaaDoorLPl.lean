/-
  The walk of the law ClusterPlaces: for all pairs of a text and a number, of together at most 1048576 letters, it returns true: Boundary, Next, Prev and Snap are the document's own. Conditions: the two tables of unicode/utf8 lie as their text lays them.
-/
import Derived.Test.YtjgeeimkcghmoaaDoorYBnd
import Derived.Test.YtjgeeimkcghmoaaDoorUAsks
namespace Go.Proofs.YtjgeeimkcghmoaaDoor.clusterPlaces
open Go.RowKit Bod Wid

set_option maxRecDepth 100000 in
set_option maxHeartbeats 2000000 in
theorem walk (a0 : Option Addr) (len cap : Nat) (l : List (ByteArray × Int)) (w : World) (hS : Asks w a0 len l) (hlen : len ≤ 1048576) (hsz : ∀ x ∈ l, x.1.size ≤ 1048576 ∧ (-9223372036854775808 ≤ x.2 ∧ x.2 ≤ 9223372036854775807)) (hT : Lib.Utf8Tabs 0 1 w) (hlo0 : 0 < w.heap.size) (hlo1 : 1 < w.heap.size) :
    Calls Tryd.prog 3 #[.slice a0 len cap] w fun e w' => e = .returned (.bool true) ∧ Below w.heap.size w w' := by
  have cC := fixed_any w hT hlo0 hlo1
  have TT : Hid (∀ W, Below w.heap.size w W → Lib.Utf8Tabs 0 1 W) := fun W hb => tabs_below hT hb
  have HS : Hid (Asks w a0 len l) := hS
  have HZ : Hid (∀ x ∈ l, x.1.size ≤ 1048576 ∧ (-9223372036854775808 ≤ x.2 ∧ x.2 ≤ 9223372036854775807)) := hsz
  clear hS hsz hT hlo0 hlo1
  go_enter Tryd.func3, Tryd.ntmps3
  go_wp2_with (go_at_call 9; refine cC.mono ?_; clear cC; rintro e w1 ⟨rfl, hb1⟩; have HB : Hid (Below w.heap.size w w1) := hb1; clear hb1)
  go_loopw [3] (fun t wr => ∃ k : Nat, t = .int .i64 k ∧ k ≤ len ∧ Below w.heap.size w wr) (fun t _ => len - (intOf t).toNat)
  case atStart => exact ⟨0, rfl, by omega, HB.out⟩
  case round =>
    obtain ⟨m, rfl, hk, hb⟩ := hrel
    clear HB
    by_cases hml : m < len
    · obtain ⟨hS1, hS2⟩ := HS.out
      obtain ⟨b, o, rfl, hbl, hcs⟩ := hS2 (by omega)
      obtain ⟨⟨s, i⟩, hx⟩ : ∃ x, l[m]? = some x := ⟨l[m]'(by omega), List.getElem?_eq_getElem _⟩
      obtain ⟨d0, d1⟩ := hcs m _ hx
      have hc0 := (hb.cell (p := ⟨b, o + m * 2, none⟩) hbl).trans d0
      have hc1 := (hb.cell (p := ⟨b, o + m * 2 + 1, none⟩) hbl).trans d1
      obtain ⟨hsz, hi0, hi1⟩ := HZ.out _ (List.mem_of_getElem? hx)
      dsimp only at hc0 hc1 hsz hi0 hi1
      have HB : Hid (Below w.heap.size w wr) := hb
      have hs' : s.size ≤ maxLen := by unfold maxLen; omega
      have K : ∀ {f : FuncId} {vs : Array Value} {W : World} {P : Ending → World → Prop}, Below w.heap.size w W → Calls Tryd.prog f vs W (fun e W' => P e W' ∧ Below W.heap.size W W') → Calls Tryd.prog f vs W fun e W' => P e W' ∧ Below w.heap.size w W' := fun hb h => h.mono fun _ _ ⟨h1, h2⟩ => ⟨h1, hb.trans (h2.mono hb.size)⟩
      have C1 : Hid (∀ W, Below w.heap.size w W → Calls Tryd.prog 10 #[.string s, .int .i64 i] W fun e W' => e = .returned (.bool (cbZ s i)) ∧ Below w.heap.size w W') := fun W hb => K hb (cbound_any s i hs' W (TT.out W hb) hi1)
      have C2 : Hid (∀ W, Below w.heap.size w W → Calls Tryd.prog 11 #[.string s, .int .i64 i] W fun e W' => e = .returned (.bool (cbZ s i)) ∧ Below w.heap.size w W') := fun W hb => K hb (rbound_any s i (by omega) W)
      have C3 : Hid (∀ W, Below w.heap.size w W → Calls Tryd.prog 12 #[.string s, .int .i64 i] W fun e W' => ∃ q : Nat, e = .returned (.int .i64 q) ∧ IsNext s i q ∧ Below w.heap.size w W') := fun W hb => (cnext_any s i hs' W (TT.out W hb)).mono fun _ _ ⟨q, h1, h2, h3⟩ => ⟨q, h1, h2, hb.trans (h3.mono hb.size)⟩
      have C4 : Hid (∀ W q, Below w.heap.size w W → IsNext s i q → Calls Tryd.prog 13 #[.string s, .int .i64 i] W fun e W' => e = .returned (.int .i64 q) ∧ Below w.heap.size w W') := fun W q hb hq => (rnext_any s i (by omega) W).mono fun _ _ ⟨q', h1, h2, h3⟩ => ⟨by rw [h1, h2.uniq hq], hb.trans (h3.mono hb.size)⟩
      have C5 : Hid (∀ W, Below w.heap.size w W → Calls Tryd.prog 14 #[.string s, .int .i64 i] W fun e W' => ∃ q : Nat, e = .returned (.int .i64 q) ∧ IsPrev s i q ∧ Below w.heap.size w W') := fun W hb => (cprev_any s i hs' W (TT.out W hb) hi1).mono fun _ _ ⟨q, h1, h2, h3⟩ => ⟨q, h1, h2, hb.trans (h3.mono hb.size)⟩
      have C6 : Hid (∀ W q, Below w.heap.size w W → IsPrev s i q → Calls Tryd.prog 15 #[.string s, .int .i64 i] W fun e W' => e = .returned (.int .i64 q) ∧ Below w.heap.size w W') := fun W q hb hq => (rprev_any s i (by omega) W).mono fun _ _ ⟨q', h1, h2, h3⟩ => ⟨by rw [h1, h2.uniq hq], hb.trans (h3.mono hb.size)⟩
      have C7 : Hid (∀ W, Below w.heap.size w W → Calls Tryd.prog 16 #[.string s, .int .i64 i] W fun e W' => ∃ q : Nat, e = .returned (.int .i64 q) ∧ IsSnap s i q ∧ Below w.heap.size w W') := fun W hb => (csnap_any s i hs' W (TT.out W hb) hi1).mono fun _ _ ⟨q, h1, h2, h3⟩ => ⟨q, h1, h2, hb.trans (h3.mono hb.size)⟩
      have C8 : Hid (∀ W q, Below w.heap.size w W → IsSnap s i q → Calls Tryd.prog 17 #[.string s, .int .i64 i] W fun e W' => e = .returned (.int .i64 q) ∧ Below w.heap.size w W') := fun W q hb hq => (rsnap_any s i (by omega) W).mono fun _ _ ⟨q', h1, h2, h3⟩ => ⟨by rw [h1, h2.uniq hq], hb.trans (h3.mono hb.size)⟩
      clear hb hcs hbl hx hS1 K d0 d1 hi0 hi1
      generalize cbZ s i = z at C1 C2
      go_wp2
      go_quiet (fail)
      have HB0 : Below w.heap.size w wr := HB.out
      clear HB
      have HB : Hid (Below w.heap.size w (wr.drewN nq)) := ⟨HB0.os, HB0.tape, HB0.output, HB0.size, HB0.block⟩
      clear HB0
      obtain ⟨W1, hW1⟩ : ∃ W1, wr.drewN nq = W1 := ⟨_, rfl⟩
      rw [hW1] at HB ⊢
      clear hW1 hc0 hc1
      go_wp2_with (first | (go_at_call 10; refine (C1.out _ HB.out).mono ?_; clear HB C1; rintro e W2 ⟨rfl, hb2⟩; have HB : Hid (Below w.heap.size w W2) := hb2; clear hb2) | (go_at_call 11; refine (C2.out _ HB.out).mono ?_; clear HB C2; rintro e W3 ⟨rfl, hb2⟩; have HB : Hid (Below w.heap.size w W3) := hb2; clear hb2) | (go_at_call 12; refine (C3.out _ HB.out).mono ?_; clear HB C3; rintro e W4 ⟨q4, rfl, hq4, hb2⟩; have HB : Hid (Below w.heap.size w W4) := hb2; have HQ4 : Hid (IsNext s i q4) := hq4; clear hb2 hq4) | (go_at_call 13; refine (C4.out _ _ HB.out HQ4.out).mono ?_; clear HB C4; rintro e W5 ⟨rfl, hb2⟩; have HB : Hid (Below w.heap.size w W5) := hb2; clear hb2) | (go_at_call 14; refine (C5.out _ HB.out).mono ?_; clear HB C5; rintro e W6 ⟨q6, rfl, hq6, hb2⟩; have HB : Hid (Below w.heap.size w W6) := hb2; have HQ6 : Hid (IsPrev s i q6) := hq6; clear hb2 hq6) | (go_at_call 15; refine (C6.out _ _ HB.out HQ6.out).mono ?_; clear HB C6; rintro e W7 ⟨rfl, hb2⟩; have HB : Hid (Below w.heap.size w W7) := hb2; clear hb2) | (go_at_call 16; refine (C7.out _ HB.out).mono ?_; clear HB C7; rintro e W8 ⟨q8, rfl, hq8, hb2⟩; have HB : Hid (Below w.heap.size w W8) := hb2; have HQ8 : Hid (IsSnap s i q8) := hq8; clear hb2 hq8) | (go_at_call 17; refine (C8.out _ _ HB.out HQ8.out).mono ?_; clear HB C8; rintro e W9 ⟨rfl, hb2⟩; have HB : Hid (Below w.heap.size w W9) := hb2; clear hb2))
      exact ⟨⟨m + 1, by go_num, by omega, HB.out⟩, by simp [intOf]; omega⟩
    · go_wp2
      go_ret
      exact ⟨rfl, hb⟩

theorem walk_of {H : Type} {d : DataW H} (a0 : Option Addr) (len cap : Nat) (w : World) (hT : Lib.Utf8Tabs 0 1 w) (hlo0 : 0 < w.heap.size) (hlo1 : 1 < w.heap.size) (l : List (ByteArray × Int)) (hS : Asks w a0 len l) (hu : len ≤ Rows.uptoBulk d ∧ ∀ x ∈ l, x.1.size ≤ Rows.uptoBulk d ∧ (-9223372036854775808 ≤ x.2 ∧ x.2 ≤ 9223372036854775807)) (hk : Rows.uptoSmall H ([d] ++ []) = true) :
    Calls Tryd.prog 3 #[.slice a0 len cap] w fun e w' => e = .returned (.bool true) ∧ Below w.heap.size w w' := by
  have h : Rows.uptoBulkAll ([d] ++ []) ≤ 1048576 := of_decide_eq_true hk
  simp only [List.append_nil, Rows.uptoBulkAll] at h
  exact walk a0 len cap l w hS (by omega) (fun x hx => by have := hu.2 x hx; omega) hT hlo0 hlo1
end Go.Proofs.YtjgeeimkcghmoaaDoor.clusterPlaces
