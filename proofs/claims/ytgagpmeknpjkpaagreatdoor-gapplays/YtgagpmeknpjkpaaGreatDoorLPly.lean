/-
  The law GapPlays returns true: every call on a buffer of any text and limit, in every order, as the document says, and the capacity keeps its law. Conditions: the two tables of unicode/utf8 lie as their text lays them; the variable that strings.Index asks holds a number.
-/
import Derived.Test.YtgagpmeknpjkpaaGreatDoorPkT
namespace Go.Proofs.YtgagpmeknpjkpaaGreatDoor.gapPlays
open Go.RowKit Bod

set_option maxRecDepth 100000 in
set_option maxHeartbeats 4000000 in
theorem walk (s : ByteArray) (m : Int) (l : List Opr) (N : Nat) (a1 : Option Addr) (c1 : Nat) (hN : l.length = N) (hNb : N ≤ 140737488351232) (hl : ∀ x ∈ l, x.fit) (w : World) (hr : l ≠ [] → ∃ g o, a1 = some ⟨g, o, none⟩ ∧ g < w.heap.size ∧ ∀ k x, l[k]? = some x → w.cell? ⟨g, o + k * 4, none⟩ = some (.int .i64 x.k) ∧ w.cell? ⟨g, o + k * 4 + 1, none⟩ = some (.int .i64 x.a) ∧ w.cell? ⟨g, o + k * 4 + 2, none⟩ = some (.int .i64 x.b) ∧ w.cell? ⟨g, o + k * 4 + 3, none⟩ = some (.string x.s)) (hE : Env w) :
    Calls Tryz.prog 3 #[.agg #[.string s, .int .i64 m], .slice a1 N c1] w fun e w' => e = .returned (.bool true) ∧ Below w.heap.size w w' := by
  obtain ⟨W0, hW0⟩ : ∃ W0, w.alloc (.cells #[.string s, .int .i64 m] 23) = W0 := ⟨_, rfl⟩
  obtain ⟨n1, hn1'⟩ : ∃ n1, W0.heap.size = n1 := ⟨_, rfl⟩
  have hn1 : n1 ≤ W0.heap.size := by omega
  have hB0 : Below w.heap.size w W0 := by rw [← hW0]; exact (Below.refl _ w).alloc (Nat.le_refl _) _
  have hx0 : W0.heap[w.heap.size]? = some (.cells #[.string s, .int .i64 m] 23 (0, 0)) := by rw [← hW0]; exact World.alloc_heap_new w _
  have hS0 : w.heap.size < n1 := by rw [← hn1']; exact (Array.getElem?_eq_some_iff.1 hx0).1
  have HX : Hid (∀ W, Below n1 W0 W → W.cell? ⟨w.heap.size, 0, none⟩ = some (.string s) ∧ W.cell? ⟨w.heap.size, 1, none⟩ = some (.int .i64 m)) := fun W hW => by
    have : W.heap[w.heap.size]? = some (.cells #[.string s, .int .i64 m] 23 (0, 0)) := (hW.block _ hS0).trans hx0
    simp [World.cell?, this]
  have CF : Hid (Calls Tryz.prog 6 #[] W0 fun e w' => e = .returned (.bool true) ∧ Below n1 W0 w') := by
    have := fixed_any W0 (tabs_below hE.tab hB0)
    rw [hn1'] at this
    exact this
  have HEnd : Hid (∀ W, Below n1 W0 W → Below w.heap.size w W) := fun W hW => hB0.trans (hW.mono (by omega))
  have HEv : Hid (∀ W, Below n1 W0 W → Env W) := fun W hW => hE.low (HEnd.out W hW)
  have HSc := scr_of hB0 (show w.heap.size ≤ n1 by omega) hr
  have CN : Hid (∀ W, Calls Tryz.prog 7 #[.string s, .int .i64 m] W fun e w' => match gNew s m with
      | none => e = .returned (.tuple #[.pointer none, .int .i64 2]) ∧ Below W.heap.size W w'
      | some g => e = .returned (.tuple #[.pointer (some ⟨W.heap.size, 0, none⟩), .int .i64 0]) ∧ Nb W g w') := fun W => new_any s m W
  have CR : Hid (∀ W, Calls Tryz.prog 8 #[.string s, .int .i64 m] W fun e w' => match gNew s m with
      | none => e = .returned (.tuple #[.pointer none, .int .i64 2]) ∧ Below W.heap.size W w'
      | some g => e = .returned (.tuple #[.pointer (some ⟨W.heap.size, 0, none⟩), .int .i64 0]) ∧ RB w' W.heap.size g ∧ Below W.heap.size W w') := fun W => rnew_any s m W
  have HD : Hid (∀ W W', Below n1 W0 W → Below W.heap.size W W' → Below n1 W0 W') := fun W W' h1 h2 => h1.trans (h2.mono (Nat.le_trans hn1 h1.size))
  have HPl : Hid (∀ W3 ba d r g n W, PX W3 (some (ba, r)) (.pointer (some ⟨ba, 0, none⟩)) d g g n W → Below n1 W0 W3 → (n1 ≤ ba ∧ n1 ≤ d ∧ ∀ k, r = some k → n1 ≤ k) → Calls Tryz.prog 10 #[.pointer (some ⟨ba, 0, none⟩), .pointer (some ⟨d, 0, none⟩), .slice a1 N c1] W fun e W' => e = .returned (.bool true) ∧ Below n1 W0 W') := fun W3 ba d r g n W hP hb ⟨k1, k2, k3⟩ => by
    have lo : ∀ W1, PCh (some (ba, r)) d W3 W1 → Below n1 W0 W1 := fun W1 h1 => pch_below hb hn1 k1 k2 k3 h1
    refine (play_px hP (fun W1 h1 => HEv.out _ (lo W1 h1)) a1 c1 l N hN hNb hl (fun k x hk => ?_)).mono fun e W' ⟨q1, g', n', q2⟩ => ⟨q1, lo _ q2.bel⟩
    obtain ⟨gs, os, e, hc⟩ := HSc k x hk
    exact ⟨gs, os, e, fun W1 h1 => hc W1 (lo W1 h1)⟩
  clear hr hB0 hx0 hS0 hN hl hE HSc
  cases hg : gNew s m with
  | none =>
    rw [hg] at CN CR
    go_enter Tryz.func3, Tryz.ntmps3
    go_wp2_with (first
      | (go_at_call 6; refine CF.out.mono ?_; clear CF; rintro e w1 ⟨rfl, hb1⟩; have HB1 : Hid (Below n1 W0 w1) := hb1; obtain ⟨z0, z1⟩ := HX.out _ hb1; clear hb1)
      | (go_at_call 7; refine (CN.out w1).mono ?_; rintro e w2 ⟨rfl, hb2⟩; have HB2 : Hid (Below n1 W0 w2) := HD.out _ _ HB1.out hb2; clear hb2 z0 z1; obtain ⟨z0, z1⟩ := HX.out _ HB2.out)
      | (go_at_call 8; refine (CR.out w2).mono ?_; rintro e w3 ⟨rfl, hb3⟩; have HB3 : Hid (Below n1 W0 w3) := HD.out _ _ HB2.out hb3; clear hb3))
    go_ret
    exact ⟨rfl, HEnd.out _ HB3.out⟩
  | some g =>
    rw [hg] at CN CR
    dsimp only at CN CR
    go_enter Tryz.func3, Tryz.ntmps3
    go_wp2_with (first
      | (go_at_call 6; refine CF.out.mono ?_; clear CF; rintro e w1 ⟨rfl, hb1⟩; have HB1 : Hid (Below n1 W0 w1) := hb1; obtain ⟨z0, z1⟩ := HX.out _ hb1; clear hb1)
      | (go_at_call 7; refine (CN.out w1).mono ?_; rintro e w2 ⟨rfl, hk2⟩; have HK2 : Hid (Nb w1 g w2) := hk2; obtain ⟨z2, z3⟩ := HX.out _ (HD.out _ _ HB1.out (by obtain ⟨_, _, _, q, _⟩ := hk2; exact q)); clear hk2)
      | (go_at_call 8; refine (CR.out w2).mono ?_; rintro e w3 ⟨rfl, hk3, hb3⟩; obtain ⟨r, n, hp, hb, hlo, -⟩ := both_new HB1.out hn1 HK2.out hk3 hb3; have HP3 : Hid (PX w3 (some (w1.heap.size, r)) (.pointer (some ⟨w1.heap.size, 0, none⟩)) w2.heap.size g g n w3) := hp; have HL3 : Hid (Below n1 W0 w3 ∧ n1 ≤ w1.heap.size ∧ n1 ≤ w2.heap.size ∧ ∀ k, r = some k → n1 ≤ k) := ⟨hb, hlo⟩; clear hk3 hb3 hp hb hlo)
      | (go_at_call 9; refine (px_looks HP3.out).mono ?_; rintro e w4 ⟨rfl, hq⟩; have HP4 : Hid (PX w3 (some (w1.heap.size, r)) (.pointer (some ⟨w1.heap.size, 0, none⟩)) w2.heap.size g g n w4) := hq; clear hq)
      | (go_at_call 10; refine (HPl.out _ _ _ _ _ _ _ HP4.out HL3.out.1 HL3.out.2).mono ?_; rintro e w5 ⟨rfl, hb5⟩; have HB5 : Hid (Below n1 W0 w5) := hb5; clear hb5))
    go_ret
    exact ⟨rfl, HEnd.out _ HB5.out⟩

theorem walk_of (s : ByteArray) (m : Int) (a1 : Option Addr) (len1 cap1 : Nat) (w : World) (hT : Lib.Utf8Tabs 1 2 w) (hlo0 : 1 < w.heap.size) (hlo1 : 2 < w.heap.size) (hM : ∃ m, w.cell? ⟨0, 0, none⟩ = some (.int .i64 m)) (_z : -9223372036854775808 ≤ m ∧ m ≤ 9223372036854775807)
    (l : List Opr) (y1 : RdO w (.slice a1 len1 cap1) l) (u1 : l.length ≤ 140737488351232 ∧ ∀ x ∈ l, x.fit) :
    Calls Tryz.prog 3 #[.agg #[.string s, .int .i64 m], .slice a1 len1 cap1] w fun e w' => e = .returned (.bool true) ∧ Below w.heap.size w w' := by
  obtain ⟨a, cap, e, hr⟩ := y1
  cases e
  exact walk s m l l.length a1 cap1 rfl u1.1 u1.2 w hr ⟨hT, hlo0, hlo1, hM⟩
end Go.Proofs.YtgagpmeknpjkpaaGreatDoor.gapPlays
