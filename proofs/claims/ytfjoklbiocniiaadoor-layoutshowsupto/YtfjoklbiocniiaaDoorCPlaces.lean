/-
  The walks of package cluster's Boundary, Next, Prev and Snap (unit.At with them): what CMathD tells. Conditions: the two tables of unicode/utf8 lie as their text lays them; the text can be read.
-/
import Derived.Test.YtfjoklbiocniiaaDoorPkB
import Derived.Test.YtfjoklbiocniiaaDoorUWalk
import Derived.Test.YtfjoklbiocniiaaDoorCWalk
namespace Go.Proofs.YtfjoklbiocniiaaDoor
open Go.RowKit Bod Wid

set_option maxRecDepth 100000 in
set_option maxHeartbeats 1000000 in
theorem at_B (s : ByteArray) (k : Nat) (hs : s.size ≤ maxLen) (hk : k < s.size) (hb : B s k) (w : World) (hT : Lib.Utf8Tabs 0 1 w) :
    Calls Tryd.prog 54 #[.string s, .int .i64 k] w fun e w' => e = .returned (.tuple #[.agg #[.int .i32 (ch s k), .int .i64 (sz s k)], .bool true]) ∧ Below w.heap.size w w' := by
  have hs' := hs
  unfold maxLen at hs
  have hT1 : ∀ o, Lib.Utf8Tabs 0 1 (w.alloc o) := fun o => tabs_below hT ((Below.refl _ w).alloc (Nat.le_refl _) o)
  have fin : ∀ (w' : World) (a b : Value), Below (w.heap.size + 1) (w.alloc (.cells #[.int .i32 0, .int .i64 0] 82)) w' → Below w.heap.size w ((w'.setCell ⟨w.heap.size, 0, none⟩ a).setCell ⟨w.heap.size, 1, none⟩ b) := fun w' a b hb =>
    ((((Below.refl _ w).alloc (Nat.le_refl _) _).trans (hb.mono (by omega))).setCell (Nat.le_refl _) _).setCell (Nat.le_refl _) _
  have cB : ∀ o, Calls Tryd.prog 53 #[.string s, .int .i64 k] (w.alloc o) fun e w' => e = .returned (.bool true) ∧ Below (w.alloc o).heap.size (w.alloc o) w' := fun o => by
    have := bound_any s k hs' (w.alloc o) (hT1 o)
    rwa [bd_B hb] at this
  have hlt : ¬ ((s.size : Int) ≤ k) := by omega
  have cR : ∀ W : World, Below (w.alloc (.cells #[.int .i32 0, .int .i64 0] 82)).heap.size (w.alloc (.cells #[.int .i32 0, .int .i64 0] 82)) W → Calls Tryd.prog 52 #[.string s, .int .i64 k] W fun e w' => e = .returned (.agg #[.int .i32 (ch s k), .int .i64 (sz s k)]) ∧ Below W.heap.size W w' := fun W h => read_any s k hs' (by omega) W (tabs_below (hT1 _) h)
  go_enter Tryd.func54, Tryd.ntmps54
  go_wp2_with (first | (go_at_call 53; refine (cB _).mono ?_; clear cB; rintro e w1 ⟨rfl, hb1⟩; have HB : Hid (Below (w.alloc (.cells #[.int .i32 0, .int .i64 0] 82)).heap.size (w.alloc (.cells #[.int .i32 0, .int .i64 0] 82)) w1) := hb1; clear hb1) | (go_at_call 52; refine (cR _ HB.out).mono ?_; clear cR; rintro e w2 ⟨rfl, hb2⟩; have hb := HB.out.trans (hb2.mono HB.out.size); clear hb2; obtain ⟨hc, hf⟩ := bcell hb; have hz : w.heap.size < w2.heap.size := by have := hb.size; simp at this; omega))
  exact bodyPost_ret (v := .tuple #[.agg #[.int .i32 (ch s k), .int .i64 (sz s k)], .bool true]) (by simp [results, Tryd.results54, go_sem, hc]) rfl ⟨rfl, fin _ _ _ (by simpa using hb)⟩

theorem prev_nat (s : ByteArray) (k : Nat) (h0 : 0 < k) : ∃ p : Nat, prevZ s k = p ∧ p < k ∧ B s p := by
  obtain ⟨m, h1, h2⟩ := pv_start s k
  exact ⟨m, h1, by rcases h2.dn with h | ⟨_, h⟩ <;> omega, h2.b⟩

set_option maxRecDepth 100000 in
set_option maxHeartbeats 1000000 in
theorem cbound_any (s : ByteArray) (i : Int) (hs : s.size ≤ maxLen) (w : World) (hT : Lib.Utf8Tabs 0 1 w) (hi : i ≤ 9223372036854775807) :
    Calls Tryd.prog 33 #[.string s, .int .i64 i] w fun e w' => e = .returned (.bool (cbZ s i)) ∧ Below w.heap.size w w' := by
  have hs' := hs
  unfold maxLen at hs
  by_cases h0 : i = 0
  · subst h0
    rw [cb_zero]
    go_enter Tryd.func33, Tryd.ntmps33
    go_wp2
    go_ret
    exact ⟨rfl, Below.refl _ _⟩
  by_cases h1 : i = s.size
  · subst h1
    rw [cb_end]
    have h0' : ((s.size : Int) == 0) = false := beq_eq_false_iff_ne.2 h0
    clear h0
    go_enter Tryd.func33, Tryd.ntmps33
    go_wp2
    go_ret
    exact ⟨rfl, Below.refl _ _⟩
  have hb0 : (i == 0) = false := beq_eq_false_iff_ne.2 h0
  have hb1 : (i == (s.size : Int)) = false := beq_eq_false_iff_ne.2 h1
  have cB := bound_any s i hs' w hT
  cases hb : bdZ s i with
  | false =>
    rw [cb_off h0 h1 hb]
    rw [hb] at cB
    go_enter Tryd.func33, Tryd.ntmps33
    go_wp2_with (go_at_call 53; refine cB.mono ?_; rintro e w' ⟨rfl, hb⟩)
    go_ret
    exact ⟨rfl, hb⟩
  | true =>
    have hin : 0 ≤ i ∧ i ≤ s.size := by
      by_cases c : i < 0 ∨ (s.size : Int) < i
      · rw [bdZ_out s i c] at hb; cases hb
      · omega
    obtain ⟨k, rfl⟩ := Int.eq_ofNat_of_zero_le hin.1
    have hk : k < s.size := by omega
    have hbk := (bdZ_iff s k).1 hb
    obtain ⟨p, hp, hpk, hpb⟩ := prev_nat s k (by omega)
    have hcb : cbZ s k = !jn (ch s p) (ch s k) := by
      unfold cbZ
      rw [decide_eq_false h0, decide_eq_false h1, hb, hp]
      simp only [Bool.false_or, Bool.true_and, Int.toNat_natCast]
    rw [hcb]
    rw [hb] at cB
    have CP : Hid (∀ W, Below w.heap.size w W → Calls Tryd.prog 55 #[.string s, .int .i64 k] W fun e w' => e = .returned (.int .i64 p) ∧ Below w.heap.size w w') := fun W hW => by
      have := prev_any s k hs' W (tabs_below hT hW) (by omega)
      rw [hp] at this
      exact this.mono fun e w' ⟨h1, h2⟩ => ⟨h1, hW.trans (h2.mono hW.size)⟩
    have CA : Hid (∀ W, Below w.heap.size w W → Calls Tryd.prog 54 #[.string s, .int .i64 p] W fun e w' => e = .returned (.tuple #[.agg #[.int .i32 (ch s p), .int .i64 (sz s p)], .bool true]) ∧ Below w.heap.size w w') := fun W hW =>
      (at_B s p hs' (by omega) hpb W (tabs_below hT hW)).mono fun e w' ⟨h1, h2⟩ => ⟨h1, hW.trans (h2.mono hW.size)⟩
    have CK : Hid (∀ W c0 c1, Below (w.heap.size) w W → Calls Tryd.prog 54 #[.string s, .int .i64 k] (W.alloc (.cells #[c0, c1] 82)) fun e w' => e = .returned (.tuple #[.agg #[.int .i32 (ch s k), .int .i64 (sz s k)], .bool true]) ∧ w'.cell? ⟨W.heap.size, 0, none⟩ = some c0 ∧ W.heap.size < w'.heap.size ∧ Below w.heap.size w w') := fun W c0 c1 hW => by
      have hA : Below w.heap.size w (W.alloc (.cells #[c0, c1] 82)) := hW.alloc hW.size _
      refine (at_B s k hs' hk hbk _ (tabs_below hT hA)).mono fun e w' ⟨h1, h2⟩ => ⟨h1, ?_, by have := h2.size; simp at this; omega, hA.trans (h2.mono (by have := hW.size; simp; omega))⟩
      rw [h2.cell (p := ⟨W.heap.size, 0, none⟩) (by simp)]
      simp
    have CJ : Hid (∀ W o, Below w.heap.size w W → Calls Tryd.prog 46 #[.int .i32 (ch s p), .int .i32 (ch s k)] (W.alloc o) fun e w' => e = .returned (.bool (jn (ch s p) (ch s k))) ∧ Below w.heap.size w w') := fun W o hW => by
      have hA : Below w.heap.size w (W.alloc o) := hW.alloc hW.size _
      exact (joined_any _ _ _).mono fun e w' ⟨h1, h2⟩ => ⟨h1, hA.trans (h2.mono (by have := hW.size; simp; omega))⟩
    generalize jn (ch s p) (ch s k) = jj at CJ
    generalize ch s p = cp at CA CJ
    generalize ch s k = ck at CK CJ
    clear hcb hb hbk hpb hp
    go_enter Tryd.func33, Tryd.ntmps33
    go_wp2_with (first | (go_at_call 53; refine cB.mono ?_; clear cB; rintro e w1 ⟨rfl, hb1⟩; have HB : Hid (Below w.heap.size w w1) := hb1; clear hb1) | (go_at_call 55; refine (CP.out _ HB.out).mono ?_; clear CP HB; rintro e w2 ⟨rfl, hb2⟩; have HB : Hid (Below w.heap.size w w2) := hb2; clear hb2) | (go_at_call 54; refine (CA.out _ HB.out).mono ?_; clear CA HB; rintro e w3 ⟨rfl, hb3⟩; have HB : Hid (Below w.heap.size w w3) := hb3; clear hb3) | (go_at_call 54; refine (CK.out _ _ _ HB.out).mono ?_; clear CK HB; rintro e w4 ⟨rfl, c4, l4, hb4⟩; have HB : Hid (Below w.heap.size w w4) := hb4; clear hb4) | (go_at_call 46; refine (CJ.out _ _ HB.out).mono ?_; clear CJ HB; rintro e w5 ⟨rfl, hb5⟩))
    go_ret
    exact ⟨rfl, hb5⟩

set_option maxRecDepth 100000 in
set_option maxHeartbeats 1000000 in
theorem cnext_any (s : ByteArray) (i : Int) (hs : s.size ≤ maxLen) (w : World) (hT : Lib.Utf8Tabs 0 1 w) :
    Calls Tryd.prog 17 #[.string s, .int .i64 i] w fun e w' => ∃ m : Nat, e = .returned (.int .i64 m) ∧ IsNext s i m ∧ Below w.heap.size w w' := by
  have hs' := hs
  unfold maxLen at hs
  obtain ⟨m0, e0, n0⟩ := nx_start s i
  have cN := next_any s i hs' w hT
  rw [e0] at cN
  clear e0
  go_enter Tryd.func17, Tryd.ntmps17
  go_wp2_with (go_at_call 32; refine cN.mono ?_; clear cN; rintro e w0 ⟨rfl, hb0⟩)
  go_loopw [5] (fun t wr => ∃ m : Nat, t = .int .i64 m ∧ NxI s i m ∧ Below w.heap.size w wr) (fun t _ => s.size - (intOf t).toNat)
  case atStart => exact ⟨m0, rfl, n0, hb0⟩
  case round =>
    clear hb0 n0
    obtain ⟨m, rfl, hn, hB⟩ := hrel
    have hm := hn.b.1
    have cB := cbound_any s m hs' wr (tabs_below hT hB) (by omega)
    cases hc : cbZ s m with
    | true =>
      rw [hc] at cB
      have HN : Hid (IsNext s i m) := hn.done hc
      clear hn hc
      go_wp2_with (go_at_call 33; refine cB.mono ?_; clear cB; rintro e w1 ⟨rfl, hb1⟩)
      go_ret
      exact ⟨m, rfl, HN.out, hB.trans (hb1.mono hB.size)⟩
    | false =>
      rw [hc] at cB
      obtain ⟨hlt, e1, hn1⟩ := nx_go hn hc
      have hp := sz_pos hlt
      have CN : Hid (∀ W, Below w.heap.size w W → Calls Tryd.prog 32 #[.string s, .int .i64 m] W fun e w' => e = .returned (.int .i64 ((m + sz s m : Nat) : Int)) ∧ Below w.heap.size w w') := fun W hW => by
        have := next_any s m hs' W (tabs_below hT hW)
        rw [e1] at this
        exact this.mono fun e w' ⟨h1, h2⟩ => ⟨h1, hW.trans (h2.mono hW.size)⟩
      have HN : Hid (NxI s i (m + sz s m)) := hn1
      have HB : Hid (Below w.heap.size w wr) := hB
      clear hn hn1 hc e1 hB
      go_wp2_with (first | (go_at_call 33; refine cB.mono ?_; clear cB; rintro e w1 ⟨rfl, hb1⟩; have HB1 : Hid (Below w.heap.size w w1) := HB.out.trans (hb1.mono HB.out.size); clear hb1) | (go_at_call 32; refine (CN.out _ HB1.out).mono ?_; clear CN; rintro e w2 ⟨rfl, hb2⟩))
      exact ⟨⟨m + sz s m, by first | rfl | simp, HN.out, hb2⟩, by simp [intOf]; omega⟩

end Go.Proofs.YtfjoklbiocniiaaDoor
