/-
  The walk of the law UnitSteps: for every text and every number it returns true: from 0 by Next every boundary is met, and back by Prev; Down and Up agree with Boundary. Conditions: the two tables of unicode/utf8 lie as their text lays them.
-/
import Derived.Test.YtadgbbnkhjapnabDoorUCuts
import Derived.Test.YtadgbbnkhjapnabDoorUMathC
namespace Go.Proofs.YtadgbbnkhjapnabDoor.unitSteps
open Go.RowKit Bod

set_option maxRecDepth 100000 in
set_option maxHeartbeats 4000000 in
theorem walk (s : ByteArray) (i : Int) (hs : s.size ≤ 140737488351232) (h0 : -9223372036854775808 ≤ i) (h1 : i ≤ 9223372036854775807) (w : World) (hT : Lib.Utf8Tabs 0 1 w) (hlo0 : 0 < w.heap.size) (hlo1 : 1 < w.heap.size) :
    Calls Tryd.prog 5 #[.string s, .int .i64 i] w fun e w' => e = .returned (.bool true) ∧ Below w.heap.size w w' := by
  have hs' : s.size ≤ maxLen := by unfold maxLen; omega
  have CC : Hid (Calls Tryd.prog 8 #[] w fun e w' => e = .returned (.bool true) ∧ Below w.heap.size w w') := cuts_any w hT hlo0 hlo1
  have CN : Hid (∀ (W : World), Below w.heap.size w W → ∀ j r, nextZ s j = r → Calls Tryd.prog 15 #[.string s, .int .i64 j] W fun e W' => e = .returned (.int .i64 r) ∧ Below w.heap.size w W') := fun W hb j r hr => by
    rw [← hr]; exact (next_any s j hs' W (tabs_below hT hb)).mono fun e W' ⟨h1, h2⟩ => ⟨h1, hb.trans (h2.mono hb.size)⟩
  have CD : Hid (∀ (W : World), Below w.heap.size w W → ∀ j r, downZ s j = r → Calls Tryd.prog 12 #[.string s, .int .i64 j] W fun e W' => e = .returned (.int .i64 r) ∧ Below w.heap.size w W') := fun W hb j r hr => by
    rw [← hr]; exact (down_any s j hs' W (tabs_below hT hb)).mono fun e W' ⟨h1, h2⟩ => ⟨h1, hb.trans (h2.mono hb.size)⟩
  have CU : Hid (∀ (W : World), Below w.heap.size w W → ∀ j r, upZ s j = r → Calls Tryd.prog 13 #[.string s, .int .i64 j] W fun e W' => e = .returned (.int .i64 r) ∧ Below w.heap.size w W') := fun W hb j r hr => by
    rw [← hr]; exact (up_any s j hs' W (tabs_below hT hb)).mono fun e W' ⟨h1, h2⟩ => ⟨h1, hb.trans (h2.mono hb.size)⟩
  have CB : Hid (∀ (W : World), Below w.heap.size w W → ∀ j r, bdZ s j = r → Calls Tryd.prog 9 #[.string s, .int .i64 j] W fun e W' => e = .returned (.bool r) ∧ Below w.heap.size w W') := fun W hb j r hr => by
    rw [← hr]; exact (bound_any s j hs' W (tabs_below hT hb)).mono fun e W' ⟨h1, h2⟩ => ⟨h1, hb.trans (h2.mono hb.size)⟩
  have CP : Hid (∀ (W : World), Below w.heap.size w W → ∀ j r, j ≤ 9223372036854775807 → prevZ s j = r → Calls Tryd.prog 16 #[.string s, .int .i64 j] W fun e W' => e = .returned (.int .i64 r) ∧ Below w.heap.size w W') := fun W hb j r hj hr => by
    rw [← hr]; exact (prev_any s j hs' W (tabs_below hT hb) hj).mono fun e W' ⟨h1, h2⟩ => ⟨h1, hb.trans (h2.mono hb.size)⟩
  obtain ⟨N, hN⟩ : ∃ N, (offs s 0).length = N := ⟨_, rfl⟩
  have hNs : N ≤ s.size := by rw [← hN]; exact offs_len_le s
  have CT : Hid (∀ (W : World), Below w.heap.size w W → Calls Tryd.prog 14 #[.string s] W fun e W' => e = .returned (.int .i64 N) ∧ Below w.heap.size w W') := fun W hb => by
    rw [← hN]; exact (count_any s hs' W (tabs_below hT hb) (Nat.lt_of_lt_of_le hlo0 hb.size) (Nat.lt_of_lt_of_le hlo1 hb.size)).mono fun e W' ⟨h1, h2⟩ => ⟨h1, hb.trans (h2.mono hb.size)⟩
  have HN : Hid ((offs s 0).length = N) := hN
  clear hN hT hlo0 hlo1
  go_enter Tryd.func5, Tryd.ntmps5
  go_wp2_with (first | (go_at_call 8; refine (Hid.out CC).mono ?_; rintro e w1 ⟨rfl, hb1⟩; have hB : Hid (Below w.heap.size w w1) := hb1; clear hb1) | (go_at_call 14; refine (CT.out _ hB.out).mono ?_; clear hB; rintro e w2 ⟨rfl, hb1⟩; have hB : Hid (Below w.heap.size w w2) := hb1; clear hb1))
  go_loopw [5, 14] (fun t c wr => ∃ (pre : List Nat) (a : Nat), t = .int .i64 a ∧ c = .int .i64 pre.length ∧ pre.length ≤ N ∧ pre ++ offs s a = offs s 0 ∧ B s a ∧ Below w.heap.size w wr) (fun _ c _ => N - (intOf c).toNat)
  case atStart => exact ⟨[], 0, rfl, rfl, by simp, rfl, B_zero s, hB.out⟩
  case round =>
    obtain ⟨pre, a, rfl, rfl, hpl, hpre, hBa, hBw⟩ := hrel
    have hB : Hid (Below w.heap.size w wr) := hBw
    clear hBw
    have HP : Hid (pre ++ offs s a = offs s 0) := hpre
    clear hpre
    have HB : Hid (B s a) := hBa
    clear hBa
    by_cases hlt : pre.length < N
    · have ha : a < s.size := by
        by_cases h : a < s.size
        · exact h
        · have := HP.out; rw [offs_end (by omega)] at this
          have h2 := HN.out; rw [← this] at h2; simp at h2; omega
      obtain ⟨nx, hnx⟩ : ∃ nx, a + sz s a = nx := ⟨_, rfl⟩
      have hz1 := sz_pos ha
      have hz4 := sz_le ha
      have hzi := sz_in ha
      rw [hnx] at hzi
      have hnl : a < nx := by omega
      have hnh : nx ≤ a + 4 := by omega
      have HX : Hid (a + sz s a = nx) := hnx
      have E1 : Hid (nextZ s a = (nx : Int)) := by have := next_B HB.out ha; rw [hnx] at this; exact this
      have E2 : Hid (prevZ s (nx : Int) = (a : Int)) := by have := prev_B HB.out ha; rw [hnx] at this; exact this
      have E3 : Hid (bdZ s (nx : Int) = true) := by have := bd_B (B_next HB.out ha); rw [hnx] at this; exact this
      clear hnx hz1 hz4
      have d1 : decide (nx ≤ a) = false := by simp; omega
      have d2 : decide ((a : Int) + 4 < (nx : Int)) = false := by simp; omega
      go_wp2_with (first | (go_at_call 15; refine (CN.out _ hB.out _ _ E1.out).mono ?_; clear hB; rintro e w2 ⟨rfl, hb1⟩; have hB : Hid (Below w.heap.size w w2) := hb1; clear hb1) | (go_at_call 16; refine (CP.out _ hB.out _ _ (by omega) E2.out).mono ?_; clear hB; rintro e w2 ⟨rfl, hb1⟩; have hB : Hid (Below w.heap.size w w2) := hb1; clear hb1) | (go_at_call 9; refine (CB.out _ hB.out _ _ E3.out).mono ?_; clear hB; rintro e w2 ⟨rfl, hb1⟩; have hB : Hid (Below w.heap.size w w2) := hb1; clear hb1))
      clear E1 E2 E3
      go_loopw [7] (fun t wr2 => ∃ k : Nat, t = .int .i64 k ∧ a < k ∧ k ≤ nx ∧ Below w.heap.size w wr2) (fun t _ => nx - (intOf t).toNat)
      case atStart => exact ⟨a + 1, by go_num, by omega, by omega, hB.out⟩
      case round =>
        clear hB
        obtain ⟨k, rfl, hk1, hk2, hBw⟩ := hrel
        have hB : Hid (Below w.heap.size w wr) := hBw
        clear hBw
        by_cases hk : k < nx
        · have hk3 : k < a + sz s a := by rw [HX.out]; exact hk
          have K1 : Hid (bdZ s (k : Int) = false) := bd_in hk1 hk3
          have K2 : Hid (downZ s (k : Int) = (a : Int)) := down_in' HB.out ha (by omega) hk3
          have K3 : Hid (upZ s (k : Int) = (nx : Int)) := by have := up_in' HB.out ha hk1 hk3; rw [HX.out] at this; exact this
          have K4 : Hid (prevZ s (k : Int) = (a : Int)) := prev_in' HB.out ha hk1 hk3
          have K5 : Hid (nextZ s (k : Int) = (nx : Int)) := by have := next_in' HB.out ha (by omega) hk3; rw [HX.out] at this; exact this
          clear hk3
          go_wp2_with (first | (go_at_call 9; refine (CB.out _ hB.out _ _ K1.out).mono ?_; clear hB K1; rintro e w2 ⟨rfl, hb1⟩; have hB : Hid (Below w.heap.size w w2) := hb1; clear hb1) | (go_at_call 12; refine (CD.out _ hB.out _ _ K2.out).mono ?_; clear hB K2; rintro e w2 ⟨rfl, hb1⟩; have hB : Hid (Below w.heap.size w w2) := hb1; clear hb1) | (go_at_call 13; refine (CU.out _ hB.out _ _ K3.out).mono ?_; clear hB K3; rintro e w2 ⟨rfl, hb1⟩; have hB : Hid (Below w.heap.size w w2) := hb1; clear hb1) | (go_at_call 16; refine (CP.out _ hB.out _ _ (by omega) K4.out).mono ?_; clear hB K4; rintro e w2 ⟨rfl, hb1⟩; have hB : Hid (Below w.heap.size w w2) := hb1; clear hb1) | (go_at_call 15; refine (CN.out _ hB.out _ _ K5.out).mono ?_; clear hB K5; rintro e w2 ⟨rfl, hb1⟩; have hB : Hid (Below w.heap.size w w2) := hb1; clear hb1))
          go_roundw
          case rel => first | exact ⟨k + 1, by go_num, by omega, by omega, hB.out⟩ | ((repeat apply Exists.intro); exact ⟨⟨k + 1, by go_num, by omega, by omega, hB.out⟩, rfl⟩)
          case measure => simp [intOf]; omega
        · have hkn : k = nx := by omega
          clear hk1 hk2
          go_wp2
          go_roundw
          case rel => exact ⟨pre ++ [a], nx, rfl, by simp, by simp; omega, by rw [← HP.out, offs_step ha, HX.out]; simp, by rw [← HX.out]; exact B_next HB.out ha, hB.out⟩
          case measure => simp [intOf]; omega
    · have ha : a = s.size := by
        by_cases h : a < s.size
        · have h2 := HN.out
          rw [← HP.out, offs_step h] at h2; simp at h2; omega
        · have := HB.out.1; omega
      subst ha
      have T1 : Hid (nextZ s (s.size : Int) = (s.size : Int)) := next_end s
      have T2 : Hid (prevZ s 0 = 0) := prev_zero s
      obtain ⟨lw, hlw⟩ : ∃ lw, downZ s i = lw := ⟨_, rfl⟩
      obtain ⟨hg, hhg⟩ : ∃ hg, upZ s i = hg := ⟨_, rfl⟩
      have T3 : Hid (downZ s i = lw) := hlw
      have T4 : Hid (upZ s i = hg) := hhg
      by_cases hin : 0 ≤ i ∧ i ≤ s.size
      · obtain ⟨j, rfl⟩ := Int.eq_ofNat_of_zero_le hin.1
        obtain ⟨u1, u2, u3, u4, u5⟩ := updown_in s j (by omega)
        rw [hlw, hhg] at u3
        rw [hlw] at u1 u5
        rw [hhg] at u2 u4
        have T5 : Hid (bdZ s (j : Int) = decide (lw = hg)) := u3
        have T6 : Hid (downZ s hg = hg) := u4
        have T7 : Hid (upZ s lw = lw) := u5
        have i1 := hin.1
        have i2 := hin.2
        clear u3 u4 u5 hlw hhg hin
        go_wp2_with (first | (go_at_call 15; refine (CN.out _ hB.out _ _ T1.out).mono ?_; clear hB T1; rintro e w2 ⟨rfl, hb1⟩; have hB : Hid (Below w.heap.size w w2) := hb1; clear hb1) | (go_at_call 16; refine (CP.out _ hB.out _ _ (by omega) T2.out).mono ?_; clear hB T2; rintro e w2 ⟨rfl, hb1⟩; have hB : Hid (Below w.heap.size w w2) := hb1; clear hb1) | (go_at_call 12; refine (CD.out _ hB.out _ _ T3.out).mono ?_; clear hB T3; rintro e w2 ⟨rfl, hb1⟩; have hB : Hid (Below w.heap.size w w2) := hb1; clear hb1) | (go_at_call 13; refine (CU.out _ hB.out _ _ T4.out).mono ?_; clear hB T4; rintro e w2 ⟨rfl, hb1⟩; have hB : Hid (Below w.heap.size w w2) := hb1; clear hb1) | (go_at_call 9; refine (CB.out _ hB.out _ _ T5.out).mono ?_; clear hB T5; rintro e w2 ⟨rfl, hb1⟩; have hB : Hid (Below w.heap.size w w2) := hb1; clear hb1) | (go_at_call 12; refine (CD.out _ hB.out _ _ T6.out).mono ?_; clear hB T6; rintro e w2 ⟨rfl, hb1⟩; have hB : Hid (Below w.heap.size w w2) := hb1; clear hb1) | (go_at_call 13; refine (CU.out _ hB.out _ _ T7.out).mono ?_; clear hB T7; rintro e w2 ⟨rfl, hb1⟩; have hB : Hid (Below w.heap.size w w2) := hb1; clear hb1))
        go_ret
        exact ⟨rfl, hB.out⟩
      · obtain ⟨u1, u2, u3⟩ := updown_out s i (by omega)
        rw [hlw, hhg] at u2
        rw [hlw] at u3
        have T5 : Hid (bdZ s i = false) := u1
        have T8 : Hid ((lw == 0 || lw == (s.size : Int)) = true) := by show (lw == 0 || lw == (s.size : Int)) = true; rcases u3 with h | h <;> simp [h]
        clear u1 u3 hlw hhg
        subst u2
        go_wp2_with (first | (go_at_call 15; refine (CN.out _ hB.out _ _ T1.out).mono ?_; clear hB T1; rintro e w2 ⟨rfl, hb1⟩; have hB : Hid (Below w.heap.size w w2) := hb1; clear hb1) | (go_at_call 16; refine (CP.out _ hB.out _ _ (by omega) T2.out).mono ?_; clear hB T2; rintro e w2 ⟨rfl, hb1⟩; have hB : Hid (Below w.heap.size w w2) := hb1; clear hb1) | (go_at_call 12; refine (CD.out _ hB.out _ _ T3.out).mono ?_; clear hB T3; rintro e w2 ⟨rfl, hb1⟩; have hB : Hid (Below w.heap.size w w2) := hb1; clear hb1) | (go_at_call 13; refine (CU.out _ hB.out _ _ T4.out).mono ?_; clear hB T4; rintro e w2 ⟨rfl, hb1⟩; have hB : Hid (Below w.heap.size w w2) := hb1; clear hb1) | (go_at_call 9; refine (CB.out _ hB.out _ _ T5.out).mono ?_; clear hB T5; rintro e w2 ⟨rfl, hb1⟩; have hB : Hid (Below w.heap.size w w2) := hb1; clear hb1))
        all_goals go_ret
        all_goals exact ⟨by first | rfl | (simp only [T8.out]; rfl) | rw [T8.out], hB.out⟩
theorem walk_of (s : ByteArray) (i : Int) (w : World) (hT : Lib.Utf8Tabs 0 1 w) (hlo0 : 0 < w.heap.size) (hlo1 : 1 < w.heap.size) (hs : s.size ≤ 140737488351232) (hb : -9223372036854775808 ≤ i ∧ i ≤ 9223372036854775807) :
    Calls Tryd.prog 5 #[.string s, .int .i64 i] w fun e w' => e = .returned (.bool true) ∧ Below w.heap.size w w' := walk s i hs hb.1 hb.2 w hT hlo0 hlo1
end Go.Proofs.YtadgbbnkhjapnabDoor.unitSteps
