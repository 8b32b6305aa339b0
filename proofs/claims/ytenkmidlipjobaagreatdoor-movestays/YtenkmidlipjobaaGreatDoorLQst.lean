/-
  The walk of the law MoveStays: every motion ends at a boundary, in its direction, and a count is so many steps. Conditions: the two tables of unicode/utf8 lie as their text lays them.
-/
import Derived.Test.YtenkmidlipjobaaGreatDoorQLaid
import Derived.Deep.DeepCutAuto
namespace Go.Proofs.YtenkmidlipjobaaGreatDoor.Sto
open Go.RowKit Go.Shelf Bod Wid

theorem bck_cases {k : Int} (hk : 4 ≤ k ∧ k ≤ 13) : k = 4 ∨ k = 5 ∨ k = 6 ∨ k = 7 ∨ k = 8 ∨ k = 9 ∨ k = 10 ∨ k = 11 ∨ k = 12 ∨ k = 13 := by omega
set_option maxRecDepth 100000 in
set_option maxHeartbeats 4000000 in
theorem stays_walk (kd : Nat) (hkd : kd ≤ 255) (s : ByteArray) (i : Int) (hi : -9223372036854775808 ≤ i ∧ i ≤ 9223372036854775807) (c : Nat) (hc : c ≤ 255) (w : World) (hE : Ev w) :
    Calls Tryz.prog 6 #[.int .u8 kd, .string s, .int .i64 i, .int .u8 c] w fun e W' => e = .returned (.bool true) ∧ Below w.heap.size w W' := by
  have hM : Tryz.prog.follows .mixedOrders = true := by kernel_rfl
  have CA : Hid (Calls Tryz.prog 9 #[] w fun e W' => e = .returned (.bool true) ∧ Hid (Below w.heap.size w W')) := goes_any hM w hE
  by_cases hbig : 1073741824 < s.size
  · have hbig' : (1073741824 : Int) < s.size := by omega
    clear hE hM
    go_enter Tryz.func6, Tryz.ntmps6
    go_wp2_with (go_at_call 9; refine CA.out.mono ?_; clear CA; rintro e w1 ⟨rfl, HB⟩)
    go_ret
    exact ⟨rfl, HB.out⟩
  · have hs : s.size ≤ 1073741824 := by omega
    have hbig' : ¬ ((1073741824 : Int) < s.size) := by omega
    have CL : Hid (∀ W, Hid (Below w.heap.size w W) → Calls Tryz.prog 10 #[.int .u8 kd, .string s] W fun e W' => ∃ p, e = .returned (.pointer p) ∧ Hid (Sv W' (.pointer p) s ∧ Below w.heap.size w W')) := fun W hW => (laid_any W (hE.below hW.out) s hs kd hkd).mono fun e W' ⟨p, q1, q2, q3⟩ => ⟨p, q1, q2, Below.on hW.out q3⟩
    have CS : Hid (∀ W p, Hid (Sv W (.pointer p) s ∧ Below w.heap.size w W) → Calls Tryz.prog 22 #[.string s, .int .i64 i] W fun e W' => e = .returned (.int .i64 (snp s i : Nat)) ∧ Hid (Sv W' (.pointer p) s ∧ Below w.heap.size w W')) := fun W p hW => (csnap_any s i (by unfold maxLen; omega) W hW.out.1.ev.t hi.2).mono fun e W' ⟨m, q1, q2, q3⟩ => ⟨by rw [q1, q2.uniq (snp_is s i)], hW.out.1.below q3, Below.on hW.out.2 q3⟩
    have hfl := snp_le s i
    have hcn : cnt c = max c 1 := by have := cnt_eq c; omega
    have HS : Hid (s.size ≤ 1073741824) := hs
    have HM : Hid (Tryz.prog.follows .mixedOrders = true) := hM
    obtain ⟨f, hf⟩ : ∃ f, snp s i = f := ⟨_, rfl⟩
    have HF : Hid (snp s i = f) := hf
    rw [hf] at CS hfl
    clear hE hM hs hf
    go_enter Tryz.func6, Tryz.ntmps6
    go_wp2_with (first
      | (go_at_call 9; refine CA.out.mono ?_; clear CA; rintro e w1 ⟨rfl, HB⟩)
      | (go_at_call 10; refine (CL.out _ HB).mono ?_; clear CL HB; rintro e w2 ⟨p, rfl, HB⟩)
      | (go_at_call 22; refine (CS.out _ _ HB).mono ?_; clear CS HB; rintro e X ⟨rfl, HX⟩))
    have HY : Hid (Below X.heap.size X X) := Below.refl _ _
    go_loopw [11] (fun t wr => ∃ k : Nat, t = .int .i64 k ∧ 4 ≤ k ∧ k ≤ 14 ∧ Hid (Below X.heap.size X wr)) (fun t _ => 14 - (Go.RowKit.intOf t).toNat)
    case atStart => exact ⟨4, rfl, by omega, by omega, HY⟩
    case round =>
      clear HY
      obtain ⟨k, rfl, hk1, hk2, HR⟩ := hrel
      by_cases hlt : k ≤ 13
      · have hlt' : (k : Int) ≤ 13 := by omega
        have hkk : 4 ≤ (k : Int) ∧ (k : Int) ≤ 13 := by omega
        obtain ⟨m, e1, e2, e3, e4, e5, e6⟩ := goP_ends (s := s) hkk i (-1) c
        obtain ⟨w1, w2⟩ := wlk_all (s := s) hkk i c
        rw [HF.out] at e4 e5 e6 w1 w2
        obtain ⟨nx, hnx⟩ : ∃ nx, (goP s k i (-1) c).2.1 = nx := ⟨_, rfl⟩
        obtain ⟨er, her⟩ : ∃ er, (goP s k i (-1) c).2.2 = er := ⟨_, rfl⟩
        have C1 : Hid (∀ W, Hid (Below X.heap.size X W) → Calls Tryz.prog 11 #[.pointer p, .int .i64 k, .int .i64 i, .int .i64 (-1), .int .i64 c] W fun e W' => e = .returned (.tuple #[.int .i64 m, .int .i64 nx, .int .i64 er]) ∧ Hid (Below X.heap.size X W')) := fun W hW => (Go_any HM.out (HX.out.1.below hW.out) k i (-1) c hi.2 (by omega)).mono fun e W' ⟨q1, q2⟩ => ⟨by rw [q1, e1, hnx, her], Below.on hW.out q2⟩
        have C2 : Hid (∀ W, Hid (Below X.heap.size X W) → Calls Tryz.prog 23 #[.string s, .int .i64 m] W fun e W' => e = .returned (.bool true) ∧ Hid (Below X.heap.size X W')) := fun W hW => (cbound_any s m (by unfold maxLen; have := HS.out; omega) W (HX.out.1.ev.below hW.out).t (by have := HS.out; omega)).mono fun e W' ⟨q1, q2⟩ => ⟨by rw [q1, e2], Below.on hW.out q2⟩
        have HW : Hid (((wlk s k (max c 1) f (-1)).1 = m) ∧ ((wlk s k (max c 1) f (-1)).2 = nx ∨ nx = -1)) := by
          rw [hcn] at w1 w2
          rw [e1] at w1
          rw [hnx] at w2
          exact ⟨w1, w2⟩
        have HD : Hid ((bck k = true → (m : Int) ≤ f) ∧ (bck k = false → (f : Int) ≤ m)) := ⟨fun h => by have := e5 h; omega, fun h => by have := e6 h; omega⟩
        rw [her] at e4
        obtain ⟨bb, hbb⟩ : ∃ bb, bck (k : Int) = bb := ⟨_, rfl⟩
        have HBB : Hid (bck (k : Int) = bb) := hbb
        clear hbb
        clear w1 w2 e5 e6 hnx her e1 e2
        go_upto_region 11 with (go_at_call 11; refine (C1.out _ HR).mono ?_; clear C1 HR; rintro e w3 ⟨rfl, HR⟩)
        go_cut [60] (fun t60 wc => t60 = .bool false ∧ Hid (Below X.heap.size X wc))
        case first =>
          rcases e4 with rfl | ⟨rfl, rfl⟩
          · go_wp2_with (go_at_call 23; refine (C2.out _ HR).mono ?_; clear C2 HR; rintro e w4 ⟨rfl, HR⟩)
            go_meet
            case rel => exact ⟨rfl, HR⟩
          · go_wp2_with (go_at_call 23; refine (C2.out _ HR).mono ?_; clear C2 HR; rintro e w4 ⟨rfl, HR⟩)
            go_meet
            case rel => exact ⟨rfl, HR⟩
        case rest =>
          clear HR C2 e4
          obtain ⟨rfl, HR⟩ := hcut
          go_upto_region 13 with fail
          go_cut [15] (fun t15 wx => t15 = .bool bb ∧ Hid (Below X.heap.size X wx))
          case first =>
            clear HW HD
            have hkc : k = 4 ∨ k = 5 ∨ k = 6 ∨ k = 7 ∨ k = 8 ∨ k = 9 ∨ k = 10 ∨ k = 11 ∨ k = 12 ∨ k = 13 := by omega
            rcases hkc with rfl | rfl | rfl | rfl | rfl | rfl | rfl | rfl | rfl | rfl
            all_goals
              go_wp2
              go_meet
              case rel => exact ⟨by rw [← HBB.out]; rfl, HR⟩
          case rest =>
            clear HR
            obtain ⟨rfl, HR⟩ := hcut
            go_upto_region 14 with fail
            go_cut [93] (fun t93 wx => t93 = .bool false ∧ Hid (Below X.heap.size X wx))
            case first =>
              cases bb with
              | true =>
                have hd1 := HD.out.1 HBB.out
                have hd2 : ¬ ((f : Int) < m) := by omega
                clear HD HW HBB
                go_wp2
                go_meet
                case rel => exact ⟨rfl, HR⟩
              | false =>
                have hd1 := HD.out.2 HBB.out
                have hd2 : ¬ ((m : Int) < f) := by omega
                clear HD HW HBB
                go_wp2
                go_meet
                case rel => exact ⟨rfl, HR⟩
            case rest =>
              clear HR HD HBB
              obtain ⟨rfl, HR⟩ := hcut
              obtain ⟨n, hn⟩ : ∃ n, max c 1 = n := ⟨_, rfl⟩
              have hn' : max (c : Int) 1 = n := by omega
              rw [hn] at HW
              have hnl : (n : Int) ≤ 255 := by omega
              obtain ⟨R, hR⟩ : ∃ R, wlk s k n f (-1) = R := ⟨_, rfl⟩
              rw [hR] at HW
              have HS0 : Hid (cbZ s f = true ∧ -1 ≤ (-1 : Int) ∧ (-1 : Int) ≤ 9223372036854775807 ∧ wlk s k n f (-1) = R) := ⟨by rw [← HF.out]; exact (snp_is s i).cb, by omega, by omega, hR⟩
              have HK : Hid (4 ≤ (k : Int) ∧ (k : Int) ≤ 13) := hkk
              obtain ⟨r1, r2⟩ := R
              have hm : r1 = m := HW.out.1
              subst hm
              have HW2 : Hid (r2 = nx ∨ nx = -1) := HW.out.2
              clear hn hR HW hkk
              go_wp2
              go_loopw [16, 17, 98] (fun t16 t17 t98 wr => ∃ (q j : Nat) (g : Int), t16 = .int .i64 q ∧ t17 = .int .i64 g ∧ t98 = .int .i64 j ∧ j ≤ n ∧ Hid (cbZ s q = true ∧ -1 ≤ g ∧ g ≤ 9223372036854775807 ∧ wlk s k (n - j) q g = ((m : Int), r2)) ∧ Hid (Below X.heap.size X wr)) (fun _ _ t98 _ => n - (Go.RowKit.intOf t98).toNat)
              case atStart => exact ⟨f, 0, -1, rfl, rfl, rfl, Nat.zero_le _, HS0, HR⟩
              case round =>
                clear HS0 HR
                obtain ⟨q, j, g, rfl, rfl, rfl, hj, HQ, HR⟩ := hrel
                by_cases hjn : j < n
                · have hjn' : (j : Int) < n := by omega
                  obtain ⟨m2, d1, d2, d3, d4, -, -⟩ := goP_ends (s := s) HK.out q g 1
                  obtain ⟨d5, d6⟩ := goP_goal (s := s) HK.out HS.out q HQ.out.2.2.1 1
                  obtain ⟨y, hy⟩ : ∃ y, (goP s k q g 1).2.1 = y := ⟨_, rfl⟩
                  obtain ⟨er2, her2⟩ : ∃ er2, (goP s k q g 1).2.2 = er2 := ⟨_, rfl⟩
                  have hgo : goP s k q g 1 = ((m2 : Int), y, er2) := by rw [← d1, ← hy, ← her2]
                  have C3 : Hid (∀ W, Hid (Below X.heap.size X W) → Calls Tryz.prog 11 #[.pointer p, .int .i64 k, .int .i64 q, .int .i64 g, .int .i64 1] W fun e W' => e = .returned (.tuple #[.int .i64 m2, .int .i64 y, .int .i64 er2]) ∧ Hid (Below X.heap.size X W')) := fun W hW => (Go_any HM.out (HX.out.1.below hW.out) k q g 1 (by have := cb_le HQ.out.1; have := HS.out; omega) HQ.out.2.2.1).mono fun e W' ⟨q1, q2⟩ => ⟨by rw [q1, hgo], Below.on hW.out q2⟩
                  rw [hy] at d5 d6
                  rw [her2] at d4
                  by_cases h0 : er2 = 0
                  · subst h0
                    have HN : Hid (cbZ s m2 = true ∧ -1 ≤ y ∧ y ≤ 9223372036854775807 ∧ wlk s k (n - (j + 1)) m2 y = ((m : Int), r2)) := by
                      refine ⟨d2, d5, d6, ?_⟩
                      have := HQ.out.2.2.2
                      rw [show n - j = (n - (j + 1)) + 1 by omega, wlk_ok hgo] at this
                      exact this
                    clear HQ d1 d2 d3 d4 d5 d6 hy her2 hgo
                    go_wp2_with (go_at_call 11; refine (C3.out _ HR).mono ?_; clear C3 HR; rintro e w5 ⟨rfl, HR⟩)
                    exact ⟨⟨m2, j + 1, y, rfl, rfl, by go_num, by omega, HN, HR⟩, by simp [Go.RowKit.intOf]; omega⟩
                  · have h0' : (er2 == 0) = false := by simp [h0]
                    have h0'' : decide (er2 = 0) = false := by simp [h0]
                    have hend := HQ.out.2.2.2
                    rw [show n - j = (n - (j + 1)) + 1 by omega, wlk_end hgo h0] at hend
                    injection hend with hx hy2
                    have hmm : m2 = m := by omega
                    subst hmm
                    subst hy2
                    clear HQ d1 d2 d3 d4 d5 d6 hy her2 hgo hx
                    rcases HW2.out with rfl | rfl
                    · clear HW2
                      go_wp2_with (go_at_call 11; refine (C3.out _ HR).mono ?_; clear C3 HR; rintro e w5 ⟨rfl, HR⟩)
                      exact ⟨⟨k + 1, by go_num, by omega, by omega, HR⟩, by simp [Go.RowKit.intOf]; omega⟩
                    · clear HW2
                      by_cases hy1 : y = -1
                      · subst hy1
                        go_wp2_with (go_at_call 11; refine (C3.out _ HR).mono ?_; clear C3 HR; rintro e w5 ⟨rfl, HR⟩)
                        exact ⟨⟨k + 1, by go_num, by omega, by omega, HR⟩, by simp [Go.RowKit.intOf]; omega⟩
                      · have hy3 : (y == -1) = false := by simp [hy1]
                        have hy4 : decide (y = -1) = false := by simp [hy1]
                        go_wp2_with (go_at_call 11; refine (C3.out _ HR).mono ?_; clear C3 HR; rintro e w5 ⟨rfl, HR⟩)
                        exact ⟨⟨k + 1, by go_num, by omega, by omega, HR⟩, by simp [Go.RowKit.intOf]; omega⟩
                · have hjn' : ¬ ((j : Int) < n) := by omega
                  have hend := HQ.out.2.2.2
                  rw [show n - j = 0 by omega, wlk_zero] at hend
                  injection hend with hx hy2
                  have hmm : q = m := by omega
                  subst hmm
                  subst hy2
                  clear HQ hx
                  rcases HW2.out with rfl | rfl
                  · clear HW2
                    go_wp2
                    exact ⟨⟨k + 1, by go_num, by omega, by omega, HR⟩, by simp [Go.RowKit.intOf]; omega⟩
                  · clear HW2
                    by_cases hy1 : g = -1
                    · subst hy1
                      go_wp2
                      exact ⟨⟨k + 1, by go_num, by omega, by omega, HR⟩, by simp [Go.RowKit.intOf]; omega⟩
                    · have hy3 : (g == -1) = false := by simp [hy1]
                      have hy4 : decide (g = -1) = false := by simp [hy1]
                      go_wp2
                      exact ⟨⟨k + 1, by go_num, by omega, by omega, HR⟩, by simp [Go.RowKit.intOf]; omega⟩
      · have hlt' : ¬ ((k : Int) ≤ 13) := by omega
        go_wp2
        go_ret
        exact ⟨rfl, Below.on HX.out.2 HR.out⟩
end Go.Proofs.YtenkmidlipjobaaGreatDoor.Sto
namespace Go.Proofs.YtenkmidlipjobaaGreatDoor.moveStays
open Go.RowKit Go.Shelf Sto
theorem walk_of (kd : Int) (s : ByteArray) (i c : Int) (w : World) (hT : Lib.Utf8Tabs 0 1 w) (hlo0 : 0 < w.heap.size) (hlo1 : 1 < w.heap.size) (h0 : 0 ≤ kd ∧ kd ≤ 255) (_hs : s.size ≤ 140737488351232) (h2 : -9223372036854775808 ≤ i ∧ i ≤ 9223372036854775807) (h3 : 0 ≤ c ∧ c ≤ 255) :
    Calls Tryz.prog 6 #[.int .u8 kd, .string s, .int .i64 i, .int .u8 c] w fun e W' => e = .returned (.bool true) ∧ Below w.heap.size w W' := by
  obtain ⟨a, rfl⟩ := Int.eq_ofNat_of_zero_le h0.1
  obtain ⟨b, rfl⟩ := Int.eq_ofNat_of_zero_le h3.1
  exact stays_walk a (by omega) s i h2 b (by omega) w ⟨hT, hlo0, hlo1⟩
end Go.Proofs.YtenkmidlipjobaaGreatDoor.moveStays
