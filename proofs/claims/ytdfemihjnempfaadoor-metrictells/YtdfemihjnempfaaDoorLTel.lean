/-
  The walk of the law MetricTells: for every text that can be handed in it returns true: what a summary counts is what packages unit and cluster count, and its ends are the text's. Conditions: the two tables of unicode/utf8 lie as their text lays them.
-/
import Derived.Test.YtdfemihjnempfaaDoorMLaw
namespace Go.Proofs.YtdfemihjnempfaaDoor.metricTells
open Go.RowKit Go.Sort Bod Wid

set_option maxRecDepth 100000 in
set_option maxHeartbeats 2000000 in
theorem walk (s : ByteArray) (hs : s.size ≤ 140737488351232) (w : World) (hT : Lib.Utf8Tabs 1 2 w) (hlo0 : 1 < w.heap.size) (hlo1 : 2 < w.heap.size) :
    Calls Tryd.prog 8 #[.string s] w fun e w' => e = .returned (.bool true) ∧ Below w.heap.size w w' := by
  have cC := counts_any w hT hlo0 hlo1
  have hs' : s.size ≤ maxLen := by unfold maxLen; omega
  have TT : Hid (∀ W, Below w.heap.size w W → Lib.Utf8Tabs 1 2 W ∧ 1 < W.heap.size ∧ 2 < W.heap.size) := fun W hb => ⟨tabs_below hT hb, Nat.lt_of_lt_of_le hlo0 hb.size, Nat.lt_of_lt_of_le hlo1 hb.size⟩
  have hmix : Tryd.prog.follows .mixedOrders = true := by kernel_rfl
  have HM : Hid (Tryd.prog.follows .mixedOrders = true) := hmix
  obtain ⟨u, hu⟩ : ∃ u : Int, ((offs s 0).length : Int) = u := ⟨_, rfl⟩
  obtain ⟨c, hc⟩ : ∃ c : Int, ((cl s).length : Int) = c := ⟨_, rfl⟩
  obtain ⟨x, hx⟩ : ∃ x : Int, sumN (cl s) = x := ⟨_, rfl⟩
  obtain ⟨h, hh⟩ : ∃ h, hd s = h := ⟨_, rfl⟩
  obtain ⟨t, ht⟩ : ∃ t, tl s = t := ⟨_, rfl⟩
  obtain ⟨nl, hnl⟩ : ∃ nl : Nat, nls s = nl := ⟨_, rfl⟩
  have hm : smr s = ⟨s.size, u, c, x, nl, h, t⟩ := by
    unfold smr
    rw [kU_of, kC_of, kN_of, hu, hc, hx, hh, ht, hnl]
  have C1 : Hid (∀ W, Below w.heap.size w W → Calls Tryd.prog 10 #[.string s] W fun e W' => e = .returned (sv ⟨s.size, u, c, x, nl, h, t⟩) ∧ Below w.heap.size w W') := fun W hb => by
    obtain ⟨t1, t2, t3⟩ := TT.out W hb
    rw [← hm]
    exact (measure_any s (by omega) W t1 t2 t3).mono fun e W' ⟨h1, h2⟩ => ⟨h1, hb.trans (h2.mono hb.size)⟩
  have C2 : Hid (∀ W, Below w.heap.size w W → Calls Tryd.prog 18 #[.string s] W fun e W' => e = .returned (.int .i64 u) ∧ Below W.heap.size W W') := fun W hb => by
    obtain ⟨t1, t2, t3⟩ := TT.out W hb
    rw [← hu]
    exact ucount_any s hs' W t1 t2 t3
  have C3 : Hid (∀ W, Below w.heap.size w W → Calls Tryd.prog 19 #[.string s] W fun e W' => e = .returned (.int .i64 c) ∧ Below W.heap.size W W') := fun W hb => by
    obtain ⟨t1, t2, t3⟩ := TT.out W hb
    rw [← hc]
    exact count_any s hs' W t1 t2 t3
  have C4 : Hid (∀ W, Below w.heap.size w W → Calls Tryd.prog 20 #[.string s] W fun e W' => e = .returned (.int .i64 x) ∧ Below W.heap.size W W') := fun W hb => by
    obtain ⟨t1, t2, t3⟩ := TT.out W hb
    rw [← hx]
    exact ccells_any s hs' (by omega) W t1 t2 t3
  have HH : Hid (hd s = h ∧ tl s = t ∧ nls s = nl) := ⟨hh, ht, hnl⟩
  clear hT hlo0 hlo1 hmix hm hu hc hx hh ht hnl
  go_enter Tryd.func8, Tryd.ntmps8
  go_wp2_with (first | (go_at_call 9; refine cC.mono ?_; clear cC; rintro e w1 ⟨rfl, hb1⟩; have HB : Hid (Below w.heap.size w w1) := hb1; clear hb1) | (go_at_call 10; refine (C1.out _ HB.out).mono ?_; clear HB C1; rintro e w2 ⟨rfl, hb2⟩; obtain ⟨W2, hW2⟩ : ∃ W2, w2.alloc (.cells #[.int .i64 s.size, .int .i64 u, .int .i64 c, .int .i64 x, .int .i64 nl, .string h, .string t] 25) = W2 := ⟨_, rfl⟩; have HB : Hid (Below w.heap.size w W2 ∧ W2.heap[w2.heap.size]? = some (.cells (scs ⟨s.size, u, c, x, nl, h, t⟩) 25 (0, 0))) := ⟨hW2 ▸ hb2.alloc hb2.size _, hW2 ▸ World.alloc_heap_new w2 _⟩; clear hb2))
  clear hW2
  go_loopw [4, 12] (fun n i wr => ∃ k : Nat, k ≤ s.size ∧ i = .int .i64 k ∧ n = .int .i64 ((s.data.toList.take k).countP (· == 10) : Nat) ∧ wr = W2) (fun _ i _ => s.size - (intOf i).toNat)
  case atStart => exact ⟨0, Nat.zero_le _, rfl, rfl, rfl⟩
  case round =>
    obtain ⟨k, hk, rfl, rfl, rfl⟩ := hrel
    by_cases hlt : k < s.size
    · have hcb : (s.data.toList.take k).countP (· == 10) ≤ k := Nat.le_trans List.countP_le_length (by rw [List.length_take]; omega)
      have hct := count_take s k hlt
      by_cases h10 : (s[k]'hlt) = 10
      · have e10 : (((s[k]'hlt).toNat : Int) == 10) = true := by rw [h10]; rfl
        rw [if_pos h10] at hct
        clear h10
        generalize (s.data.toList.take k).countP (· == 10) = y at hcb hct ⊢
        go_wp2
        exact ⟨⟨k + 1, by omega, by go_num, by rw [hct]; rfl, by first | rfl | trivial⟩, by simp [intOf]; omega⟩
      · have e10 : (((s[k]'hlt).toNat : Int) == 10) = false := by
          rw [beq_eq_false_iff_ne]
          intro e
          exact h10 (UInt8.toNat_inj.1 (by have : (s[k]'hlt).toNat = 10 := by omega
                                           exact this))
        rw [if_neg h10] at hct
        clear h10
        generalize (s.data.toList.take k).countP (· == 10) = y at hcb hct ⊢
        go_wp2
        exact ⟨⟨k + 1, by omega, by go_num, by rw [hct]; rfl, by first | rfl | trivial⟩, by simp [intOf]; omega⟩
    · have hn : (s.data.toList.take k).countP (· == 10) = nl := by
        rw [← HH.out.2.2, List.take_of_length_le (show s.data.toList.length ≤ k by rw [← Lib.size_eq]; omega)]
        rfl
      rw [hn]
      clear hn
      obtain ⟨⟨c0, c1, c2, c3, c4, c5, c6⟩, -⟩ := box7 HB.out.2
      have e0 := cell_rg c0; have e1 := cell_rg c1; have e2 := cell_rg c2; have e3 := cell_rg c3; have e4 := cell_rg c4
      have q1 := regrown (v := .int .i64 u) (W := wr) (fun W hW => C2.out W (HB.out.1.trans (hW.mono HB.out.1.size)))
      have q2 := regrown (v := .int .i64 c) (W := wr) (fun W hW => C3.out W (HB.out.1.trans (hW.mono HB.out.1.size)))
      have q3 := regrown (v := .int .i64 x) (W := wr) (fun W hW => C4.out W (HB.out.1.trans (hW.mono HB.out.1.size)))
      go_wp2
      refine wp_region_quiet_below HM.out (by kernel_rfl) ?_
      repeat (quiet_step (fail))
      quiet_step (exact q1 _ _)
      repeat (quiet_step (fail))
      quiet_step (exact q2 _ _)
      repeat (quiet_step (fail))
      quiet_step (exact q3 _ _)
      repeat (quiet_step (fail))
      refine wpQuiet_nil ?_
      intro _ hw'
      obtain ⟨⟨dq, osq⟩, hw''⟩ := hw'
      subst hw''
      have HB2 : Hid (Below w.heap.size w (grow (redrawn wr dq) osq)) := by
        obtain ⟨h1, h2⟩ := HB.out
        exact h1.trans ((below_regrown wr dq osq).mono h1.size)
      have d5 := cell_rg c5 dq osq
      have d6 := cell_rg c6 dq osq
      obtain ⟨W3, hW3⟩ : ∃ W3, grow (redrawn wr dq) osq = W3 := ⟨_, rfl⟩
      dsimp only
      rw [hW3] at HB2 d5 d6 ⊢
      clear hW3 q1 q2 q3 HB c0 c1 c2 c3 c4 c5 c6 e0 e1 e2 e3 e4
      obtain ⟨h1, h2, -⟩ := HH.out
      by_cases h16 : s.size ≤ 16
      · rw [hd_short h16] at h1
        rw [tl_short h16] at h2
        subst h1 h2
        go_wp2
        go_ret
        exact ⟨rfl, HB2.out⟩
      · unfold hd at h1
        unfold tl at h2
        rw [if_pos (by omega)] at h1 h2
        subst h1 h2
        have z0 : (16 : Int) ≤ (s.size : Int) := by omega
        go_wp2
        go_quiet (fail)
        have HB3 : Below w.heap.size w (W3.drewN nq) := ⟨HB2.out.os, HB2.out.tape, HB2.out.output, HB2.out.size, HB2.out.block⟩
        go_wp2
        go_ret
        exact ⟨rfl, HB3⟩

theorem walk_of (s : ByteArray) (w : World) (hT : Lib.Utf8Tabs 1 2 w) (hlo0 : 1 < w.heap.size) (hlo1 : 2 < w.heap.size) (hz : s.size ≤ 140737488351232) :
    Calls Tryd.prog 8 #[.string s] w fun e w' => e = .returned (.bool true) ∧ Below w.heap.size w w' := walk s hz w hT hlo0 hlo1
end Go.Proofs.YtdfemihjnempfaaDoor.metricTells
