/-
  The law GapBack returns true: what was replaced is put back by what was cut; a refusal changes nothing. Conditions: the two tables of unicode/utf8 lie as their text lays them.
-/
import Derived.Test.YtgagpmeknpjkpaaDoorGLaw
import Derived.Test.YtgagpmeknpjkpaaDoorGMea
import Derived.Test.YtgagpmeknpjkpaaDoorUOps
namespace Go.Proofs.YtgagpmeknpjkpaaDoor.gapBack
open Go.RowKit Bod Wid

theorem sv_neq (x : Sum) (w : World) : (binOp .neq 45 (sv x) (sv x)).run Tryd.prog w = .ok (.bool false) w := by simp [go_sem, sv]
theorem ba_list {a b : ByteArray} (h : a.data.toList = b.data.toList) : a = b := ByteArray.ext (Array.toList_inj.1 h)
/-- a text between two others -/
theorem mid_of (A put B : ByteArray) : (A ++ put ++ B).extract A.size (A.size + put.size) = put ∧ (A ++ put ++ B).extract 0 A.size = A ∧ (A ++ put ++ B).extract (A.size + put.size) (A ++ put ++ B).size = B := by
  have e : (A ++ put ++ B).data.toList = A.data.toList ++ (put.data.toList ++ B.data.toList) := by simp [ByteArray.data_append]
  have ha := sz_list A
  have hp := sz_list put
  have hb := sz_list B
  refine ⟨?_, ?_, ?_⟩
  · rw [ext_list, e]
    apply ba_list
    simp only
    rw [List.drop_append, List.drop_of_length_le (by omega), List.nil_append, ha, Nat.sub_self, List.drop_zero, Nat.add_sub_cancel_left, List.take_append_of_le_length (by omega), List.take_of_length_le (by omega)]
  · rw [ext_list, e]
    apply ba_list
    simp only
    rw [List.drop_zero, Nat.sub_zero, List.take_append_of_le_length (by omega), List.take_of_length_le (by omega)]
  · rw [ext_list, e]
    apply ba_list
    simp only
    rw [List.drop_append, List.drop_of_length_le (by omega), List.nil_append, ha, Nat.add_sub_cancel_left, List.drop_append, List.drop_of_length_le (by omega), List.nil_append, hp, Nat.sub_self, List.drop_zero, ByteArray.size_append, ByteArray.size_append, List.take_of_length_le (by omega)]
theorem cut3 (s : ByteArray) (x y : Nat) : s.extract 0 x ++ s.extract x (x + y) ++ s.extract (x + y) s.size = s := by
  apply ba_list
  rw [ext_list, ext_list, ext_list]
  simp only [ByteArray.data_append, Array.toList_append, Nat.sub_zero, List.drop_zero]
  rw [show (s.data.toList.drop (x + y)).take (s.size - (x + y)) = s.data.toList.drop (x + y) from List.take_of_length_le (by rw [List.length_drop, sz_list]; exact Nat.le_refl _), Nat.add_sub_cancel_left, List.append_assoc, ← List.drop_drop, List.take_append_drop, List.take_append_drop]
theorem own_q {n0 : Nat} {w W : World} {v : Value} {g : Gp} (h : Own n0 w v g W) :
    (∀ d os, Calls Tryd.prog 12 #[v] (Go.Sort.grow (redrawn W d) os) fun e w'' => e = .returned (.string g.s) ∧ ∃ p : Regrown, w'' = Go.Sort.grow (redrawn W p.d) p.os) ∧
    (∀ d os, Calls Tryd.prog 7 #[v] (Go.Sort.grow (redrawn W d) os) fun e w'' => e = .returned (.int .i64 g.p) ∧ ∃ p : Regrown, w'' = Go.Sort.grow (redrawn W p.d) p.os) ∧
    (∀ d os, Calls Tryd.prog 15 #[v] (Go.Sort.grow (redrawn W d) os) fun e w'' => e = .returned (.int .i64 g.l) ∧ ∃ p : Regrown, w'' = Go.Sort.grow (redrawn W p.d) p.os) ∧
    (∀ d os, Calls Tryd.prog 9 #[v] (Go.Sort.grow (redrawn W d) os) fun e w'' => e = .returned (.int .i64 g.s.size) ∧ ∃ p : Regrown, w'' = Go.Sort.grow (redrawn W p.d) p.os) := by
  obtain ⟨b, r, m, i, _⟩ := own_is h
  exact ⟨fun d os => Calls.regrown_of (text_is (i.below (below_regrown W d os))), fun d os => Calls.regrown_of (place_is (i.below (below_regrown W d os))), fun d os => Calls.regrown_of (limit_is (i.below (below_regrown W d os))), fun d os => Calls.regrown_of (len_is (i.below (below_regrown W d os)))⟩

set_option maxRecDepth 100000 in
set_option maxHeartbeats 4000000 in
theorem walk (s : ByteArray) (m a c : Int) (put : ByteArray) (ha : -9223372036854775808 ≤ a ∧ a ≤ 9223372036854775807) (_hc : -9223372036854775808 ≤ c ∧ c ≤ 9223372036854775807) (hp : put.size ≤ 140737488351232) (w : World) (hT : Lib.Utf8Tabs 1 2 w) (hlo0 : 1 < w.heap.size) (hlo1 : 2 < w.heap.size) :
    Calls Tryd.prog 4 #[.agg #[.string s, .int .i64 m], .int .i64 a, .int .i64 c, .string put] w fun e w' => e = .returned (.bool true) ∧ Below w.heap.size w w' := by
  obtain ⟨W0, hW0⟩ : ∃ W0, w.alloc (.cells #[.string s, .int .i64 m] 23) = W0 := ⟨_, rfl⟩
  obtain ⟨n1, hn1'⟩ : ∃ n1, W0.heap.size = n1 := ⟨_, rfl⟩
  have hn1 : n1 ≤ W0.heap.size := by omega
  have hB0 : Below w.heap.size w W0 := by rw [← hW0]; exact (Below.refl _ w).alloc (Nat.le_refl _) _
  have hx0 : W0.heap[w.heap.size]? = some (.cells #[.string s, .int .i64 m] 23 (0, 0)) := by rw [← hW0]; exact World.alloc_heap_new w _
  have hS0 : w.heap.size < n1 := by rw [← hn1']; exact (Array.getElem?_eq_some_iff.1 hx0).1
  have HX : Hid (∀ W, Below n1 W0 W → W.cell? ⟨w.heap.size, 0, none⟩ = some (.string s) ∧ W.cell? ⟨w.heap.size, 1, none⟩ = some (.int .i64 m)) := fun W hW => by
    have : W.heap[w.heap.size]? = some (.cells #[.string s, .int .i64 m] 23 (0, 0)) := (hW.block _ hS0).trans hx0
    simp [World.cell?, this]
  have CF : Hid (Calls Tryd.prog 5 #[] W0 fun e w' => e = .returned (.bool true) ∧ Below n1 W0 w') := by
    have := fixed_any W0 (tabs_below hT hB0)
    rw [hn1'] at this
    exact this
  have HEnd : Hid (∀ W, Below n1 W0 W → Below w.heap.size w W) := fun W hW => hB0.trans (hW.mono (by omega))
  have HTT : Hid (∀ W, Below n1 W0 W → Lib.Utf8Tabs 1 2 W ∧ 1 < W.heap.size ∧ 2 < W.heap.size) := fun W hW => by
    have := HEnd.out W hW
    exact ⟨tabs_below hT this, Nat.lt_of_lt_of_le hlo0 this.size, Nat.lt_of_lt_of_le hlo1 this.size⟩
  have HM : Hid (Tryd.prog.follows .mixedOrders = true) := by show _ = _; kernel_rfl
  have e0 := lim_eq m
  obtain ⟨L, hL⟩ : ∃ L, lim m = L := ⟨_, rfl⟩
  rw [hL] at e0
  have hLb := lim_le m
  rw [hL] at hLb
  have hmm : min (max m 0) 1073741824 = L := e0.symm
  have CN : Hid (∀ W, Below n1 W0 W → Calls Tryd.prog 6 #[.string s, .int .i64 m] W fun e w' => if s.size ≤ L then (∃ b, e = .returned (.tuple #[.pointer (some ⟨b, 0, none⟩), .int .i64 0]) ∧ Own n1 W0 (.pointer (some ⟨b, 0, none⟩)) ⟨s, s.size, L⟩ w') else (e = .returned (.tuple #[.pointer none, .int .i64 2]) ∧ Below n1 W0 w')) := fun W hW => by
    have := new_any s m W
    unfold gNew at this
    rw [hL] at this
    by_cases h : s.size ≤ L
    · rw [if_pos h] at this
      simp only [if_pos h]
      exact this.mono fun e w' ⟨h1, h2⟩ => ⟨_, h1, own_nb hn1 hW h2⟩
    · rw [if_neg h] at this
      simp only [if_neg h]
      exact this.mono fun e w' ⟨h1, h2⟩ => ⟨h1, hW.trans (h2.mono (Nat.le_trans hn1 hW.size))⟩
  clear hT hlo0 hlo1 hB0 hx0 hS0 e0 hL
  by_cases hs : s.size ≤ L
  · simp only [if_pos hs] at CN
    by_cases h1 : a < 0
    · have hrep : gRep ⟨s, s.size, L⟩ a c put = (⟨s, s.size, L⟩, eBA, 1) := by unfold gRep; rw [if_pos (.inl h1)]
      have CR : Hid (∀ W v, Own n1 W0 v ⟨s, s.size, L⟩ W → Calls Tryd.prog 14 #[v, .int .i64 a, .int .i64 c, .string put] W fun e w' => e = .returned (.tuple #[.string ⟨#[]⟩, .int .i64 1]) ∧ Own n1 W0 v ⟨s, s.size, L⟩ w') := fun W v hW => by
        have := own_rep hW hn1 a c ha put
        rw [hrep] at this
        exact this
      clear hrep
      go_enter Tryd.func4, Tryd.ntmps4
      go_wp2_with (first
        | (go_at_call 5; refine CF.out.mono ?_; clear CF; rintro e w1 ⟨rfl, hb1⟩; have HB1 : Hid (Below n1 W0 w1) := hb1; obtain ⟨z0, z1⟩ := HX.out _ hb1; clear hb1)
        | (go_at_call 6; refine (CN.out w1 HB1.out).mono ?_; clear CN; rintro e w2 ⟨b, rfl, hO⟩; have HO : Hid (Own n1 W0 (.pointer (some ⟨b, 0, none⟩)) ⟨s, s.size, L⟩ w2) := hO; clear hO)
        | (go_at_call 14; refine (CR.out _ _ HO.out).mono ?_; clear CR HO z0 z1; rintro e w3 ⟨rfl, hO⟩; have HO : Hid (Own n1 W0 (.pointer (some ⟨b, 0, none⟩)) ⟨s, s.size, L⟩ w3) := hO; obtain ⟨z0, z1⟩ := HX.out _ hO.bel; clear hO))
      obtain ⟨q1, q2, q3, q4⟩ := own_q HO.out
      have y0 := fun d os => cell_regrown z0 d os
      refine wp_region_quiet_below HM.out (by kernel_rfl) ?_
      repeat (go_big_quiet_step (fail))
      go_big_quiet_step (exact q1 _ _)
      repeat (go_big_quiet_step (fail))
      go_big_quiet_step (exact q2 _ _)
      repeat (go_big_quiet_step (fail))
      refine wpQuiet_nil ?_
      intro _ hw'
      obtain ⟨⟨dq, osq⟩, hw''⟩ := hw'
      subst hw''
      dsimp only
      have HB2 : Hid (Below n1 W0 (Go.Sort.grow (redrawn w3 dq) osq)) := HO.out.bel.trans ((below_regrown w3 dq osq).mono (Nat.le_trans hn1 HO.out.bel.size))
      go_wp2
      go_ret
      exact ⟨rfl, HEnd.out _ HB2.out⟩
    · by_cases h2 : c < 0
      · have hrep : gRep ⟨s, s.size, L⟩ a c put = (⟨s, s.size, L⟩, eBA, 1) := by unfold gRep; rw [if_pos (.inr (.inl h2))]
        have CR : Hid (∀ W v, Own n1 W0 v ⟨s, s.size, L⟩ W → Calls Tryd.prog 14 #[v, .int .i64 a, .int .i64 c, .string put] W fun e w' => e = .returned (.tuple #[.string ⟨#[]⟩, .int .i64 1]) ∧ Own n1 W0 v ⟨s, s.size, L⟩ w') := fun W v hW => by
          have := own_rep hW hn1 a c ha put
          rw [hrep] at this
          exact this
        clear hrep
        go_enter Tryd.func4, Tryd.ntmps4
        go_wp2_with (first
          | (go_at_call 5; refine CF.out.mono ?_; clear CF; rintro e w1 ⟨rfl, hb1⟩; have HB1 : Hid (Below n1 W0 w1) := hb1; obtain ⟨z0, z1⟩ := HX.out _ hb1; clear hb1)
          | (go_at_call 6; refine (CN.out w1 HB1.out).mono ?_; clear CN; rintro e w2 ⟨b, rfl, hO⟩; have HO : Hid (Own n1 W0 (.pointer (some ⟨b, 0, none⟩)) ⟨s, s.size, L⟩ w2) := hO; clear hO)
          | (go_at_call 14; refine (CR.out _ _ HO.out).mono ?_; clear CR HO z0 z1; rintro e w3 ⟨rfl, hO⟩; have HO : Hid (Own n1 W0 (.pointer (some ⟨b, 0, none⟩)) ⟨s, s.size, L⟩ w3) := hO; obtain ⟨z0, z1⟩ := HX.out _ hO.bel; clear hO))
        obtain ⟨q1, q2, q3, q4⟩ := own_q HO.out
        have y0 := fun d os => cell_regrown z0 d os
        refine wp_region_quiet_below HM.out (by kernel_rfl) ?_
        repeat (go_big_quiet_step (fail))
        go_big_quiet_step (exact q1 _ _)
        repeat (go_big_quiet_step (fail))
        go_big_quiet_step (exact q2 _ _)
        repeat (go_big_quiet_step (fail))
        refine wpQuiet_nil ?_
        intro _ hw'
        obtain ⟨⟨dq, osq⟩, hw''⟩ := hw'
        subst hw''
        dsimp only
        have HB2 : Hid (Below n1 W0 (Go.Sort.grow (redrawn w3 dq) osq)) := HO.out.bel.trans ((below_regrown w3 dq osq).mono (Nat.le_trans hn1 HO.out.bel.size))
        go_wp2
        go_ret
        exact ⟨rfl, HEnd.out _ HB2.out⟩
      · obtain ⟨x, rfl⟩ := Int.eq_ofNat_of_zero_le (show 0 ≤ a by omega)
        obtain ⟨y, rfl⟩ := Int.eq_ofNat_of_zero_le (show 0 ≤ c by omega)
        by_cases h3 : s.size < x
        · have hrep : gRep ⟨s, s.size, L⟩ x y put = (⟨s, s.size, L⟩, eBA, 1) := by unfold gRep; rw [if_pos (show gOut _ _ _ from .inr (.inr (.inl (by show (s.size : Int) < x; omega))))]
          have CR : Hid (∀ W v, Own n1 W0 v ⟨s, s.size, L⟩ W → Calls Tryd.prog 14 #[v, .int .i64 x, .int .i64 y, .string put] W fun e w' => e = .returned (.tuple #[.string ⟨#[]⟩, .int .i64 1]) ∧ Own n1 W0 v ⟨s, s.size, L⟩ w') := fun W v hW => by
            have := own_rep hW hn1 x y ha put
            rw [hrep] at this
            exact this
          clear hrep
          go_enter Tryd.func4, Tryd.ntmps4
          go_wp2_with (first
            | (go_at_call 5; refine CF.out.mono ?_; clear CF; rintro e w1 ⟨rfl, hb1⟩; have HB1 : Hid (Below n1 W0 w1) := hb1; obtain ⟨z0, z1⟩ := HX.out _ hb1; clear hb1)
            | (go_at_call 6; refine (CN.out w1 HB1.out).mono ?_; clear CN; rintro e w2 ⟨b, rfl, hO⟩; have HO : Hid (Own n1 W0 (.pointer (some ⟨b, 0, none⟩)) ⟨s, s.size, L⟩ w2) := hO; clear hO)
            | (go_at_call 14; refine (CR.out _ _ HO.out).mono ?_; clear CR HO z0 z1; rintro e w3 ⟨rfl, hO⟩; have HO : Hid (Own n1 W0 (.pointer (some ⟨b, 0, none⟩)) ⟨s, s.size, L⟩ w3) := hO; obtain ⟨z0, z1⟩ := HX.out _ hO.bel; clear hO))
          obtain ⟨q1, q2, q3, q4⟩ := own_q HO.out
          have y0 := fun d os => cell_regrown z0 d os
          refine wp_region_quiet_below HM.out (by kernel_rfl) ?_
          repeat (go_big_quiet_step (fail))
          go_big_quiet_step (exact q1 _ _)
          repeat (go_big_quiet_step (fail))
          go_big_quiet_step (exact q2 _ _)
          repeat (go_big_quiet_step (fail))
          refine wpQuiet_nil ?_
          intro _ hw'
          obtain ⟨⟨dq, osq⟩, hw''⟩ := hw'
          subst hw''
          dsimp only
          have HB2 : Hid (Below n1 W0 (Go.Sort.grow (redrawn w3 dq) osq)) := HO.out.bel.trans ((below_regrown w3 dq osq).mono (Nat.le_trans hn1 HO.out.bel.size))
          go_wp2
          go_ret
          exact ⟨rfl, HEnd.out _ HB2.out⟩
        · have kx : IntKind.i64.wrap ((s.size : Int) - x) = (s.size : Int) - x := by rw [IntKind.wrap_i64]; omega
          by_cases h4 : (s.size : Int) - x < y
          · have hd4 : decide ((y : Int) ≤ (s.size : Int) - x) = false := decide_eq_false (by omega)
            have hrep : gRep ⟨s, s.size, L⟩ x y put = (⟨s, s.size, L⟩, eBA, 1) := by unfold gRep; rw [if_pos (show gOut _ _ _ from .inr (.inr (.inr (by show (s.size : Int) - x < y; omega))))]
            have CR : Hid (∀ W v, Own n1 W0 v ⟨s, s.size, L⟩ W → Calls Tryd.prog 14 #[v, .int .i64 x, .int .i64 y, .string put] W fun e w' => e = .returned (.tuple #[.string ⟨#[]⟩, .int .i64 1]) ∧ Own n1 W0 v ⟨s, s.size, L⟩ w') := fun W v hW => by
              have := own_rep hW hn1 x y ha put
              rw [hrep] at this
              exact this
            clear hrep
            go_enter Tryd.func4, Tryd.ntmps4
            go_wp2_with (first
              | (go_at_call 5; refine CF.out.mono ?_; clear CF; rintro e w1 ⟨rfl, hb1⟩; have HB1 : Hid (Below n1 W0 w1) := hb1; obtain ⟨z0, z1⟩ := HX.out _ hb1; clear hb1)
              | (go_at_call 6; refine (CN.out w1 HB1.out).mono ?_; clear CN; rintro e w2 ⟨b, rfl, hO⟩; have HO : Hid (Own n1 W0 (.pointer (some ⟨b, 0, none⟩)) ⟨s, s.size, L⟩ w2) := hO; clear hO)
              | (go_at_call 14; refine (CR.out _ _ HO.out).mono ?_; clear CR HO z0 z1; rintro e w3 ⟨rfl, hO⟩; have HO : Hid (Own n1 W0 (.pointer (some ⟨b, 0, none⟩)) ⟨s, s.size, L⟩ w3) := hO; obtain ⟨z0, z1⟩ := HX.out _ hO.bel; clear hO))
            obtain ⟨q1, q2, q3, q4⟩ := own_q HO.out
            have y0 := fun d os => cell_regrown z0 d os
            refine wp_region_quiet_below HM.out (by kernel_rfl) ?_
            repeat (go_big_quiet_step (fail))
            go_big_quiet_step (exact q1 _ _)
            repeat (go_big_quiet_step (fail))
            go_big_quiet_step (exact q2 _ _)
            repeat (go_big_quiet_step (fail))
            refine wpQuiet_nil ?_
            intro _ hw'
            obtain ⟨⟨dq, osq⟩, hw''⟩ := hw'
            subst hw''
            dsimp only
            have HB2 : Hid (Below n1 W0 (Go.Sort.grow (redrawn w3 dq) osq)) := HO.out.bel.trans ((below_regrown w3 dq osq).mono (Nat.le_trans hn1 HO.out.bel.size))
            go_wp2
            go_ret
            exact ⟨rfl, HEnd.out _ HB2.out⟩
          · have hd4 : decide ((y : Int) ≤ (s.size : Int) - x) = true := decide_eq_true (by omega)
            have hxy : x + y ≤ s.size := by omega
            have ky : IntKind.i64.wrap ((s.size : Int) - y) = (s.size : Int) - y := by rw [IntKind.wrap_i64]; omega
            have kp : IntKind.i64.wrap ((s.size : Int) - y + put.size) = (s.size : Int) - y + put.size := by rw [IntKind.wrap_i64]; omega
            by_cases h5 : (L : Int) < (s.size : Int) - y + put.size
            · have hrep : gRep ⟨s, s.size, L⟩ x y put = (⟨s, s.size, L⟩, eBA, 2) := by unfold gRep; rw [if_neg (by unfold gOut; dsimp only; omega), if_pos (by dsimp only; omega)]
              have CR : Hid (∀ W v, Own n1 W0 v ⟨s, s.size, L⟩ W → Calls Tryd.prog 14 #[v, .int .i64 x, .int .i64 y, .string put] W fun e w' => e = .returned (.tuple #[.string ⟨#[]⟩, .int .i64 2]) ∧ Own n1 W0 v ⟨s, s.size, L⟩ w') := fun W v hW => by
                have := own_rep hW hn1 x y ha put
                rw [hrep] at this
                exact this
              clear hrep
              go_enter Tryd.func4, Tryd.ntmps4
              go_wp2_with (first
                | (go_at_call 5; refine CF.out.mono ?_; clear CF; rintro e w1 ⟨rfl, hb1⟩; have HB1 : Hid (Below n1 W0 w1) := hb1; obtain ⟨z0, z1⟩ := HX.out _ hb1; clear hb1)
                | (go_at_call 6; refine (CN.out w1 HB1.out).mono ?_; clear CN; rintro e w2 ⟨b, rfl, hO⟩; have HO : Hid (Own n1 W0 (.pointer (some ⟨b, 0, none⟩)) ⟨s, s.size, L⟩ w2) := hO; clear hO)
                | (go_at_call 14; refine (CR.out _ _ HO.out).mono ?_; clear CR HO z0 z1; rintro e w3 ⟨rfl, hO⟩; have HO : Hid (Own n1 W0 (.pointer (some ⟨b, 0, none⟩)) ⟨s, s.size, L⟩ w3) := hO; obtain ⟨z0, z1⟩ := HX.out _ hO.bel; clear hO))
              obtain ⟨q1, q2, q3, q4⟩ := own_q HO.out
              have y0 := fun d os => cell_regrown z0 d os
              refine wp_region_quiet_below HM.out (by kernel_rfl) ?_
              repeat (go_big_quiet_step (fail))
              go_big_quiet_step (exact q1 _ _)
              repeat (go_big_quiet_step (fail))
              go_big_quiet_step (exact q2 _ _)
              repeat (go_big_quiet_step (fail))
              go_big_quiet_step (exact q3 _ _)
              repeat (go_big_quiet_step (fail))
              refine wpQuiet_nil ?_
              intro _ hw'
              obtain ⟨⟨dq, osq⟩, hw''⟩ := hw'
              subst hw''
              dsimp only
              have HB2 : Hid (Below n1 W0 (Go.Sort.grow (redrawn w3 dq) osq)) := HO.out.bel.trans ((below_regrown w3 dq osq).mono (Nat.le_trans hn1 HO.out.bel.size))
              go_wp2
              go_ret
              exact ⟨rfl, HEnd.out _ HB2.out⟩
            · obtain ⟨A, hA⟩ : ∃ A, s.extract 0 x = A := ⟨_, rfl⟩
              obtain ⟨B, hB⟩ : ∃ B, s.extract (x + y) s.size = B := ⟨_, rfl⟩
              obtain ⟨out, hout⟩ : ∃ out, s.extract x (x + y) = out := ⟨_, rfl⟩
              have sA : A.size = x := by rw [← hA, size_ext (by omega)]; omega
              have sB : B.size = s.size - (x + y) := by rw [← hB, size_ext (Nat.le_refl _)]
              have so : out.size = y := by rw [← hout, size_ext hxy]; omega
              obtain ⟨T2, hT2⟩ : ∃ T2, A ++ put ++ B = T2 := ⟨_, rfl⟩
              have sT : T2.size = s.size - y + put.size := by rw [← hT2, ByteArray.size_append, ByteArray.size_append]; omega
              have sTi : (T2.size : Int) = (s.size : Int) - y + put.size := by omega
              obtain ⟨m1, m2, m3⟩ := mid_of A put B
              rw [hT2, sA] at m1 m2 m3
              have m4 : A ++ out ++ B = s := by rw [← hA, ← hB, ← hout]; exact cut3 s x y
              have hrep : gRep ⟨s, s.size, L⟩ x y put = (⟨T2, x + put.size, L⟩, out, 0) := by
                unfold gRep
                rw [if_neg (by unfold gOut; dsimp only; omega), if_neg (by dsimp only; omega)]
                simp only [Int.toNat_natCast]
                rw [hA, hB, hout, hT2]
              have hrep2 : gRep ⟨T2, x + put.size, L⟩ x put.size out = (⟨s, x + y, L⟩, put, 0) := by
                unfold gRep
                rw [if_neg (by unfold gOut; dsimp only; omega), if_neg (by dsimp only; omega)]
                simp only [Int.toNat_natCast]
                rw [m1, m2, m3, m4, so]
              have CR : Hid (∀ W v, Own n1 W0 v ⟨s, s.size, L⟩ W → Calls Tryd.prog 14 #[v, .int .i64 x, .int .i64 y, .string put] W fun e w' => e = .returned (.tuple #[.string out, .int .i64 0]) ∧ Own n1 W0 v ⟨T2, x + put.size, L⟩ w') := fun W v hW => by
                have := own_rep hW hn1 x y ha put
                rw [hrep] at this
                exact this
              have CR2 : Hid (∀ W v, Own n1 W0 v ⟨T2, x + put.size, L⟩ W → Calls Tryd.prog 14 #[v, .int .i64 x, .int .i64 put.size, .string out] W fun e w' => e = .returned (.tuple #[.string put, .int .i64 0]) ∧ Own n1 W0 v ⟨s, x + y, L⟩ w') := fun W v hW => by
                have := own_rep hW hn1 x put.size ha out
                rw [hrep2] at this
                exact this
              have CSl : Hid (∀ W v, Own n1 W0 v ⟨T2, x + put.size, L⟩ W → Calls Tryd.prog 16 #[v, .int .i64 x, .int .i64 ((x : Int) + put.size)] W fun e w' => e = .returned (.tuple #[.string put, .int .i64 0]) ∧ Own n1 W0 v ⟨T2, x + put.size, L⟩ w') := fun W v hW => by
                obtain ⟨b, r, m, i, _⟩ := own_is hW
                have := slice_is i x ((x : Int) + put.size)
                have e1 : gSlice T2 x ((x : Int) + put.size) = (put, 0) := by
                  unfold gSlice gRng
                  rw [decide_eq_false (by omega), if_neg (by simp), Int.toNat_natCast, show ((x : Int) + put.size).toNat = x + put.size by omega, m1]
                dsimp only at this
                rw [e1] at this
                exact this.mono fun e w' ⟨q1, q2⟩ => ⟨q1, own_step hW q2 hn1⟩
              have CLn : Hid (∀ W v, Own n1 W0 v ⟨T2, x + put.size, L⟩ W → Calls Tryd.prog 9 #[v] W fun e w' => e = .returned (.int .i64 ((s.size : Int) - y + put.size)) ∧ Own n1 W0 v ⟨T2, x + put.size, L⟩ w') := fun W v hW => by
                obtain ⟨b, r, m, i, _⟩ := own_is hW
                have := len_is i
                dsimp only at this
                rw [sTi] at this
                exact this.mono fun e w' ⟨q1, q2⟩ => ⟨q1, own_step hW q2 hn1⟩
              obtain ⟨mm, hmm'⟩ : ∃ mm, smr T2 = mm := ⟨_, rfl⟩
              have CMe : Hid (∀ W v, Own n1 W0 v ⟨T2, x + put.size, L⟩ W → Calls Tryd.prog 17 #[v, .int .i64 0, .int .i64 ((s.size : Int) - y + put.size)] W fun e w' => e = .returned (.tuple #[sv mm, .int .i64 0]) ∧ Own n1 W0 v ⟨T2, x + put.size, L⟩ w') := fun W v hW => by
                obtain ⟨b, r, m, i, _⟩ := own_is hW
                obtain ⟨t1, t2, t3⟩ := HTT.out W hW.bel
                have := mea_is i 0 T2.size t1 t2 t3
                have e1 : gMea T2 0 T2.size = (mm, 0) := by
                  unfold gMea gRng
                  rw [decide_eq_false (by omega), if_neg (by simp), Int.toNat_natCast, show (0 : Int).toNat = 0 from rfl, ext_all, hmm']
                dsimp only at this
                rw [e1, sTi] at this
                exact this.mono fun e w' ⟨q1, q2⟩ => ⟨q1, own_step hW q2 hn1⟩
              have CRm : Hid (∀ W, Calls Tryd.prog 18 #[.string T2] W fun e w' => e = .returned (sv mm) ∧ Below W.heap.size W w') := fun W => by
                have := rmeasure_any T2 (by omega) W
                rw [hmm'] at this
                exact this
              have HQ2 : Hid (∀ W v, Own n1 W0 v ⟨T2, x + put.size, L⟩ W → (∀ d os, Calls Tryd.prog 9 #[v] (Go.Sort.grow (redrawn W d) os) fun e w'' => e = .returned (.int .i64 ((s.size : Int) - y + put.size)) ∧ ∃ p : Regrown, w'' = Go.Sort.grow (redrawn W p.d) p.os) ∧ (∀ d os, Calls Tryd.prog 12 #[v] (Go.Sort.grow (redrawn W d) os) fun e w'' => e = .returned (.string T2) ∧ ∃ p : Regrown, w'' = Go.Sort.grow (redrawn W p.d) p.os) ∧ (∀ d os, Calls Tryd.prog 7 #[v] (Go.Sort.grow (redrawn W d) os) fun e w'' => e = .returned (.int .i64 ((x : Int) + put.size)) ∧ ∃ p : Regrown, w'' = Go.Sort.grow (redrawn W p.d) p.os)) := fun W v hW => by
                obtain ⟨q1, q2, q3, q4⟩ := own_q hW
                dsimp only at q1 q2 q4
                rw [sTi] at q4
                rw [show ((x + put.size : Nat) : Int) = (x : Int) + put.size by omega] at q2
                exact ⟨q4, q1, q2⟩
              have kxy : IntKind.i64.wrap ((x : Int) + y) = (x : Int) + y := by rw [IntKind.wrap_i64]; omega
              have kxp : IntKind.i64.wrap ((x : Int) + put.size) = (x : Int) + put.size := by rw [IntKind.wrap_i64]; omega
              have bA : A.size ≤ 1073741824 := by omega
              have bB : B.size ≤ 1073741824 := by omega
              clear hrep hrep2 m1 m2 m3 m4 so sT sTi hmm' sA sB
              have hxs : x ≤ s.size := by omega
              go_enter Tryd.func4, Tryd.ntmps4
              go_wp2_with (first
                | (go_at_call 5; refine CF.out.mono ?_; clear CF; rintro e w1 ⟨rfl, hb1⟩; have HB1 : Hid (Below n1 W0 w1) := hb1; obtain ⟨z0, z1⟩ := HX.out _ hb1; clear hb1)
                | (go_at_call 6; refine (CN.out w1 HB1.out).mono ?_; clear CN; rintro e w2 ⟨b, rfl, hO⟩; have HO : Hid (Own n1 W0 (.pointer (some ⟨b, 0, none⟩)) ⟨s, s.size, L⟩ w2) := hO; clear hO)
                | (go_at_call 14; refine (CR.out _ _ HO.out).mono ?_; clear CR HO z0 z1; rintro e w3 ⟨rfl, hO⟩; have HO : Hid (Own n1 W0 (.pointer (some ⟨b, 0, none⟩)) ⟨T2, x + put.size, L⟩ w3) := hO; obtain ⟨z0, z1⟩ := HX.out _ hO.bel; clear hO))
              obtain ⟨q1, q2, q3⟩ := HQ2.out _ _ HO.out
              have y0 := fun d os => cell_regrown z0 d os
              refine wp_region_quiet_below HM.out (by kernel_rfl) ?_
              repeat (go_big_quiet_step (fail))
              go_big_quiet_step (exact q1 _ _)
              repeat (go_big_quiet_step (fail))
              go_big_quiet_step (exact q2 _ _)
              repeat (go_big_quiet_step (fail))
              go_big_quiet_step (exact q3 _ _)
              repeat (go_big_quiet_step (fail))
              refine wpQuiet_nil ?_
              intro _ hw'
              obtain ⟨⟨dq, osq⟩, hw''⟩ := hw'
              subst hw''
              dsimp only
              obtain ⟨w4, hw4⟩ : ∃ w4, Go.Sort.grow (redrawn w3 dq) osq = w4 := ⟨_, rfl⟩
              have HO4 : Hid (Own n1 W0 (.pointer (some ⟨b, 0, none⟩)) ⟨T2, x + put.size, L⟩ w4) := by rw [← hw4]; exact own_step HO.out (below_regrown w3 dq osq) hn1
              rw [hw4]
              clear hw4 q1 q2 q3 y0 z0 z1 HO
              go_wp2_with (first
                | (go_at_call 16; refine (CSl.out _ _ HO4.out).mono ?_; clear CSl HO4; rintro e w5 ⟨rfl, hO⟩; have HO5 : Hid (Own n1 W0 (.pointer (some ⟨b, 0, none⟩)) ⟨T2, x + put.size, L⟩ w5) := hO; clear hO)
                | (go_at_call 9; refine (CLn.out _ _ HO5.out).mono ?_; clear CLn HO5; rintro e w6 ⟨rfl, hO⟩; have HO6 : Hid (Own n1 W0 (.pointer (some ⟨b, 0, none⟩)) ⟨T2, x + put.size, L⟩ w6) := hO; clear hO)
                | (go_at_call 17; refine (CMe.out _ _ HO6.out).mono ?_; clear CMe HO6; rintro e w7 ⟨rfl, hO⟩; have HO7 : Hid (Own n1 W0 (.pointer (some ⟨b, 0, none⟩)) ⟨T2, x + put.size, L⟩ w7) := hO; clear hO))
              obtain ⟨w8, hw8⟩ : ∃ w8, w7.alloc (.cells #[.int .i64 mm.by', .int .i64 mm.un, .int .i64 mm.cl, .int .i64 mm.ce, .int .i64 mm.nl, .string mm.hd, .string mm.tl] 45) = w8 := ⟨_, rfl⟩
              have HO8 : Hid (Own n1 W0 (.pointer (some ⟨b, 0, none⟩)) ⟨T2, x + put.size, L⟩ w8) := by rw [← hw8]; exact own_step HO7.out ((Below.refl _ w7).alloc (Nat.le_refl _) _) hn1
              have hbx : w8.heap[w7.heap.size]? = some (.cells #[.int .i64 mm.by', .int .i64 mm.un, .int .i64 mm.cl, .int .i64 mm.ce, .int .i64 mm.nl, .string mm.hd, .string mm.tl] 45 (0, 0)) := by rw [← hw8]; exact World.alloc_heap_new w7 _
              obtain ⟨⟨x0, x1, x2, x3, x4, x5, x6⟩, -⟩ := box7 hbx
              obtain ⟨bm, hbm⟩ : ∃ bm, w7.heap.size = bm := ⟨_, rfl⟩
              rw [hbm] at x0 x1 x2 x3 x4 x5 x6
              rw [hw8, hbm]
              clear hw8 hbx hbm HO7
              have X0 := fun d os => cell_regrown x0 d os
              have X1 := fun d os => cell_regrown x1 d os
              have X2 := fun d os => cell_regrown x2 d os
              have X3 := fun d os => cell_regrown x3 d os
              have X4 := fun d os => cell_regrown x4 d os
              have X5 := fun d os => cell_regrown x5 d os
              have X6 := fun d os => cell_regrown x6 d os
              clear x0 x1 x2 x3 x4 x5 x6
              obtain ⟨q1, q2, q3⟩ := HQ2.out _ _ HO8.out
              have q5 : ∀ d os, Calls Tryd.prog 18 #[.string T2] (Go.Sort.grow (redrawn w8 d) os) fun e w'' => e = .returned (sv mm) ∧ ∃ p : Regrown, w'' = Go.Sort.grow (redrawn w8 p.d) p.os := fun d os => Calls.regrown_of (CRm.out _)
              clear q1 q3 HQ2 CRm
              refine wp_region_quiet_below HM.out (by kernel_rfl) ?_
              repeat (go_big_quiet_step (fail))
              go_big_quiet_step (exact q2 _ _)
              repeat (go_big_quiet_step (fail))
              go_big_quiet_step (exact q5 _ _)
              repeat (go_big_quiet_step (fail))
              refine wpQuiet_nil ?_
              intro _ hw'
              obtain ⟨⟨dr, osr⟩, hw''⟩ := hw'
              subst hw''
              dsimp only
              obtain ⟨w9, hw9⟩ : ∃ w9, Go.Sort.grow (redrawn w8 dr) osr = w9 := ⟨_, rfl⟩
              have HO9 : Hid (Own n1 W0 (.pointer (some ⟨b, 0, none⟩)) ⟨T2, x + put.size, L⟩ w9) := by rw [← hw9]; exact own_step HO8.out (below_regrown w8 dr osr) hn1
              rw [hw9]
              clear hw9 q2 q5 HO8 X0 X1 X2 X3 X4 X5 X6
              go_wp2_with (go_at_call 14; refine (CR2.out _ _ HO9.out).mono ?_; clear CR2 HO9; rintro e w10 ⟨rfl, hO⟩; have HO : Hid (Own n1 W0 (.pointer (some ⟨b, 0, none⟩)) ⟨s, x + y, L⟩ w10) := hO; obtain ⟨z0, z1⟩ := HX.out _ hO.bel; clear hO)
              obtain ⟨q1, -⟩ := own_q HO.out
              have y0 := fun d os => cell_regrown z0 d os
              refine wp_region_quiet_below HM.out (by kernel_rfl) ?_
              repeat (go_big_quiet_step (fail))
              go_big_quiet_step (exact q1 _ _)
              repeat (go_big_quiet_step (fail))
              refine wpQuiet_nil ?_
              intro _ hw'
              obtain ⟨⟨ds, oss⟩, hw''⟩ := hw'
              subst hw''
              dsimp only
              have HB2 : Hid (Below n1 W0 (Go.Sort.grow (redrawn w10 ds) oss)) := HO.out.bel.trans ((below_regrown w10 ds oss).mono (Nat.le_trans hn1 HO.out.bel.size))
              go_wp2
              go_ret
              exact ⟨rfl, HEnd.out _ HB2.out⟩
  · simp only [if_neg hs] at CN
    have hs' : (L : Int) < s.size := by omega
    go_enter Tryd.func4, Tryd.ntmps4
    go_wp2_with (first
      | (go_at_call 5; refine CF.out.mono ?_; clear CF; rintro e w1 ⟨rfl, hb1⟩; have HB1 : Hid (Below n1 W0 w1) := hb1; obtain ⟨z0, z1⟩ := HX.out _ hb1; clear hb1)
      | (go_at_call 6; refine (CN.out w1 HB1.out).mono ?_; rintro e w2 ⟨rfl, hb2⟩; have HB2 : Hid (Below n1 W0 w2) := hb2; clear hb2 z0 z1; obtain ⟨z0, z1⟩ := HX.out _ HB2.out))
    go_ret
    exact ⟨rfl, HEnd.out _ HB2.out⟩

theorem walk_of (s : ByteArray) (m a c : Int) (put : ByteArray) (w : World) (hT : Lib.Utf8Tabs 1 2 w) (hlo0 : 1 < w.heap.size) (hlo1 : 2 < w.heap.size) (_z : -9223372036854775808 ≤ m ∧ m ≤ 9223372036854775807) (ha : -9223372036854775808 ≤ a ∧ a ≤ 9223372036854775807) (hc : -9223372036854775808 ≤ c ∧ c ≤ 9223372036854775807) (hp : put.size ≤ 140737488351232) :
    Calls Tryd.prog 4 #[.agg #[.string s, .int .i64 m], .int .i64 a, .int .i64 c, .string put] w fun e w' => e = .returned (.bool true) ∧ Below w.heap.size w w' := walk s m a c put ha hc hp w hT hlo0 hlo1
end Go.Proofs.YtgagpmeknpjkpaaDoor.gapBack
