/-
  Package layout's step: where a cluster of so many cells is laid, and the pen behind it. Conditions: the pen stands on a grid of that width, of at most 65535 columns; no more than two cells.
-/
import Derived.Test.YtoopbccpclgciaaDoorOStp
namespace Go.Proofs.YtoopbccpclgciaaDoor
open Go.RowKit
section
set_option maxRecDepth 100000
set_option maxHeartbeats 2000000
theorem stp_0 (r c W : Int) (hr0 : 0 ≤ r) (hr1 : r ≤ 1099511627776) (w : World) : Calls Tryd.prog 35 #[plv r c, .int .i64 0, .int .i64 W] w fun e w' => e = .returned (.tuple #[plv r c, plv (r + 1) 0]) ∧ Below w.heap.size w w' := by
  have H0 : Hid (Ox w #[.int .i64 r, .int .i64 c] #[.int .i64 0, .int .i64 0] #[.int .i64 0, .int .i64 0] (((w.alloc (.cells #[.int .i64 r, .int .i64 c] 28)).alloc (.cells #[.int .i64 0, .int .i64 0] 28)).alloc (.cells #[.int .i64 0, .int .i64 0] 28))) := ox0 w _ _ _
  have CB : Hid (∀ X : World, Calls Tryd.prog 56 #[plv r c] X fun e w' => e = .returned (plv (r + 1) 0) ∧ Below X.heap.size X w') := fun X => blw_any r c hr0 hr1 X
  unfold plv at CB ⊢
  go_enter Tryd.func35, Tryd.ntmps35
  go_wp2_with (fail)
  generalize ((w.alloc (.cells #[.int .i64 r, .int .i64 c] 28)).alloc (.cells #[.int .i64 0, .int .i64 0] 28)).alloc (.cells #[.int .i64 0, .int .i64 0] 28) = V0 at H0 ⊢
  obtain ⟨⟨p0, p1⟩, -⟩ := obox2 H0.out.h0
  obtain ⟨⟨q0, q1⟩, ⟨f0, f1⟩⟩ := obox2 H0.out.h1
  obtain ⟨⟨s0, s1⟩, ⟨g0, g1⟩⟩ := obox2 H0.out.h2
  go_region_with (go_at_call 56; refine (CB.out _).mono ?_; rintro e w1 ⟨rfl, hb⟩; have X1 : Hid (Ox w #[.int .i64 r, .int .i64 c] #[.int .i64 0, .int .i64 0] #[.int .i64 0, .int .i64 0] w1) := (H0.out.below (X := V0.drew) ⟨rfl, rfl, rfl, Nat.le_refl _, fun _ _ => rfl⟩).below hb; clear hb p0 p1 q0 q1 f0 f1 s0 s1 g0 g1; obtain ⟨⟨p0, p1⟩, -⟩ := obox2 X1.out.h0; obtain ⟨⟨q0, q1⟩, ⟨f0, f1⟩⟩ := obox2 X1.out.h1; obtain ⟨⟨s0, s1⟩, ⟨g0, g1⟩⟩ := obox2 X1.out.h2)
  all_goals
    go_wp2
    have Y := (((X1.out.set1' 0 (.int .i64 r)).set1' 1 (.int .i64 c)).set2 0 (.int .i64 (r + 1))).set2 1 (.int .i64 0)
    obtain ⟨⟨a0, a1⟩, -⟩ := obox2 Y.h1
    obtain ⟨⟨b0, b1⟩, -⟩ := obox2 Y.h2
    exact bodyPost_ret (v := .tuple #[.agg #[.int .i64 r, .int .i64 c], .agg #[.int .i64 (r + 1), .int .i64 0]]) (by simp [results, Tryd.results35, go_sem, a0, a1, b0, b1]) rfl ⟨rfl, Y.bel⟩
theorem stp_n (r c n W : Int) (hr0 : 0 ≤ r) (hr1 : r ≤ 1099511627770) (hc0 : 0 ≤ c) (hcW : c < W) (hn0 : 1 ≤ n) (hn2 : n ≤ 2) (hW : W ≤ 65535) (w : World) : Calls Tryd.prog 35 #[plv r c, .int .i64 n, .int .i64 W] w fun e w' => e = .returned (.tuple #[plv (stpI W r c n).1.1 (stpI W r c n).1.2, plv (stpI W r c n).2.1 (stpI W r c n).2.2]) ∧ Below w.heap.size w w' := by
  have H0 : Hid (Ox w #[.int .i64 r, .int .i64 c] #[.int .i64 0, .int .i64 0] #[.int .i64 0, .int .i64 0] (((w.alloc (.cells #[.int .i64 r, .int .i64 c] 28)).alloc (.cells #[.int .i64 0, .int .i64 0] 28)).alloc (.cells #[.int .i64 0, .int .i64 0] 28))) := ox0 w _ _ _
  have CB : Hid (∀ (r c : Int) (X : World), 0 ≤ r → r ≤ 1099511627776 → Calls Tryd.prog 56 #[.agg #[.int .i64 r, .int .i64 c]] X fun e w' => e = .returned (.agg #[.int .i64 (r + 1), .int .i64 0]) ∧ Below X.heap.size X w') := fun r c X h0 h1 => blw_any r c h0 h1 X
  obtain ⟨m, hm⟩ : ∃ m, min n W = m := ⟨_, rfl⟩
  have hm1 : 1 ≤ m := by omega
  have hm2 : m ≤ W := by omega
  have e0 : (n == 0) = false := by simp; omega
  have HS0 : Hid (stpI W r c n = (fitI W r c m, fulI W (fitI W r c m).1 ((fitI W r c m).2 + m))) := by
    show _ = _
    unfold stpI
    rw [if_neg (by omega), hm]
  have C0 : Hid (∀ X : World, Calls Tryd.prog 56 #[.agg #[.int .i64 r, .int .i64 c]] X fun e w' => e = .returned (.agg #[.int .i64 (r + 1), .int .i64 0]) ∧ Below X.heap.size X w') := fun X => CB.out r c X hr0 (by omega)
  obtain ⟨S, hS⟩ : ∃ S, stpI W r c n = S := ⟨_, rfl⟩
  unfold plv
  by_cases hA : W < c + m
  · have HS : Hid (stpI W r c n = ((r + 1, 0), fulI W (r + 1) m)) := by
      show _ = _
      rw [HS0.out]
      unfold fitI
      rw [if_pos hA]
      simp
    have C1 : Hid (∀ X : World, Calls Tryd.prog 56 #[.agg #[.int .i64 (r + 1), .int .i64 m]] X fun e w' => e = .returned (.agg #[.int .i64 (r + 1 + 1), .int .i64 0]) ∧ Below X.heap.size X w') := fun X => CB.out (r + 1) m X (by omega) (by omega)
    clear HS0 hS CB
    go_enter Tryd.func35, Tryd.ntmps35
    go_upto_region 3 with (fail)
    generalize ((w.alloc (.cells #[.int .i64 r, .int .i64 c] 28)).alloc (.cells #[.int .i64 0, .int .i64 0] 28)).alloc (.cells #[.int .i64 0, .int .i64 0] 28) = V0 at H0 ⊢
    obtain ⟨⟨p0, p1⟩, ⟨e0, e1⟩⟩ := obox2 H0.out.h0
    obtain ⟨⟨q0, q1⟩, ⟨f0, f1⟩⟩ := obox2 H0.out.h1
    obtain ⟨⟨s0, s1⟩, ⟨g0, g1⟩⟩ := obox2 H0.out.h2
    go_upto_region 6 with (go_at_call 56; refine (C0.out _).mono ?_; rintro e w1 ⟨rfl, hb⟩; have X1 : Hid (Ox w #[.int .i64 r, .int .i64 c] #[.int .i64 0, .int .i64 0] #[.int .i64 0, .int .i64 0] w1) := H0.out.below hb; clear p0 p1 e0 e1 q0 q1 f0 f1 s0 s1 g0 g1; clear hb; obtain ⟨⟨p0, p1⟩, ⟨e0, e1⟩⟩ := obox2 X1.out.h0; obtain ⟨⟨q0, q1⟩, ⟨f0, f1⟩⟩ := obox2 X1.out.h1; obtain ⟨⟨s0, s1⟩, ⟨g0, g1⟩⟩ := obox2 X1.out.h2)
    have H1 : Hid (Ox w #[.int .i64 (r + 1), .int .i64 0] #[.int .i64 0, .int .i64 0] #[.int .i64 0, .int .i64 0] ((w1.setCell ⟨w.heap.size, 0, none⟩ (.int .i64 (r + 1))).setCell ⟨w.heap.size, 1, none⟩ (.int .i64 0))) := (X1.out.set0 0 (.int .i64 (r + 1))).set0 1 (.int .i64 0)
    generalize (w1.setCell ⟨w.heap.size, 0, none⟩ (.int .i64 (r + 1))).setCell ⟨w.heap.size, 1, none⟩ (.int .i64 0) = V1 at H1 ⊢
    clear p0 p1 e0 e1 q0 q1 f0 f1 s0 s1 g0 g1
    clear X1 H0 C0 hm
    obtain ⟨⟨p0, p1⟩, ⟨e0, e1⟩⟩ := obox2 H1.out.h0
    obtain ⟨⟨q0, q1⟩, ⟨f0, f1⟩⟩ := obox2 H1.out.h1
    obtain ⟨⟨s0, s1⟩, ⟨g0, g1⟩⟩ := obox2 H1.out.h2
    by_cases hB : m = W
    · have eB : (m == W) = true := by simp [hB]
      have HX : Hid (stpI W r c n = ((r + 1, 0), (r + 1 + 1, 0))) := by
        show _ = _
        rw [HS.out]
        simp [fulI, hB]
      clear hB
      go_upto_region 8 with (fail)
      have H2 : Hid (Ox w #[.int .i64 (r + 1), .int .i64 (0)] #[.int .i64 0, .int .i64 0] #[.int .i64 (r + 1), .int .i64 (m)] ((V1.setCell ⟨w.heap.size + 1 + 1, 0, none⟩ (.int .i64 (r + 1))).setCell ⟨w.heap.size + 1 + 1, 1, none⟩ (.int .i64 (m)))) := (H1.out.set2 0 (.int .i64 (r + 1))).set2 1 (.int .i64 (m))
      generalize (V1.setCell ⟨w.heap.size + 1 + 1, 0, none⟩ (.int .i64 (r + 1))).setCell ⟨w.heap.size + 1 + 1, 1, none⟩ (.int .i64 (m)) = V2 at H2 ⊢
      clear p0 p1 e0 e1 q0 q1 f0 f1 s0 s1 g0 g1
      clear H1
      obtain ⟨⟨p0, p1⟩, ⟨e0, e1⟩⟩ := obox2 H2.out.h0
      obtain ⟨⟨q0, q1⟩, ⟨f0, f1⟩⟩ := obox2 H2.out.h1
      obtain ⟨⟨s0, s1⟩, ⟨g0, g1⟩⟩ := obox2 H2.out.h2
      go_upto_region 9 with (go_at_call 56; refine (C1.out _).mono ?_; rintro e w1 ⟨rfl, hb⟩; have X1 : Hid (Ox w #[.int .i64 (r + 1), .int .i64 (0)] #[.int .i64 0, .int .i64 0] #[.int .i64 (r + 1), .int .i64 (m)] w1) := H2.out.below hb; clear p0 p1 e0 e1 q0 q1 f0 f1 s0 s1 g0 g1; clear hb; obtain ⟨⟨p0, p1⟩, ⟨e0, e1⟩⟩ := obox2 X1.out.h0; obtain ⟨⟨q0, q1⟩, ⟨f0, f1⟩⟩ := obox2 X1.out.h1; obtain ⟨⟨s0, s1⟩, ⟨g0, g1⟩⟩ := obox2 X1.out.h2)
      have H3 : Hid (Ox w #[.int .i64 (r + 1), .int .i64 (0)] #[.int .i64 0, .int .i64 0] #[.int .i64 (r + 1 + 1), .int .i64 0] ((w1.setCell ⟨w.heap.size + 1 + 1, 0, none⟩ (.int .i64 (r + 1 + 1))).setCell ⟨w.heap.size + 1 + 1, 1, none⟩ (.int .i64 0))) := (X1.out.set2 0 (.int .i64 (r + 1 + 1))).set2 1 (.int .i64 0)
      generalize (w1.setCell ⟨w.heap.size + 1 + 1, 0, none⟩ (.int .i64 (r + 1 + 1))).setCell ⟨w.heap.size + 1 + 1, 1, none⟩ (.int .i64 0) = V3 at H3 ⊢
      clear p0 p1 e0 e1 q0 q1 f0 f1 s0 s1 g0 g1
      clear X1
      obtain ⟨⟨p0, p1⟩, ⟨e0, e1⟩⟩ := obox2 H3.out.h0
      obtain ⟨⟨q0, q1⟩, ⟨f0, f1⟩⟩ := obox2 H3.out.h1
      obtain ⟨⟨s0, s1⟩, ⟨g0, g1⟩⟩ := obox2 H3.out.h2
      go_region
      all_goals
        go_wp2
        have Y := (((H3.out.set1' 0 (.int .i64 (r + 1))).set1' 1 (.int .i64 (0))).set2 0 (.int .i64 (r + 1 + 1))).set2 1 (.int .i64 (0))
        obtain ⟨⟨a0, a1⟩, -⟩ := obox2 Y.h1
        obtain ⟨⟨b0, b1⟩, -⟩ := obox2 Y.h2
        exact bodyPost_ret (v := .tuple #[.agg #[.int .i64 (r + 1), .int .i64 (0)], .agg #[.int .i64 (r + 1 + 1), .int .i64 (0)]]) (by simp [results, Tryd.results35, go_sem, a0, a1, b0, b1]) rfl ⟨by rw [HX.out], by first | exact Y.bel | exact ⟨Y.bel.os, Y.bel.tape, Y.bel.output, Y.bel.size, Y.bel.block⟩⟩
    · have eB : (m == W) = false := by simp [hB]
      have HX : Hid (stpI W r c n = ((r + 1, 0), (r + 1, m))) := by
        show _ = _
        rw [HS.out]
        simp [fulI, hB]
      clear hB
      go_upto_region 9 with (fail)
      have H2 : Hid (Ox w #[.int .i64 (r + 1), .int .i64 (0)] #[.int .i64 0, .int .i64 0] #[.int .i64 (r + 1), .int .i64 (m)] ((V1.setCell ⟨w.heap.size + 1 + 1, 0, none⟩ (.int .i64 (r + 1))).setCell ⟨w.heap.size + 1 + 1, 1, none⟩ (.int .i64 (m)))) := (H1.out.set2 0 (.int .i64 (r + 1))).set2 1 (.int .i64 (m))
      generalize (V1.setCell ⟨w.heap.size + 1 + 1, 0, none⟩ (.int .i64 (r + 1))).setCell ⟨w.heap.size + 1 + 1, 1, none⟩ (.int .i64 (m)) = V2 at H2 ⊢
      clear p0 p1 e0 e1 q0 q1 f0 f1 s0 s1 g0 g1
      clear H1
      obtain ⟨⟨p0, p1⟩, ⟨e0, e1⟩⟩ := obox2 H2.out.h0
      obtain ⟨⟨q0, q1⟩, ⟨f0, f1⟩⟩ := obox2 H2.out.h1
      obtain ⟨⟨s0, s1⟩, ⟨g0, g1⟩⟩ := obox2 H2.out.h2
      go_region
      all_goals
        go_wp2
        have Y := (((H2.out.set1' 0 (.int .i64 (r + 1))).set1' 1 (.int .i64 (0))).set2 0 (.int .i64 (r + 1))).set2 1 (.int .i64 (m))
        obtain ⟨⟨a0, a1⟩, -⟩ := obox2 Y.h1
        obtain ⟨⟨b0, b1⟩, -⟩ := obox2 Y.h2
        exact bodyPost_ret (v := .tuple #[.agg #[.int .i64 (r + 1), .int .i64 (0)], .agg #[.int .i64 (r + 1), .int .i64 (m)]]) (by simp [results, Tryd.results35, go_sem, a0, a1, b0, b1]) rfl ⟨by rw [HX.out], by first | exact Y.bel | exact ⟨Y.bel.os, Y.bel.tape, Y.bel.output, Y.bel.size, Y.bel.block⟩⟩
  · have HS : Hid (stpI W r c n = ((r, c), fulI W r (c + m))) := by
      show _ = _
      rw [HS0.out]
      unfold fitI
      rw [if_neg hA]
    have C1 : Hid (∀ X : World, Calls Tryd.prog 56 #[.agg #[.int .i64 r, .int .i64 (c + m)]] X fun e w' => e = .returned (.agg #[.int .i64 (r + 1), .int .i64 0]) ∧ Below X.heap.size X w') := fun X => CB.out r (c + m) X hr0 (by omega)
    clear HS0 hS CB C0
    go_enter Tryd.func35, Tryd.ntmps35
    go_upto_region 3 with (fail)
    generalize ((w.alloc (.cells #[.int .i64 r, .int .i64 c] 28)).alloc (.cells #[.int .i64 0, .int .i64 0] 28)).alloc (.cells #[.int .i64 0, .int .i64 0] 28) = V0 at H0 ⊢
    obtain ⟨⟨p0, p1⟩, ⟨e0, e1⟩⟩ := obox2 H0.out.h0
    obtain ⟨⟨q0, q1⟩, ⟨f0, f1⟩⟩ := obox2 H0.out.h1
    obtain ⟨⟨s0, s1⟩, ⟨g0, g1⟩⟩ := obox2 H0.out.h2
    go_upto_region 6 with (fail)
    have H1 := H0
    generalize V0 = V1 at H1 p0 p1 e0 e1 q0 q1 f0 f1 s0 s1 g0 g1 ⊢
    clear p0 p1 e0 e1 q0 q1 f0 f1 s0 s1 g0 g1
    clear H0 hm
    obtain ⟨⟨p0, p1⟩, ⟨e0, e1⟩⟩ := obox2 H1.out.h0
    obtain ⟨⟨q0, q1⟩, ⟨f0, f1⟩⟩ := obox2 H1.out.h1
    obtain ⟨⟨s0, s1⟩, ⟨g0, g1⟩⟩ := obox2 H1.out.h2
    by_cases hB : c + m = W
    · have eB : (c + m == W) = true := by simp [hB]
      have HX : Hid (stpI W r c n = ((r, c), (r + 1, 0))) := by
        show _ = _
        rw [HS.out]
        simp [fulI, hB]
      clear hB
      go_upto_region 8 with (fail)
      have H2 : Hid (Ox w #[.int .i64 (r), .int .i64 (c)] #[.int .i64 0, .int .i64 0] #[.int .i64 (r), .int .i64 (c + m)] ((V1.setCell ⟨w.heap.size + 1 + 1, 0, none⟩ (.int .i64 (r))).setCell ⟨w.heap.size + 1 + 1, 1, none⟩ (.int .i64 (c + m)))) := (H1.out.set2 0 (.int .i64 (r))).set2 1 (.int .i64 (c + m))
      generalize (V1.setCell ⟨w.heap.size + 1 + 1, 0, none⟩ (.int .i64 (r))).setCell ⟨w.heap.size + 1 + 1, 1, none⟩ (.int .i64 (c + m)) = V2 at H2 ⊢
      clear p0 p1 e0 e1 q0 q1 f0 f1 s0 s1 g0 g1
      clear H1
      obtain ⟨⟨p0, p1⟩, ⟨e0, e1⟩⟩ := obox2 H2.out.h0
      obtain ⟨⟨q0, q1⟩, ⟨f0, f1⟩⟩ := obox2 H2.out.h1
      obtain ⟨⟨s0, s1⟩, ⟨g0, g1⟩⟩ := obox2 H2.out.h2
      go_upto_region 9 with (go_at_call 56; refine (C1.out _).mono ?_; rintro e w1 ⟨rfl, hb⟩; have X1 : Hid (Ox w #[.int .i64 (r), .int .i64 (c)] #[.int .i64 0, .int .i64 0] #[.int .i64 (r), .int .i64 (c + m)] w1) := H2.out.below hb; clear p0 p1 e0 e1 q0 q1 f0 f1 s0 s1 g0 g1; clear hb; obtain ⟨⟨p0, p1⟩, ⟨e0, e1⟩⟩ := obox2 X1.out.h0; obtain ⟨⟨q0, q1⟩, ⟨f0, f1⟩⟩ := obox2 X1.out.h1; obtain ⟨⟨s0, s1⟩, ⟨g0, g1⟩⟩ := obox2 X1.out.h2)
      have H3 : Hid (Ox w #[.int .i64 (r), .int .i64 (c)] #[.int .i64 0, .int .i64 0] #[.int .i64 (r + 1), .int .i64 0] ((w1.setCell ⟨w.heap.size + 1 + 1, 0, none⟩ (.int .i64 (r + 1))).setCell ⟨w.heap.size + 1 + 1, 1, none⟩ (.int .i64 0))) := (X1.out.set2 0 (.int .i64 (r + 1))).set2 1 (.int .i64 0)
      generalize (w1.setCell ⟨w.heap.size + 1 + 1, 0, none⟩ (.int .i64 (r + 1))).setCell ⟨w.heap.size + 1 + 1, 1, none⟩ (.int .i64 0) = V3 at H3 ⊢
      clear p0 p1 e0 e1 q0 q1 f0 f1 s0 s1 g0 g1
      clear X1
      obtain ⟨⟨p0, p1⟩, ⟨e0, e1⟩⟩ := obox2 H3.out.h0
      obtain ⟨⟨q0, q1⟩, ⟨f0, f1⟩⟩ := obox2 H3.out.h1
      obtain ⟨⟨s0, s1⟩, ⟨g0, g1⟩⟩ := obox2 H3.out.h2
      go_region
      all_goals
        go_wp2
        have Y := (((H3.out.set1' 0 (.int .i64 (r))).set1' 1 (.int .i64 (c))).set2 0 (.int .i64 (r + 1))).set2 1 (.int .i64 (0))
        obtain ⟨⟨a0, a1⟩, -⟩ := obox2 Y.h1
        obtain ⟨⟨b0, b1⟩, -⟩ := obox2 Y.h2
        exact bodyPost_ret (v := .tuple #[.agg #[.int .i64 (r), .int .i64 (c)], .agg #[.int .i64 (r + 1), .int .i64 (0)]]) (by simp [results, Tryd.results35, go_sem, a0, a1, b0, b1]) rfl ⟨by rw [HX.out], by first | exact Y.bel | exact ⟨Y.bel.os, Y.bel.tape, Y.bel.output, Y.bel.size, Y.bel.block⟩⟩
    · have eB : (c + m == W) = false := by simp [hB]
      have HX : Hid (stpI W r c n = ((r, c), (r, c + m))) := by
        show _ = _
        rw [HS.out]
        simp [fulI, hB]
      clear hB
      go_upto_region 9 with (fail)
      have H2 : Hid (Ox w #[.int .i64 (r), .int .i64 (c)] #[.int .i64 0, .int .i64 0] #[.int .i64 (r), .int .i64 (c + m)] ((V1.setCell ⟨w.heap.size + 1 + 1, 0, none⟩ (.int .i64 (r))).setCell ⟨w.heap.size + 1 + 1, 1, none⟩ (.int .i64 (c + m)))) := (H1.out.set2 0 (.int .i64 (r))).set2 1 (.int .i64 (c + m))
      generalize (V1.setCell ⟨w.heap.size + 1 + 1, 0, none⟩ (.int .i64 (r))).setCell ⟨w.heap.size + 1 + 1, 1, none⟩ (.int .i64 (c + m)) = V2 at H2 ⊢
      clear p0 p1 e0 e1 q0 q1 f0 f1 s0 s1 g0 g1
      clear H1
      obtain ⟨⟨p0, p1⟩, ⟨e0, e1⟩⟩ := obox2 H2.out.h0
      obtain ⟨⟨q0, q1⟩, ⟨f0, f1⟩⟩ := obox2 H2.out.h1
      obtain ⟨⟨s0, s1⟩, ⟨g0, g1⟩⟩ := obox2 H2.out.h2
      go_region
      all_goals
        go_wp2
        have Y := (((H2.out.set1' 0 (.int .i64 (r))).set1' 1 (.int .i64 (c))).set2 0 (.int .i64 (r))).set2 1 (.int .i64 (c + m))
        obtain ⟨⟨a0, a1⟩, -⟩ := obox2 Y.h1
        obtain ⟨⟨b0, b1⟩, -⟩ := obox2 Y.h2
        exact bodyPost_ret (v := .tuple #[.agg #[.int .i64 (r), .int .i64 (c)], .agg #[.int .i64 (r), .int .i64 (c + m)]]) (by simp [results, Tryd.results35, go_sem, a0, a1, b0, b1]) rfl ⟨by rw [HX.out], by first | exact Y.bel | exact ⟨Y.bel.os, Y.bel.tape, Y.bel.output, Y.bel.size, Y.bel.block⟩⟩
end
end Go.Proofs.YtoopbccpclgciaaDoor
