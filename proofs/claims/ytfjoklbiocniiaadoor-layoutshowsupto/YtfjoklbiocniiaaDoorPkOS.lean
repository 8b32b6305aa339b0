/-
  Package layout's counted, below and step. Conditions: those of each theorem.
-/
import Derived.Test.YtfjoklbiocniiaaDoorOMath
import Derived.Deep.DeepCutAuto
namespace Go.Proofs.YtfjoklbiocniiaaDoor
open Go.RowKit

def couW (x : Int) : Int := min (max x 1) 65535
theorem couW_in (x : Int) : 1 ≤ couW x ∧ couW x ≤ 65535 := by unfold couW; omega
/-- a place -/
def plv (r c : Int) : Value := .agg #[.int .i64 r, .int .i64 c]
/-- where a cluster is laid, and the pen behind it -/
def fitI (W r c m : Int) : Int × Int := if W < c + m then (r + 1, 0) else (r, c)
def fulI (W r c : Int) : Int × Int := if c = W then (r + 1, 0) else (r, c)
def stpI (W r c n : Int) : (Int × Int) × (Int × Int) :=
  if n = 0 then ((r, c), (r + 1, 0)) else (fitI W r c (min n W), fulI W (fitI W r c (min n W)).1 ((fitI W r c (min n W)).2 + min n W))
theorem obox2 {W : World} {b : Nat} {v0 v1 : Value} {t : TypeId} (h : W.heap[b]? = some (.cells #[v0, v1] t (0, 0))) : (W.cell? ⟨b, 0, none⟩ = some v0 ∧ W.cell? ⟨b, 1, none⟩ = some v1) ∧ W.frozen? ⟨b, 0, none⟩ = false ∧ W.frozen? ⟨b, 1, none⟩ = false :=
  ⟨⟨by simp [World.cell?, h], by simp [World.cell?, h]⟩, by simp [World.frozen?, h], by simp [World.frozen?, h]⟩
theorem oset_ne {W : World} {b i c : Nat} {u : Value} (h : b ≠ c) : (W.setCell ⟨b, i, none⟩ u).heap[c]? = W.heap[c]? := by
  unfold World.setCell; simp only; rw [Array.getElem?_modify, if_neg h]
/-- while step works: the pen's box and those of both answers -/
structure Ox (w : World) (p q s : Array Value) (W : World) : Prop where
  bel : Below w.heap.size w W
  h0 : W.heap[w.heap.size]? = some (.cells p 28 (0, 0))
  h1 : W.heap[w.heap.size + 1]? = some (.cells q 28 (0, 0))
  h2 : W.heap[w.heap.size + 1 + 1]? = some (.cells s 28 (0, 0))
section
variable {w W X : World} {p q s : Array Value}
theorem Ox.below (h : Ox w p q s W) (hb : Below W.heap.size W X) : Ox w p q s X :=
  have kp : ∀ {i : Nat} {o : Obj}, W.heap[i]? = some o → X.heap[i]? = some o := fun e => (hb.block _ (Array.getElem?_eq_some_iff.1 e).1).trans e
  ⟨h.bel.trans (hb.mono h.bel.size), kp h.h0, kp h.h1, kp h.h2⟩
theorem Ox.set0 (h : Ox w p q s W) (i : Nat) (u : Value) : Ox w (p.setIfInBounds i u) q s (W.setCell ⟨w.heap.size, i, none⟩ u) :=
  ⟨h.bel.setCell (p := ⟨w.heap.size, i, none⟩) (Nat.le_refl _) u, set1 u h.h0, (oset_ne (by omega)).trans h.h1, (oset_ne (by omega)).trans h.h2⟩
theorem Ox.set1' (h : Ox w p q s W) (i : Nat) (u : Value) : Ox w p (q.setIfInBounds i u) s (W.setCell ⟨w.heap.size + 1, i, none⟩ u) :=
  ⟨h.bel.setCell (p := ⟨w.heap.size + 1, i, none⟩) (Nat.le_succ _) u, (oset_ne (by omega)).trans h.h0, set1 u h.h1, (oset_ne (by omega)).trans h.h2⟩
theorem Ox.set2 (h : Ox w p q s W) (i : Nat) (u : Value) : Ox w p q (s.setIfInBounds i u) (W.setCell ⟨w.heap.size + 1 + 1, i, none⟩ u) :=
  ⟨h.bel.setCell (p := ⟨w.heap.size + 1 + 1, i, none⟩) (by show _ ≤ w.heap.size + 1 + 1; omega) u, (oset_ne (by omega)).trans h.h0, (oset_ne (by omega)).trans h.h1, set1 u h.h2⟩
end
theorem ox0 (w : World) (p q s : Array Value) : Ox w p q s (((w.alloc (.cells p 28)).alloc (.cells q 28)).alloc (.cells s 28)) := by
  have e1 : (w.alloc (.cells p 28)).heap.size = w.heap.size + 1 := by simp
  have e2 : ((w.alloc (.cells p 28)).alloc (.cells q 28)).heap.size = w.heap.size + 1 + 1 := by simp
  have b1 := (Below.refl _ w).alloc (Nat.le_refl _) (.cells p 28)
  have n1 := World.alloc_heap_new (w.alloc (.cells p 28)) (.cells q 28)
  have n2 := World.alloc_heap_new ((w.alloc (.cells p 28)).alloc (.cells q 28)) (.cells s 28)
  rw [e1] at n1
  rw [e2] at n2
  exact ⟨(b1.alloc b1.size _).alloc (by simp; omega) _, (Below.heap_alloc _ _ _ (by simp; omega)).trans ((Below.heap_alloc _ _ _ (by simp)).trans (World.alloc_heap_new _ _)), (Below.heap_alloc _ _ _ (by simp)).trans n1, n2⟩
section
set_option maxRecDepth 100000
set_option maxHeartbeats 2000000
theorem cou_any (x : Int) (w : World) : Calls Tryd.prog 29 #[.int .i64 x] w fun e w' => e = .returned (.int .i64 (couW x)) ∧ w' = w := by
  unfold couW
  go_enter Tryd.func29, Tryd.ntmps29
  go_wp2
  go_ret
  exact ⟨rfl, rfl⟩
theorem blw_any (r c : Int) (h0 : 0 ≤ r) (h1 : r ≤ 1099511627776) (w : World) : Calls Tryd.prog 50 #[plv r c] w fun e w' => e = .returned (plv (r + 1) 0) ∧ Below w.heap.size w w' := by
  have HB : Hid (∀ o o', Below w.heap.size w ((w.alloc o).alloc o')) := fun o o' => ((Below.refl _ w).alloc (Nat.le_refl _) o).alloc (by simp) o'
  unfold plv
  go_enter Tryd.func50, Tryd.ntmps50
  go_wp2
  exact bodyPost_ret (v := .agg #[.int .i64 (r + 1), .int .i64 0]) (by simp [results, Tryd.results50, go_sem]) rfl ⟨rfl, HB.out _ _⟩
end
end Go.Proofs.YtfjoklbiocniiaaDoor
namespace Go.Proofs.YtfjoklbiocniiaaDoor
open Go.RowKit
section
set_option maxRecDepth 100000
set_option maxHeartbeats 2000000
theorem stp_0 (r c W : Int) (hr0 : 0 ≤ r) (hr1 : r ≤ 1099511627776) (w : World) : Calls Tryd.prog 31 #[plv r c, .int .i64 0, .int .i64 W] w fun e w' => e = .returned (.tuple #[plv r c, plv (r + 1) 0]) ∧ Below w.heap.size w w' := by
  have H0 : Hid (Ox w #[.int .i64 r, .int .i64 c] #[.int .i64 0, .int .i64 0] #[.int .i64 0, .int .i64 0] (((w.alloc (.cells #[.int .i64 r, .int .i64 c] 28)).alloc (.cells #[.int .i64 0, .int .i64 0] 28)).alloc (.cells #[.int .i64 0, .int .i64 0] 28))) := ox0 w _ _ _
  have CB : Hid (∀ X : World, Calls Tryd.prog 50 #[plv r c] X fun e w' => e = .returned (plv (r + 1) 0) ∧ Below X.heap.size X w') := fun X => blw_any r c hr0 hr1 X
  unfold plv at CB ⊢
  go_enter Tryd.func31, Tryd.ntmps31
  go_wp2_with (fail)
  generalize ((w.alloc (.cells #[.int .i64 r, .int .i64 c] 28)).alloc (.cells #[.int .i64 0, .int .i64 0] 28)).alloc (.cells #[.int .i64 0, .int .i64 0] 28) = V0 at H0 ⊢
  obtain ⟨⟨p0, p1⟩, -⟩ := obox2 H0.out.h0
  obtain ⟨⟨q0, q1⟩, ⟨f0, f1⟩⟩ := obox2 H0.out.h1
  obtain ⟨⟨s0, s1⟩, ⟨g0, g1⟩⟩ := obox2 H0.out.h2
  go_region_with (go_at_call 50; refine (CB.out _).mono ?_; rintro e w1 ⟨rfl, hb⟩; have X1 : Hid (Ox w #[.int .i64 r, .int .i64 c] #[.int .i64 0, .int .i64 0] #[.int .i64 0, .int .i64 0] w1) := (H0.out.below (X := V0.drew) ⟨rfl, rfl, rfl, Nat.le_refl _, fun _ _ => rfl⟩).below hb; clear hb p0 p1 q0 q1 f0 f1 s0 s1 g0 g1; obtain ⟨⟨p0, p1⟩, -⟩ := obox2 X1.out.h0; obtain ⟨⟨q0, q1⟩, ⟨f0, f1⟩⟩ := obox2 X1.out.h1; obtain ⟨⟨s0, s1⟩, ⟨g0, g1⟩⟩ := obox2 X1.out.h2)
  all_goals
    go_wp2
    have Y := (((X1.out.set1' 0 (.int .i64 r)).set1' 1 (.int .i64 c)).set2 0 (.int .i64 (r + 1))).set2 1 (.int .i64 0)
    obtain ⟨⟨a0, a1⟩, -⟩ := obox2 Y.h1
    obtain ⟨⟨b0, b1⟩, -⟩ := obox2 Y.h2
    exact bodyPost_ret (v := .tuple #[.agg #[.int .i64 r, .int .i64 c], .agg #[.int .i64 (r + 1), .int .i64 0]]) (by simp [results, Tryd.results31, go_sem, a0, a1, b0, b1]) rfl ⟨rfl, Y.bel⟩
theorem stp_n (r c n W : Int) (hr0 : 0 ≤ r) (hr1 : r ≤ 1099511627770) (hc0 : 0 ≤ c) (hcW : c < W) (hn0 : 1 ≤ n) (hn2 : n ≤ 2) (hW : W ≤ 65535) (w : World) : Calls Tryd.prog 31 #[plv r c, .int .i64 n, .int .i64 W] w fun e w' => e = .returned (.tuple #[plv (stpI W r c n).1.1 (stpI W r c n).1.2, plv (stpI W r c n).2.1 (stpI W r c n).2.2]) ∧ Below w.heap.size w w' := by
  have H0 : Hid (Ox w #[.int .i64 r, .int .i64 c] #[.int .i64 0, .int .i64 0] #[.int .i64 0, .int .i64 0] (((w.alloc (.cells #[.int .i64 r, .int .i64 c] 28)).alloc (.cells #[.int .i64 0, .int .i64 0] 28)).alloc (.cells #[.int .i64 0, .int .i64 0] 28))) := ox0 w _ _ _
  have CB : Hid (∀ (r c : Int) (X : World), 0 ≤ r → r ≤ 1099511627776 → Calls Tryd.prog 50 #[.agg #[.int .i64 r, .int .i64 c]] X fun e w' => e = .returned (.agg #[.int .i64 (r + 1), .int .i64 0]) ∧ Below X.heap.size X w') := fun r c X h0 h1 => blw_any r c h0 h1 X
  obtain ⟨m, hm⟩ : ∃ m, min n W = m := ⟨_, rfl⟩
  have hm1 : 1 ≤ m := by omega
  have hm2 : m ≤ W := by omega
  have e0 : (n == 0) = false := by simp; omega
  have HS0 : Hid (stpI W r c n = (fitI W r c m, fulI W (fitI W r c m).1 ((fitI W r c m).2 + m))) := by
    show _ = _
    unfold stpI
    rw [if_neg (by omega), hm]
  have C0 : Hid (∀ X : World, Calls Tryd.prog 50 #[.agg #[.int .i64 r, .int .i64 c]] X fun e w' => e = .returned (.agg #[.int .i64 (r + 1), .int .i64 0]) ∧ Below X.heap.size X w') := fun X => CB.out r c X hr0 (by omega)
  obtain ⟨S, hS⟩ : ∃ S, stpI W r c n = S := ⟨_, rfl⟩
  unfold plv
  by_cases hA : W < c + m
  · have HS : Hid (stpI W r c n = ((r + 1, 0), fulI W (r + 1) m)) := by
      show _ = _
      rw [HS0.out]
      unfold fitI
      rw [if_pos hA]
      simp
    have C1 : Hid (∀ X : World, Calls Tryd.prog 50 #[.agg #[.int .i64 (r + 1), .int .i64 m]] X fun e w' => e = .returned (.agg #[.int .i64 (r + 1 + 1), .int .i64 0]) ∧ Below X.heap.size X w') := fun X => CB.out (r + 1) m X (by omega) (by omega)
    clear HS0 hS CB
    go_enter Tryd.func31, Tryd.ntmps31
    go_upto_region 3 with (fail)
    generalize ((w.alloc (.cells #[.int .i64 r, .int .i64 c] 28)).alloc (.cells #[.int .i64 0, .int .i64 0] 28)).alloc (.cells #[.int .i64 0, .int .i64 0] 28) = V0 at H0 ⊢
    obtain ⟨⟨p0, p1⟩, ⟨e0, e1⟩⟩ := obox2 H0.out.h0
    obtain ⟨⟨q0, q1⟩, ⟨f0, f1⟩⟩ := obox2 H0.out.h1
    obtain ⟨⟨s0, s1⟩, ⟨g0, g1⟩⟩ := obox2 H0.out.h2
    go_upto_region 6 with (go_at_call 50; refine (C0.out _).mono ?_; rintro e w1 ⟨rfl, hb⟩; have X1 : Hid (Ox w #[.int .i64 r, .int .i64 c] #[.int .i64 0, .int .i64 0] #[.int .i64 0, .int .i64 0] w1) := H0.out.below hb; clear p0 p1 e0 e1 q0 q1 f0 f1 s0 s1 g0 g1; clear hb; obtain ⟨⟨p0, p1⟩, ⟨e0, e1⟩⟩ := obox2 X1.out.h0; obtain ⟨⟨q0, q1⟩, ⟨f0, f1⟩⟩ := obox2 X1.out.h1; obtain ⟨⟨s0, s1⟩, ⟨g0, g1⟩⟩ := obox2 X1.out.h2)
    have H1 : Hid (Ox w #[.int .i64 (r + 1), .int .i64 0] #[.int .i64 0, .int .i64 0] #[.int .i64 0, .int .i64 0] ((w1.setCell ⟨w.heap.size, 0, none⟩ (.int .i64 (r + 1))).setCell ⟨w.heap.size, 1, none⟩ (.int .i64 0))) := (X1.out.set0 0 (.int .i64 (r + 1))).set0 1 (.int .i64 0)
    generalize (w1.setCell ⟨w.heap.size, 0, none⟩ (.int .i64 (r + 1))).setCell ⟨w.heap.size, 1, none⟩ (.int .i64 0) = V1 at H1 ⊢
    clear p0 p1 e0 e1 q0 q1 f0 f1 s0 s1 g0 g1
    clear X1 H0 C0 hm
    obtain ⟨⟨p0, p1⟩, ⟨e0, e1⟩⟩ := obox2 H1.out.h0
    obtain ⟨⟨q0, q1⟩, ⟨f0, f1⟩⟩ := obox2 H1.out.h1
    obtain ⟨⟨s0, s1⟩, ⟨g0, g1⟩⟩ := obox2 H1.out.h2
    by_cases hB : m = W
    · have eB : (m == W) = true := by simp [hB]
      have HX : Hid (stpI W r c n = ((r + 1, 0), (r + 1 + 1, 0))) := by
        show _ = _
        rw [HS.out]
        simp [fulI, hB]
      clear hB
      go_upto_region 8 with (fail)
      have H2 : Hid (Ox w #[.int .i64 (r + 1), .int .i64 (0)] #[.int .i64 0, .int .i64 0] #[.int .i64 (r + 1), .int .i64 (m)] ((V1.setCell ⟨w.heap.size + 1 + 1, 0, none⟩ (.int .i64 (r + 1))).setCell ⟨w.heap.size + 1 + 1, 1, none⟩ (.int .i64 (m)))) := (H1.out.set2 0 (.int .i64 (r + 1))).set2 1 (.int .i64 (m))
      generalize (V1.setCell ⟨w.heap.size + 1 + 1, 0, none⟩ (.int .i64 (r + 1))).setCell ⟨w.heap.size + 1 + 1, 1, none⟩ (.int .i64 (m)) = V2 at H2 ⊢
      clear p0 p1 e0 e1 q0 q1 f0 f1 s0 s1 g0 g1
      clear H1
      obtain ⟨⟨p0, p1⟩, ⟨e0, e1⟩⟩ := obox2 H2.out.h0
      obtain ⟨⟨q0, q1⟩, ⟨f0, f1⟩⟩ := obox2 H2.out.h1
      obtain ⟨⟨s0, s1⟩, ⟨g0, g1⟩⟩ := obox2 H2.out.h2
      go_upto_region 9 with (go_at_call 50; refine (C1.out _).mono ?_; rintro e w1 ⟨rfl, hb⟩; have X1 : Hid (Ox w #[.int .i64 (r + 1), .int .i64 (0)] #[.int .i64 0, .int .i64 0] #[.int .i64 (r + 1), .int .i64 (m)] w1) := H2.out.below hb; clear p0 p1 e0 e1 q0 q1 f0 f1 s0 s1 g0 g1; clear hb; obtain ⟨⟨p0, p1⟩, ⟨e0, e1⟩⟩ := obox2 X1.out.h0; obtain ⟨⟨q0, q1⟩, ⟨f0, f1⟩⟩ := obox2 X1.out.h1; obtain ⟨⟨s0, s1⟩, ⟨g0, g1⟩⟩ := obox2 X1.out.h2)
      have H3 : Hid (Ox w #[.int .i64 (r + 1), .int .i64 (0)] #[.int .i64 0, .int .i64 0] #[.int .i64 (r + 1 + 1), .int .i64 0] ((w1.setCell ⟨w.heap.size + 1 + 1, 0, none⟩ (.int .i64 (r + 1 + 1))).setCell ⟨w.heap.size + 1 + 1, 1, none⟩ (.int .i64 0))) := (X1.out.set2 0 (.int .i64 (r + 1 + 1))).set2 1 (.int .i64 0)
      generalize (w1.setCell ⟨w.heap.size + 1 + 1, 0, none⟩ (.int .i64 (r + 1 + 1))).setCell ⟨w.heap.size + 1 + 1, 1, none⟩ (.int .i64 0) = V3 at H3 ⊢
      clear p0 p1 e0 e1 q0 q1 f0 f1 s0 s1 g0 g1
      clear X1
      obtain ⟨⟨p0, p1⟩, ⟨e0, e1⟩⟩ := obox2 H3.out.h0
      obtain ⟨⟨q0, q1⟩, ⟨f0, f1⟩⟩ := obox2 H3.out.h1
      obtain ⟨⟨s0, s1⟩, ⟨g0, g1⟩⟩ := obox2 H3.out.h2
      go_region
      all_goals
        go_wp2
        have Y := (((H3.out.set1' 0 (.int .i64 (r + 1))).set1' 1 (.int .i64 (0))).set2 0 (.int .i64 (r + 1 + 1))).set2 1 (.int .i64 (0))
        obtain ⟨⟨a0, a1⟩, -⟩ := obox2 Y.h1
        obtain ⟨⟨b0, b1⟩, -⟩ := obox2 Y.h2
        exact bodyPost_ret (v := .tuple #[.agg #[.int .i64 (r + 1), .int .i64 (0)], .agg #[.int .i64 (r + 1 + 1), .int .i64 (0)]]) (by simp [results, Tryd.results31, go_sem, a0, a1, b0, b1]) rfl ⟨by rw [HX.out], by first | exact Y.bel | exact ⟨Y.bel.os, Y.bel.tape, Y.bel.output, Y.bel.size, Y.bel.block⟩⟩
    · have eB : (m == W) = false := by simp [hB]
      have HX : Hid (stpI W r c n = ((r + 1, 0), (r + 1, m))) := by
        show _ = _
        rw [HS.out]
        simp [fulI, hB]
      clear hB
      go_upto_region 9 with (fail)
      have H2 : Hid (Ox w #[.int .i64 (r + 1), .int .i64 (0)] #[.int .i64 0, .int .i64 0] #[.int .i64 (r + 1), .int .i64 (m)] ((V1.setCell ⟨w.heap.size + 1 + 1, 0, none⟩ (.int .i64 (r + 1))).setCell ⟨w.heap.size + 1 + 1, 1, none⟩ (.int .i64 (m)))) := (H1.out.set2 0 (.int .i64 (r + 1))).set2 1 (.int .i64 (m))
      generalize (V1.setCell ⟨w.heap.size + 1 + 1, 0, none⟩ (.int .i64 (r + 1))).setCell ⟨w.heap.size + 1 + 1, 1, none⟩ (.int .i64 (m)) = V2 at H2 ⊢
      clear p0 p1 e0 e1 q0 q1 f0 f1 s0 s1 g0 g1
      clear H1
      obtain ⟨⟨p0, p1⟩, ⟨e0, e1⟩⟩ := obox2 H2.out.h0
      obtain ⟨⟨q0, q1⟩, ⟨f0, f1⟩⟩ := obox2 H2.out.h1
      obtain ⟨⟨s0, s1⟩, ⟨g0, g1⟩⟩ := obox2 H2.out.h2
      go_region
      all_goals
        go_wp2
        have Y := (((H2.out.set1' 0 (.int .i64 (r + 1))).set1' 1 (.int .i64 (0))).set2 0 (.int .i64 (r + 1))).set2 1 (.int .i64 (m))
        obtain ⟨⟨a0, a1⟩, -⟩ := obox2 Y.h1
        obtain ⟨⟨b0, b1⟩, -⟩ := obox2 Y.h2
        exact bodyPost_ret (v := .tuple #[.agg #[.int .i64 (r + 1), .int .i64 (0)], .agg #[.int .i64 (r + 1), .int .i64 (m)]]) (by simp [results, Tryd.results31, go_sem, a0, a1, b0, b1]) rfl ⟨by rw [HX.out], by first | exact Y.bel | exact ⟨Y.bel.os, Y.bel.tape, Y.bel.output, Y.bel.size, Y.bel.block⟩⟩
  · have HS : Hid (stpI W r c n = ((r, c), fulI W r (c + m))) := by
      show _ = _
      rw [HS0.out]
      unfold fitI
      rw [if_neg hA]
    have C1 : Hid (∀ X : World, Calls Tryd.prog 50 #[.agg #[.int .i64 r, .int .i64 (c + m)]] X fun e w' => e = .returned (.agg #[.int .i64 (r + 1), .int .i64 0]) ∧ Below X.heap.size X w') := fun X => CB.out r (c + m) X hr0 (by omega)
    clear HS0 hS CB C0
    go_enter Tryd.func31, Tryd.ntmps31
    go_upto_region 3 with (fail)
    generalize ((w.alloc (.cells #[.int .i64 r, .int .i64 c] 28)).alloc (.cells #[.int .i64 0, .int .i64 0] 28)).alloc (.cells #[.int .i64 0, .int .i64 0] 28) = V0 at H0 ⊢
    obtain ⟨⟨p0, p1⟩, ⟨e0, e1⟩⟩ := obox2 H0.out.h0
    obtain ⟨⟨q0, q1⟩, ⟨f0, f1⟩⟩ := obox2 H0.out.h1
    obtain ⟨⟨s0, s1⟩, ⟨g0, g1⟩⟩ := obox2 H0.out.h2
    go_upto_region 6 with (fail)
    have H1 := H0
    generalize V0 = V1 at H1 p0 p1 e0 e1 q0 q1 f0 f1 s0 s1 g0 g1 ⊢
    clear p0 p1 e0 e1 q0 q1 f0 f1 s0 s1 g0 g1
    clear H0 hm
    obtain ⟨⟨p0, p1⟩, ⟨e0, e1⟩⟩ := obox2 H1.out.h0
    obtain ⟨⟨q0, q1⟩, ⟨f0, f1⟩⟩ := obox2 H1.out.h1
    obtain ⟨⟨s0, s1⟩, ⟨g0, g1⟩⟩ := obox2 H1.out.h2
    by_cases hB : c + m = W
    · have eB : (c + m == W) = true := by simp [hB]
      have HX : Hid (stpI W r c n = ((r, c), (r + 1, 0))) := by
        show _ = _
        rw [HS.out]
        simp [fulI, hB]
      clear hB
      go_upto_region 8 with (fail)
      have H2 : Hid (Ox w #[.int .i64 (r), .int .i64 (c)] #[.int .i64 0, .int .i64 0] #[.int .i64 (r), .int .i64 (c + m)] ((V1.setCell ⟨w.heap.size + 1 + 1, 0, none⟩ (.int .i64 (r))).setCell ⟨w.heap.size + 1 + 1, 1, none⟩ (.int .i64 (c + m)))) := (H1.out.set2 0 (.int .i64 (r))).set2 1 (.int .i64 (c + m))
      generalize (V1.setCell ⟨w.heap.size + 1 + 1, 0, none⟩ (.int .i64 (r))).setCell ⟨w.heap.size + 1 + 1, 1, none⟩ (.int .i64 (c + m)) = V2 at H2 ⊢
      clear p0 p1 e0 e1 q0 q1 f0 f1 s0 s1 g0 g1
      clear H1
      obtain ⟨⟨p0, p1⟩, ⟨e0, e1⟩⟩ := obox2 H2.out.h0
      obtain ⟨⟨q0, q1⟩, ⟨f0, f1⟩⟩ := obox2 H2.out.h1
      obtain ⟨⟨s0, s1⟩, ⟨g0, g1⟩⟩ := obox2 H2.out.h2
      go_upto_region 9 with (go_at_call 50; refine (C1.out _).mono ?_; rintro e w1 ⟨rfl, hb⟩; have X1 : Hid (Ox w #[.int .i64 (r), .int .i64 (c)] #[.int .i64 0, .int .i64 0] #[.int .i64 (r), .int .i64 (c + m)] w1) := H2.out.below hb; clear p0 p1 e0 e1 q0 q1 f0 f1 s0 s1 g0 g1; clear hb; obtain ⟨⟨p0, p1⟩, ⟨e0, e1⟩⟩ := obox2 X1.out.h0; obtain ⟨⟨q0, q1⟩, ⟨f0, f1⟩⟩ := obox2 X1.out.h1; obtain ⟨⟨s0, s1⟩, ⟨g0, g1⟩⟩ := obox2 X1.out.h2)
      have H3 : Hid (Ox w #[.int .i64 (r), .int .i64 (c)] #[.int .i64 0, .int .i64 0] #[.int .i64 (r + 1), .int .i64 0] ((w1.setCell ⟨w.heap.size + 1 + 1, 0, none⟩ (.int .i64 (r + 1))).setCell ⟨w.heap.size + 1 + 1, 1, none⟩ (.int .i64 0))) := (X1.out.set2 0 (.int .i64 (r + 1))).set2 1 (.int .i64 0)
      generalize (w1.setCell ⟨w.heap.size + 1 + 1, 0, none⟩ (.int .i64 (r + 1))).setCell ⟨w.heap.size + 1 + 1, 1, none⟩ (.int .i64 0) = V3 at H3 ⊢
      clear p0 p1 e0 e1 q0 q1 f0 f1 s0 s1 g0 g1
      clear X1
      obtain ⟨⟨p0, p1⟩, ⟨e0, e1⟩⟩ := obox2 H3.out.h0
      obtain ⟨⟨q0, q1⟩, ⟨f0, f1⟩⟩ := obox2 H3.out.h1
      obtain ⟨⟨s0, s1⟩, ⟨g0, g1⟩⟩ := obox2 H3.out.h2
      go_region
      all_goals
        go_wp2
        have Y := (((H3.out.set1' 0 (.int .i64 (r))).set1' 1 (.int .i64 (c))).set2 0 (.int .i64 (r + 1))).set2 1 (.int .i64 (0))
        obtain ⟨⟨a0, a1⟩, -⟩ := obox2 Y.h1
        obtain ⟨⟨b0, b1⟩, -⟩ := obox2 Y.h2
        exact bodyPost_ret (v := .tuple #[.agg #[.int .i64 (r), .int .i64 (c)], .agg #[.int .i64 (r + 1), .int .i64 (0)]]) (by simp [results, Tryd.results31, go_sem, a0, a1, b0, b1]) rfl ⟨by rw [HX.out], by first | exact Y.bel | exact ⟨Y.bel.os, Y.bel.tape, Y.bel.output, Y.bel.size, Y.bel.block⟩⟩
    · have eB : (c + m == W) = false := by simp [hB]
      have HX : Hid (stpI W r c n = ((r, c), (r, c + m))) := by
        show _ = _
        rw [HS.out]
        simp [fulI, hB]
      clear hB
      go_upto_region 9 with (fail)
      have H2 : Hid (Ox w #[.int .i64 (r), .int .i64 (c)] #[.int .i64 0, .int .i64 0] #[.int .i64 (r), .int .i64 (c + m)] ((V1.setCell ⟨w.heap.size + 1 + 1, 0, none⟩ (.int .i64 (r))).setCell ⟨w.heap.size + 1 + 1, 1, none⟩ (.int .i64 (c + m)))) := (H1.out.set2 0 (.int .i64 (r))).set2 1 (.int .i64 (c + m))
      generalize (V1.setCell ⟨w.heap.size + 1 + 1, 0, none⟩ (.int .i64 (r))).setCell ⟨w.heap.size + 1 + 1, 1, none⟩ (.int .i64 (c + m)) = V2 at H2 ⊢
      clear p0 p1 e0 e1 q0 q1 f0 f1 s0 s1 g0 g1
      clear H1
      obtain ⟨⟨p0, p1⟩, ⟨e0, e1⟩⟩ := obox2 H2.out.h0
      obtain ⟨⟨q0, q1⟩, ⟨f0, f1⟩⟩ := obox2 H2.out.h1
      obtain ⟨⟨s0, s1⟩, ⟨g0, g1⟩⟩ := obox2 H2.out.h2
      go_region
      all_goals
        go_wp2
        have Y := (((H2.out.set1' 0 (.int .i64 (r))).set1' 1 (.int .i64 (c))).set2 0 (.int .i64 (r))).set2 1 (.int .i64 (c + m))
        obtain ⟨⟨a0, a1⟩, -⟩ := obox2 Y.h1
        obtain ⟨⟨b0, b1⟩, -⟩ := obox2 Y.h2
        exact bodyPost_ret (v := .tuple #[.agg #[.int .i64 (r), .int .i64 (c)], .agg #[.int .i64 (r), .int .i64 (c + m)]]) (by simp [results, Tryd.results31, go_sem, a0, a1, b0, b1]) rfl ⟨by rw [HX.out], by first | exact Y.bel | exact ⟨Y.bel.os, Y.bel.tape, Y.bel.output, Y.bel.size, Y.bel.block⟩⟩
end
end Go.Proofs.YtfjoklbiocniiaaDoor
namespace Go.Proofs.YtfjoklbiocniiaaDoor
open Go.RowKit
theorem stp_any (r c n W : Int) (hr0 : 0 ≤ r) (hr1 : r ≤ 1099511627770) (hc0 : 0 ≤ c) (hcW : c < W) (hn0 : 0 ≤ n) (hn2 : n ≤ 2) (hW : W ≤ 65535) (w : World) : Calls Tryd.prog 31 #[plv r c, .int .i64 n, .int .i64 W] w fun e w' => e = .returned (.tuple #[plv (stpI W r c n).1.1 (stpI W r c n).1.2, plv (stpI W r c n).2.1 (stpI W r c n).2.2]) ∧ Below w.heap.size w w' := by
  by_cases h : n = 0
  · subst h
    have := stp_0 r c W hr0 (by omega) w
    unfold stpI
    rw [if_pos rfl]
    exact this
  · exact stp_n r c n W hr0 hr1 hc0 hcW (by omega) hn2 hW w
/-- step is what the plain state does with its pen -/
theorem stpI_L (W : Nat) (s : Lst) (u : Cu) : stpI W s.rows.length s.col u.n = (if u.n = 0 then ((s.rows.length : Int), (s.col : Int)) else (((fitS W (min u.n W) s).rows.length : Int), ((fitS W (min u.n W) s).col : Int)), (((stpL W s u).rows.length : Int), ((stpL W s u).col : Int))) := by
  unfold stpI stpL
  by_cases h : u.n = 0
  · rw [if_pos (by omega), if_pos h, if_pos h]
    simp [dwn]
  · rw [if_neg (by omega), if_neg h, if_neg h]
    have hm : min (u.n : Int) W = ((min u.n W : Nat) : Int) := by omega
    rw [hm]
    generalize min u.n W = m
    have hf : fitI W s.rows.length s.col m = (((fitS W m s).rows.length : Int), ((fitS W m s).col : Int)) := by
      unfold fitI fitS
      by_cases hA : W < s.col + m
      · rw [if_pos (by omega), if_pos hA]
        simp [dwn]
      · rw [if_neg (by omega), if_neg hA]
    rw [hf]
    generalize fitS W m s = t
    simp only [Prod.mk.injEq, true_and]
    unfold fulI fulS
    by_cases hB : t.col + m = W
    · rw [if_pos (by omega), if_pos hB]
      simp [dwn]
    · rw [if_neg (by omega), if_neg hB]
      simp
end Go.Proofs.YtfjoklbiocniiaaDoor
