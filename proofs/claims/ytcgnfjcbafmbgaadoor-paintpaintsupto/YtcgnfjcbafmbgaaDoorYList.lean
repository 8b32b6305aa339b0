/-
  The walks of the document's own joined and List of package cluster: what CMath tells. Conditions: the text is so short that its list can be made.
-/
import Derived.Test.YtcgnfjcbafmbgaaDoorPkY
import Derived.Test.YtcgnfjcbafmbgaaDoorPkV
import Derived.Test.YtcgnfjcbafmbgaaDoorCRd
namespace Go.Proofs.YtcgnfjcbafmbgaaDoor
open Go.RowKit Go.Sort Bod Wid

theorem jn_eq (a b : Int) : jn a b = ((decide (a = 13) && decide (b = 10)) || (decide (cls b = 3) && (decide (cls a ≠ 1) && decide (cls a ≠ 2)))) := by
  unfold jn
  by_cases h : b = 10
  · subst h
    have : cls 10 = 1 := by decide +kernel
    rw [if_pos rfl, this]
    simp
  · rw [if_neg h]
    rw [Bool.eq_iff_iff]
    simp [h]

set_option maxRecDepth 100000 in
set_option maxHeartbeats 1000000 in
theorem rjoined_any (a b za zb : Int) (w : World) : Calls Tryd.prog 73 #[.agg #[.int .i32 a, .int .i64 za], .agg #[.int .i32 b, .int .i64 zb]] w fun e w' => e = .returned (.bool (jn a b)) ∧ Below w.heap.size w w' := by
  obtain ⟨W0, hW0⟩ : ∃ W0, (w.alloc (.cells #[.int .i32 a, .int .i64 za] 73)).alloc (.cells #[.int .i32 b, .int .i64 zb] 73) = W0 := ⟨_, rfl⟩
  have hB0 : Below w.heap.size w W0 := by rw [← hW0]; exact ((Below.refl _ w).alloc (Nat.le_refl _) _).alloc (by simp) _
  have hS0 : W0.heap.size = w.heap.size + 2 := by rw [← hW0]; simp
  have hc0 : W0.cell? ⟨w.heap.size, 0, none⟩ = some (.int .i32 a) := by rw [← hW0]; simp
  have hc1 : W0.cell? ⟨w.heap.size + 1, 0, none⟩ = some (.int .i32 b) := by rw [← hW0]; simp
  have HA : Hid (Calls Tryd.prog 51 #[.int .i32 a] W0 fun e w' => e = .returned (.int .i64 (cls a)) ∧ w'.cell? ⟨w.heap.size + 1, 0, none⟩ = some (.int .i32 b) ∧ Below w.heap.size w w') := (rclass_any a W0).mono fun e w' ⟨h1, h2⟩ => ⟨h1, (h2.cell (p := ⟨w.heap.size + 1, 0, none⟩) (by show w.heap.size + 1 < _; omega)).trans hc1, hB0.trans (h2.mono hB0.size)⟩
  have HB : Hid (∀ W, Below w.heap.size w W → Calls Tryd.prog 51 #[.int .i32 b] W fun e w' => e = .returned (.int .i64 (cls b)) ∧ Below w.heap.size w w') := fun W hb => (rclass_any b W).mono fun _ _ ⟨h1, h2⟩ => ⟨h1, hb.trans (h2.mono hb.size)⟩
  have HB0 : Hid (Below w.heap.size w W0) := hB0
  clear hS0 hB0
  rw [jn_eq]
  by_cases h1 : a = 13
  · by_cases h2 : b = 10
    · subst h1 h2
      clear HA HB
      go_enter Tryd.func73, Tryd.ntmps73
      go_wp2
      go_ret
      exact ⟨by simp, HB0.out⟩
    · have e2 : (b == 10) = false := by simpa using h2
      have e1 : (a == 13) = true := by simpa using h1
      rw [decide_eq_false h2, Bool.and_false, Bool.false_or]
      clear h1 h2
      generalize cls a = ka at HA
      generalize cls b = kb at HB
      by_cases h3 : kb = 3
      · subst h3
        by_cases h4 : ka = 1
        · subst h4
          go_enter Tryd.func73, Tryd.ntmps73
          go_wp2_with (first | (go_at_call 51; refine (Hid.out HA).mono ?_; clear HA; rintro e w1 ⟨rfl, c1, hb1⟩) | (go_at_call 51; refine (HB.out _ hb1).mono ?_; clear HB; rintro e w2 ⟨rfl, hb2⟩))
          go_ret
          exact ⟨by simp, hb2⟩
        · go_enter Tryd.func73, Tryd.ntmps73
          go_wp2_with (first | (go_at_call 51; refine (Hid.out HA).mono ?_; clear HA; rintro e w1 ⟨rfl, c1, hb1⟩) | (go_at_call 51; refine (HB.out _ hb1).mono ?_; clear HB; rintro e w2 ⟨rfl, hb2⟩))
          go_ret
          exact ⟨ret_bool (by rw [Bool.eq_iff_iff]; simp [h4]), hb2⟩
      · have e3 : (kb == 3) = false := by simpa using h3
        go_enter Tryd.func73, Tryd.ntmps73
        go_wp2_with (first | (go_at_call 51; refine (Hid.out HA).mono ?_; clear HA; rintro e w1 ⟨rfl, c1, hb1⟩) | (go_at_call 51; refine (HB.out _ hb1).mono ?_; clear HB; rintro e w2 ⟨rfl, hb2⟩))
        go_ret
        exact ⟨by simp [h3], hb2⟩
  · have e1 : (a == 13) = false := by simpa using h1
    rw [decide_eq_false h1, Bool.false_and, Bool.false_or]
    clear h1
    generalize cls a = ka at HA
    generalize cls b = kb at HB
    by_cases h3 : kb = 3
    · subst h3
      by_cases h4 : ka = 1
      · subst h4
        go_enter Tryd.func73, Tryd.ntmps73
        go_wp2_with (first | (go_at_call 51; refine (Hid.out HA).mono ?_; clear HA; rintro e w1 ⟨rfl, c1, hb1⟩) | (go_at_call 51; refine (HB.out _ hb1).mono ?_; clear HB; rintro e w2 ⟨rfl, hb2⟩))
        go_ret
        exact ⟨by simp, hb2⟩
      · go_enter Tryd.func73, Tryd.ntmps73
        go_wp2_with (first | (go_at_call 51; refine (Hid.out HA).mono ?_; clear HA; rintro e w1 ⟨rfl, c1, hb1⟩) | (go_at_call 51; refine (HB.out _ hb1).mono ?_; clear HB; rintro e w2 ⟨rfl, hb2⟩))
        go_ret
        exact ⟨ret_bool (by rw [Bool.eq_iff_iff]; simp [h4]), hb2⟩
    · have e3 : (kb == 3) = false := by simpa using h3
      go_enter Tryd.func73, Tryd.ntmps73
      go_wp2_with (first | (go_at_call 51; refine (Hid.out HA).mono ?_; clear HA; rintro e w1 ⟨rfl, c1, hb1⟩) | (go_at_call 51; refine (HB.out _ hb1).mono ?_; clear HB; rintro e w2 ⟨rfl, hb2⟩))
      go_ret
      exact ⟨by simp [h3], hb2⟩

/-- the clusters that have been met, the one under way last -/
def ll (s : ByteArray) (pre : List Nat) : List Clu := if pre = [] then [] else (st s pre).1 ++ [(st s pre).2.1]
theorem ll_all {s : ByteArray} (h : Inv s (offs s 0) s.size) : ll s (offs s 0) = cl s := by
  unfold ll
  by_cases h0 : 0 < s.size
  · rw [if_neg (offs_ne h0), inv_end h (offs_ne h0)]
  · rw [if_pos (offs_nil (by omega)), cl_nil (by omega)]
theorem ll_len {s : ByteArray} {pre : List Nat} : (st s pre).1.length + 1 ≤ pre.length + 1 := by
  have : ∀ (l : List Nat) (t : List Clu × Clu × Int), (l.foldl (step s) t).1.length ≤ l.length + t.1.length := fun l => by
    induction l with
    | nil => intro t; simp
    | cons x r ih =>
      intro t
      rw [List.foldl_cons]
      refine Nat.le_trans (ih _) ?_
      unfold step
      split
      · simp only [List.length_cons]; omega
      · split
        · simp only [List.length_cons]; omega
        · simp only [List.length_append, List.length_cons, List.length_nil]; omega
  have h := this pre ([], ⟨0, 0, 0, 0⟩, 0)
  unfold st
  simp only [List.length_nil] at h
  omega

/-- the last element of an own row is written -/
theorem row_last {W : World} {base g n cap : Nat} {e : TypeId} {xs : List Value} {a0 a1 a2 a3 : Value} (h : W.ownsRow base e 4 (.slice (some ⟨g, 0, none⟩) (n + 1) cap) (n + 1) (xs ++ [a0, a1, a2, a3])) (hn : xs.length = n * 4) (u0 u1 u2 u3 : Value) :
    ((((W.setCell ⟨g, n * 4, none⟩ u0).setCell ⟨g, n * 4 + 1, none⟩ u1).setCell ⟨g, n * 4 + 2, none⟩ u2).setCell ⟨g, n * 4 + 3, none⟩ u3).ownsRow base e 4 (.slice (some ⟨g, 0, none⟩) (n + 1) cap) (n + 1) (xs ++ [u0, u1, u2, u3]) := by
  rcases h.2 with ⟨h0, _⟩ | ⟨g', cap', cur, hv, hb, hg, hc1, hc2, hc3, hc4⟩
  · cases h0
  · cases hv
    refine ⟨by simp; omega, .inr ⟨g, cap, _, rfl, hb, set1 u3 (set1 u2 (set1 u1 (set1 u0 hg))), hc1, hc2, by simpa using hc3, ?_⟩⟩
    have hcur : cur.toList = xs ++ [a0, a1, a2, a3] ++ cur.toList.drop ((n + 1) * 4) := by rw [← hc4, List.take_append_drop]
    simp only [Array.toList_setIfInBounds]
    rw [hcur]
    generalize cur.toList.drop ((n + 1) * 4) = rest
    rw [← hn]
    simp only [List.append_assoc, List.cons_append, List.nil_append]
    rw [List.set_append_right _ _ (by omega), Nat.sub_self, List.set_cons_zero, List.set_append_right _ _ (by omega), show xs.length + 1 - xs.length = 1 by omega, List.set_append_right _ _ (by omega), show xs.length + 2 - xs.length = 2 by omega, List.set_append_right _ _ (by omega), show xs.length + 3 - xs.length = 3 by omega]
    simp only [List.set_cons_succ, List.set_cons_zero]
    rw [List.take_append, List.take_of_length_le (by omega)]
    rw [show (n + 1) * 4 - xs.length = 4 by omega]
    rfl
theorem grown4' (W : World) (b i : Nat) (u0 u1 u2 u3 : Value) : W.grownBy ((((W.setCell ⟨b, i, none⟩ u0).setCell ⟨b, i + 1, none⟩ u1).setCell ⟨b, i + 2, none⟩ u2).setCell ⟨b, i + 3, none⟩ u3) (some b) :=
  grown2 (grown2 (grown2 (gcell _ _ _ _) (gcell _ _ _ _)) (gcell _ _ _ _)) (gcell _ _ _ _)
end Go.Proofs.YtcgnfjcbafmbgaaDoor
