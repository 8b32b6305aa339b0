/-
  The document's own package cluster: List, Next, Prev, Snap. Conditions: those of each theorem.
-/
import Derived.Test.YtdggbnkhbmffoaaGreatDoorPkY
import Derived.Test.YtdggbnkhbmffoaaGreatDoorPkV
import Derived.Test.YtdggbnkhbmffoaaGreatDoorCRd
import Derived.Deep.RegionHeld3
import Derived.BigQuiet
import Derived.Test.YtdggbnkhbmffoaaGreatDoorPkB
namespace Go.Proofs.YtdggbnkhbmffoaaGreatDoor
open Go.RowKit Go.Sort Bod Wid

theorem jn_eq (a b : Int) : jn a b = ((decide (a = 13) && decide (b = 10)) || (decide (cls b = 3) && (decide (cls a ≠ 1) && decide (cls a ≠ 2)))) := by
  unfold jn
  by_cases h : b = 10
  · subst h
    have : cls 10 = 1 := by decide +kernel
    rw [if_pos rfl, this]
    simp
  · rw [if_neg h]
    rw [Bool.eq_iff_iff]
    simp [h]

set_option maxRecDepth 100000 in
set_option maxHeartbeats 1000000 in
theorem rjoined_any (a b za zb : Int) (w : World) : Calls Tryz.prog 65 #[.agg #[.int .i32 a, .int .i64 za], .agg #[.int .i32 b, .int .i64 zb]] w fun e w' => e = .returned (.bool (jn a b)) ∧ Below w.heap.size w w' := by
  obtain ⟨W0, hW0⟩ : ∃ W0, (w.alloc (.cells #[.int .i32 a, .int .i64 za] 83)).alloc (.cells #[.int .i32 b, .int .i64 zb] 83) = W0 := ⟨_, rfl⟩
  have hB0 : Below w.heap.size w W0 := by rw [← hW0]; exact ((Below.refl _ w).alloc (Nat.le_refl _) _).alloc (by simp) _
  have hS0 : W0.heap.size = w.heap.size + 2 := by rw [← hW0]; simp
  have hc0 : W0.cell? ⟨w.heap.size, 0, none⟩ = some (.int .i32 a) := by rw [← hW0]; simp
  have hc1 : W0.cell? ⟨w.heap.size + 1, 0, none⟩ = some (.int .i32 b) := by rw [← hW0]; simp
  have HA : Hid (Calls Tryz.prog 66 #[.int .i32 a] W0 fun e w' => e = .returned (.int .i64 (cls a)) ∧ w'.cell? ⟨w.heap.size + 1, 0, none⟩ = some (.int .i32 b) ∧ Below w.heap.size w w') := (rclass_any a W0).mono fun e w' ⟨h1, h2⟩ => ⟨h1, (h2.cell (p := ⟨w.heap.size + 1, 0, none⟩) (by show w.heap.size + 1 < _; omega)).trans hc1, hB0.trans (h2.mono hB0.size)⟩
  have HB : Hid (∀ W, Below w.heap.size w W → Calls Tryz.prog 66 #[.int .i32 b] W fun e w' => e = .returned (.int .i64 (cls b)) ∧ Below w.heap.size w w') := fun W hb => (rclass_any b W).mono fun _ _ ⟨h1, h2⟩ => ⟨h1, hb.trans (h2.mono hb.size)⟩
  have HB0 : Hid (Below w.heap.size w W0) := hB0
  clear hS0 hB0
  rw [jn_eq]
  by_cases h1 : a = 13
  · by_cases h2 : b = 10
    · subst h1 h2
      clear HA HB
      go_enter Tryz.func65, Tryz.ntmps65
      go_wp2
      go_ret
      exact ⟨by simp, HB0.out⟩
    · have e2 : (b == 10) = false := by simpa using h2
      have e1 : (a == 13) = true := by simpa using h1
      rw [decide_eq_false h2, Bool.and_false, Bool.false_or]
      clear h1 h2
      generalize cls a = ka at HA
      generalize cls b = kb at HB
      by_cases h3 : kb = 3
      · subst h3
        by_cases h4 : ka = 1
        · subst h4
          go_enter Tryz.func65, Tryz.ntmps65
          go_wp2_with (first | (go_at_call 66; refine (Hid.out HA).mono ?_; clear HA; rintro e w1 ⟨rfl, c1, hb1⟩) | (go_at_call 66; refine (HB.out _ hb1).mono ?_; clear HB; rintro e w2 ⟨rfl, hb2⟩))
          go_ret
          exact ⟨by simp, hb2⟩
        · go_enter Tryz.func65, Tryz.ntmps65
          go_wp2_with (first | (go_at_call 66; refine (Hid.out HA).mono ?_; clear HA; rintro e w1 ⟨rfl, c1, hb1⟩) | (go_at_call 66; refine (HB.out _ hb1).mono ?_; clear HB; rintro e w2 ⟨rfl, hb2⟩))
          go_ret
          exact ⟨ret_bool (by rw [Bool.eq_iff_iff]; simp [h4]), hb2⟩
      · have e3 : (kb == 3) = false := by simpa using h3
        go_enter Tryz.func65, Tryz.ntmps65
        go_wp2_with (first | (go_at_call 66; refine (Hid.out HA).mono ?_; clear HA; rintro e w1 ⟨rfl, c1, hb1⟩) | (go_at_call 66; refine (HB.out _ hb1).mono ?_; clear HB; rintro e w2 ⟨rfl, hb2⟩))
        go_ret
        exact ⟨by simp [h3], hb2⟩
  · have e1 : (a == 13) = false := by simpa using h1
    rw [decide_eq_false h1, Bool.false_and, Bool.false_or]
    clear h1
    generalize cls a = ka at HA
    generalize cls b = kb at HB
    by_cases h3 : kb = 3
    · subst h3
      by_cases h4 : ka = 1
      · subst h4
        go_enter Tryz.func65, Tryz.ntmps65
        go_wp2_with (first | (go_at_call 66; refine (Hid.out HA).mono ?_; clear HA; rintro e w1 ⟨rfl, c1, hb1⟩) | (go_at_call 66; refine (HB.out _ hb1).mono ?_; clear HB; rintro e w2 ⟨rfl, hb2⟩))
        go_ret
        exact ⟨by simp, hb2⟩
      · go_enter Tryz.func65, Tryz.ntmps65
        go_wp2_with (first | (go_at_call 66; refine (Hid.out HA).mono ?_; clear HA; rintro e w1 ⟨rfl, c1, hb1⟩) | (go_at_call 66; refine (HB.out _ hb1).mono ?_; clear HB; rintro e w2 ⟨rfl, hb2⟩))
        go_ret
        exact ⟨ret_bool (by rw [Bool.eq_iff_iff]; simp [h4]), hb2⟩
    · have e3 : (kb == 3) = false := by simpa using h3
      go_enter Tryz.func65, Tryz.ntmps65
      go_wp2_with (first | (go_at_call 66; refine (Hid.out HA).mono ?_; clear HA; rintro e w1 ⟨rfl, c1, hb1⟩) | (go_at_call 66; refine (HB.out _ hb1).mono ?_; clear HB; rintro e w2 ⟨rfl, hb2⟩))
      go_ret
      exact ⟨by simp [h3], hb2⟩

/-- the clusters that have been met, the one under way last -/
def ll (s : ByteArray) (pre : List Nat) : List Clu := if pre = [] then [] else (st s pre).1 ++ [(st s pre).2.1]
theorem ll_all {s : ByteArray} (h : Inv s (offs s 0) s.size) : ll s (offs s 0) = cl s := by
  unfold ll
  by_cases h0 : 0 < s.size
  · rw [if_neg (offs_ne h0), inv_end h (offs_ne h0)]
  · rw [if_pos (offs_nil (by omega)), cl_nil (by omega)]
theorem ll_len {s : ByteArray} {pre : List Nat} : (st s pre).1.length + 1 ≤ pre.length + 1 := by
  have : ∀ (l : List Nat) (t : List Clu × Clu × Int), (l.foldl (step s) t).1.length ≤ l.length + t.1.length := fun l => by
    induction l with
    | nil => intro t; simp
    | cons x r ih =>
      intro t
      rw [List.foldl_cons]
      refine Nat.le_trans (ih _) ?_
      unfold step
      split
      · simp only [List.length_cons]; omega
      · split
        · simp only [List.length_cons]; omega
        · simp only [List.length_append, List.length_cons, List.length_nil]; omega
  have h := this pre ([], ⟨0, 0, 0, 0⟩, 0)
  unfold st
  simp only [List.length_nil] at h
  omega

/-- the last element of an own row is written -/
theorem row_last {W : World} {base g n cap : Nat} {e : TypeId} {xs : List Value} {a0 a1 a2 a3 : Value} (h : W.ownsRow base e 4 (.slice (some ⟨g, 0, none⟩) (n + 1) cap) (n + 1) (xs ++ [a0, a1, a2, a3])) (hn : xs.length = n * 4) (u0 u1 u2 u3 : Value) :
    ((((W.setCell ⟨g, n * 4, none⟩ u0).setCell ⟨g, n * 4 + 1, none⟩ u1).setCell ⟨g, n * 4 + 2, none⟩ u2).setCell ⟨g, n * 4 + 3, none⟩ u3).ownsRow base e 4 (.slice (some ⟨g, 0, none⟩) (n + 1) cap) (n + 1) (xs ++ [u0, u1, u2, u3]) := by
  rcases h.2 with ⟨h0, _⟩ | ⟨g', cap', cur, hv, hb, hg, hc1, hc2, hc3, hc4⟩
  · cases h0
  · cases hv
    refine ⟨by simp; omega, .inr ⟨g, cap, _, rfl, hb, set1 u3 (set1 u2 (set1 u1 (set1 u0 hg))), hc1, hc2, by simpa using hc3, ?_⟩⟩
    have hcur : cur.toList = xs ++ [a0, a1, a2, a3] ++ cur.toList.drop ((n + 1) * 4) := by rw [← hc4, List.take_append_drop]
    simp only [Array.toList_setIfInBounds]
    rw [hcur]
    generalize cur.toList.drop ((n + 1) * 4) = rest
    rw [← hn]
    simp only [List.append_assoc, List.cons_append, List.nil_append]
    rw [List.set_append_right _ _ (by omega), Nat.sub_self, List.set_cons_zero, List.set_append_right _ _ (by omega), show xs.length + 1 - xs.length = 1 by omega, List.set_append_right _ _ (by omega), show xs.length + 2 - xs.length = 2 by omega, List.set_append_right _ _ (by omega), show xs.length + 3 - xs.length = 3 by omega]
    simp only [List.set_cons_succ, List.set_cons_zero]
    rw [List.take_append, List.take_of_length_le (by omega)]
    rw [show (n + 1) * 4 - xs.length = 4 by omega]
    rfl
theorem grown4' (W : World) (b i : Nat) (u0 u1 u2 u3 : Value) : W.grownBy ((((W.setCell ⟨b, i, none⟩ u0).setCell ⟨b, i + 1, none⟩ u1).setCell ⟨b, i + 2, none⟩ u2).setCell ⟨b, i + 3, none⟩ u3) (some b) :=
  grown2 (grown2 (grown2 (gcell _ _ _ _) (gcell _ _ _ _)) (gcell _ _ _ _)) (gcell _ _ _ _)
end Go.Proofs.YtdggbnkhbmffoaaGreatDoor
namespace Go.Proofs.YtdggbnkhbmffoaaGreatDoor
open Go.RowKit Go.Sort Bod Wid

/-- what the loop over the units keeps -/
structure YI (s : ByteArray) (w : World) (gu N cu : Nat) (v : Value) (pre : List Nat) (a : Nat) (W : World) : Prop where
  inv : Inv s pre a
  row : W.ownsRow w.heap.size 75 4 v (ll s pre).length (ccl (ll s pre))
  us : W.ownsRow w.heap.size 83 2 (.slice (some ⟨gu, 0, none⟩) N cu) N (ucells s (offs s 0))
  below : Below w.heap.size w W
theorem YI.cells {s : ByteArray} {w W : World} {gu N cu a : Nat} {v : Value} {pre : List Nat} (h : YI s w gu N cu v pre a W) (hN : (offs s 0).length = N) (k x : Nat) (hk : (offs s 0)[k]? = some x) : W.cell? ⟨gu, k * 2, none⟩ = some (.int .i32 (ch s x)) ∧ W.cell? ⟨gu, k * 2 + 1, none⟩ = some (.int .i64 (sz s x)) := by
  have hkl := (List.getElem?_eq_some_iff.1 hk).1
  obtain ⟨e0, e1⟩ := ucells_get s (offs s 0) k x hk
  exact ⟨(h.us.cellAt (k * 2) (by omega)).trans e0, (h.us.cellAt (k * 2 + 1) (by omega)).trans e1⟩
theorem YI.grow {s : ByteArray} {w W W' : World} {gu N cu a : Nat} {v : Value} {pre : List Nat} (h : YI s w gu N cu v pre a W) (hb : Below W.heap.size W W') : YI s w gu N cu v pre a W' :=
  ⟨h.inv, row_below' h.row hb, row_below' h.us hb, h.below.trans (hb.mono h.below.size)⟩
theorem YI.ne {s : ByteArray} {w W : World} {gu N cu a : Nat} {v : Value} {pre : List Nat} (h : YI s w gu N cu v pre a W) : v.ownBlock ≠ some gu := fun e => by
  rcases h.row.2 with ⟨h0, _⟩ | ⟨g', cap', cur, hv, _, hgb, _⟩
  · rw [h0] at e; cases e
  · rw [hv] at e; cases e
    rcases h.us.2 with ⟨h0, _⟩ | ⟨g2, cap2, cur2, hv2, _, hgb2, _⟩
    · cases h0
    · cases hv2
      rw [hgb] at hgb2
      cases hgb2
/-- a cluster was begun -/
theorem YI.push {s : ByteArray} {w W W1 W' : World} {gu N cu a : Nat} {v v' : Value} {pre : List Nat} (h : YI s w gu N cu v pre a W) (has : a < s.size) (hll : ll s (pre ++ [a]) = ll s pre ++ [beg s a]) (hb : Below W.heap.size W W1) (hg : W1.grownBy W' v.ownBlock)
    (hr : W'.ownsRow w.heap.size 75 4 v' ((ll s pre).length + 1) (ccl (ll s pre) ++ [.int .i64 (a : Int), .int .i64 ((a : Int) + sz s a), .int .i64 (cls (ch s a)), .int .i64 (cel (ch s a))])) : YI s w gu N cu v' (pre ++ [a]) (a + sz s a) W' := by
  have h1 := h.grow hb
  refine ⟨inv_step h.inv has, ?_, h1.us.kept hg (.inr (fun e => h1.ne e.symm)), h1.below.grown hg h1.below.size (fun k e => (h1.row.lt k e).1)⟩
  rw [hll, List.length_append, ccl_snoc]
  simpa [beg] using hr
/-- the cluster under way was grown: its cells were written -/
theorem YI.turn {s : ByteArray} {w W W1 W' : World} {gu N cu a g cap : Nat} {pre : List Nat} (h : YI s w gu N cu (.slice (some ⟨g, 0, none⟩) ((st s pre).1.length + 1) cap) pre a W) (has : a < s.size) (hp : pre ≠ []) (hll : ll s (pre ++ [a]) = (st s pre).1 ++ [gro s (st s pre).2.1 a]) (hb : Below W.heap.size W W1)
    (hW : W' = ((((W1.setCell ⟨g, (st s pre).1.length * 4, none⟩ (.int .i64 (st s pre).2.1.fr)).setCell ⟨g, (st s pre).1.length * 4 + 1, none⟩ (.int .i64 ((a : Int) + sz s a))).setCell ⟨g, (st s pre).1.length * 4 + 2, none⟩ (.int .i64 (gro s (st s pre).2.1 a).k)).setCell ⟨g, (st s pre).1.length * 4 + 3, none⟩ (.int .i64 (gro s (st s pre).2.1 a).n))) :
    YI s w gu N cu (.slice (some ⟨g, 0, none⟩) ((st s pre).1.length + 1) cap) (pre ++ [a]) (a + sz s a) W' := by
  have h1 := h.grow hb
  have hg := grown4' W1 g ((st s pre).1.length * 4) (.int .i64 (st s pre).2.1.fr) (.int .i64 ((a : Int) + sz s a)) (.int .i64 (gro s (st s pre).2.1 a).k) (.int .i64 (gro s (st s pre).2.1 a).n)
  rw [← hW] at hg
  have hto : (st s pre).2.1.to = a := by rcases h.inv.2.2 with ⟨h, _⟩ | ⟨_, _, h, _⟩; exact absurd h hp; exact h
  have hrow := h1.row
  have e1 : ll s pre = (st s pre).1 ++ [(st s pre).2.1] := by unfold ll; rw [if_neg hp]
  rw [e1, List.length_append, ccl_snoc] at hrow
  have hr := row_last hrow (ccl_len _) (.int .i64 (st s pre).2.1.fr) (.int .i64 ((a : Int) + sz s a)) (.int .i64 (gro s (st s pre).2.1 a).k) (.int .i64 (gro s (st s pre).2.1 a).n)
  rw [← hW] at hr
  refine ⟨inv_step h.inv has, ?_, h1.us.kept hg (.inr (fun e => h1.ne (by cases e; rfl))), h1.below.grown hg h1.below.size (fun k e => by cases e; exact (h1.row.lt g rfl).1)⟩
  rw [hll, List.length_append, ccl_snoc]
  simpa [gro, hto] using hr
theorem YI.last {s : ByteArray} {w W : World} {gu N cu a g cap : Nat} {pre : List Nat} (h : YI s w gu N cu (.slice (some ⟨g, 0, none⟩) ((st s pre).1.length + 1) cap) pre a W) (hp : pre ≠ []) :
    (W.cell? ⟨g, (st s pre).1.length * 4, none⟩ = some (.int .i64 (st s pre).2.1.fr) ∧ W.cell? ⟨g, (st s pre).1.length * 4 + 1, none⟩ = some (.int .i64 (st s pre).2.1.to) ∧ W.cell? ⟨g, (st s pre).1.length * 4 + 2, none⟩ = some (.int .i64 (st s pre).2.1.k) ∧ W.cell? ⟨g, (st s pre).1.length * 4 + 3, none⟩ = some (.int .i64 (st s pre).2.1.n)) ∧
    W.frozen? ⟨g, (st s pre).1.length * 4, none⟩ = false ∧ W.frozen? ⟨g, (st s pre).1.length * 4 + 1, none⟩ = false ∧ W.frozen? ⟨g, (st s pre).1.length * 4 + 2, none⟩ = false ∧ W.frozen? ⟨g, (st s pre).1.length * 4 + 3, none⟩ = false := by
  have hrow := h.row
  have e1 : ll s pre = (st s pre).1 ++ [(st s pre).2.1] := by unfold ll; rw [if_neg hp]
  obtain ⟨e0, e2, e3, e4⟩ := ccl_get (ll s pre) (st s pre).1.length (st s pre).2.1 (by rw [e1]; simp)
  have hl := ccl_len (ll s pre)
  have hl2 : (ll s pre).length = (st s pre).1.length + 1 := by rw [e1]; simp
  rw [hl2] at hrow
  refine ⟨⟨(hrow.cellAt ((st s pre).1.length * 4) (by omega)).trans e0, (hrow.cellAt ((st s pre).1.length * 4 + 1) (by omega)).trans e2, (hrow.cellAt ((st s pre).1.length * 4 + 2) (by omega)).trans e3, (hrow.cellAt ((st s pre).1.length * 4 + 3) (by omega)).trans e4⟩, ?_⟩
  rcases hrow.2 with ⟨h0, _⟩ | ⟨g', cap', cur, hv, _, hgb, _⟩
  · cases h0
  · cases hv
    simp [World.frozen?, hgb]
theorem ll_zero {s : ByteArray} {pre : List Nat} {a : Nat} (h : Inv s pre a) (hp : pre = []) : ll s (pre ++ [a]) = ll s pre ++ [beg s a] := by
  subst hp
  rcases h.2.2 with ⟨_, rfl⟩ | ⟨h, _⟩
  · simp [ll, st, step]
  · exact absurd rfl h
theorem ll_part {s : ByteArray} {pre : List Nat} {a : Nat} (h : Inv s pre a) (hp : pre ≠ []) (hj : jn (st s pre).2.2 (ch s a) = false) : ll s (pre ++ [a]) = ll s pre ++ [beg s a] := by
  have ha : a ≠ 0 := by rcases h.2.2 with ⟨h, _⟩ | ⟨_, h, _⟩; exact absurd h hp; omega
  unfold ll
  rw [if_neg (by simp), if_neg hp, st_part ha hj]
theorem ll_join {s : ByteArray} {pre : List Nat} {a : Nat} (h : Inv s pre a) (hp : pre ≠ []) (hj : jn (st s pre).2.2 (ch s a) = true) : ll s (pre ++ [a]) = (st s pre).1 ++ [gro s (st s pre).2.1 a] := by
  have ha : a ≠ 0 := by rcases h.2.2 with ⟨h, _⟩ | ⟨_, h, _⟩; exact absurd h hp; omega
  unfold ll
  rw [if_neg (by simp), st_join ha hj]
theorem st_ahead (s : ByteArray) (pre : List Nat) (y : Nat) : (st s (pre ++ [y])).2.2 = ch s y := by
  rw [st_snoc]; unfold step; split
  · rfl
  · split <;> rfl

set_option maxRecDepth 100000 in
set_option maxHeartbeats 2000000 in
theorem rlist_pos (s : ByteArray) (hs : s.size * 32 + 32 ≤ 140737488355328) (h0 : 0 < s.size) (w : World) :
    Calls Tryz.prog 31 #[.string s] w fun e W' => ∃ v, e = .returned v ∧ W'.ownsRow w.heap.size 75 4 v (cl s).length (ccl (cl s)) ∧ Below w.heap.size w W' := by
  obtain ⟨i0, hi0, hz0, hz1, hz2⟩ := info_parts infoC
  obtain ⟨N, hN⟩ : ∃ N, (offs s 0).length = N := ⟨_, rfl⟩
  have hNs : N ≤ s.size := by rw [← hN]; exact offs_len_le s
  have hN0 : 0 < N := by rw [← hN, offs_step h0]; simp
  have cU : Calls Tryz.prog 64 #[.string s] w fun e W' => ∃ g cap, e = .returned (.slice (some ⟨g, 0, none⟩) N cap) ∧ W'.ownsRow w.heap.size 83 2 (.slice (some ⟨g, 0, none⟩) N cap) N (ucells s (offs s 0)) ∧ Below w.heap.size w W' := (runits_any s (by omega) w).mono fun e W' ⟨v, h1, h2, h3⟩ => by
    rw [hN] at h2
    obtain ⟨m, hm⟩ : ∃ m, N = m + 1 := ⟨N - 1, by omega⟩
    have h2' := h2
    rw [hm] at h2'
    obtain ⟨g, cap, rfl⟩ := ownsRow_succ h2'
    rw [← hm] at h1 h2
    exact ⟨g, cap, h1, h2, h3⟩
  have HN : Hid ((offs s 0).length = N) := hN
  have hmx : Tryz.prog.follows .mixedOrders = true := by kernel_rfl
  have HMx : Hid (Tryz.prog.follows .mixedOrders = true) := hmx
  clear hN hmx
  go_enter Tryz.func31, Tryz.ntmps31
  go_wp2_with (go_at_call 64; refine cU.mono ?_; clear cU; rintro e w0 ⟨gu, cu, rfl, hu, hb0⟩)
  go_loopw [3, 5, 6] (fun v t u wr => ∃ (pre : List Nat) (a n : Nat), t = .int .i64 a ∧ u = .int .i64 n ∧ Hid (pre.length = n) ∧ n ≤ N ∧ a ≤ s.size ∧ Hid (YI s w gu N cu v pre a wr)) (fun _ _ u _ => N - (intOf u).toNat)
  case atStart => exact ⟨[], 0, 0, rfl, rfl, rfl, Nat.zero_le _, Nat.zero_le _, ⟨inv_start s, World.ownsRow_nil _ _ _ _, hu, hb0⟩⟩
  case round =>
    clear hu hb0
    obtain ⟨pre, a, n, rfl, rfl, HP, hn, ha, HY⟩ := hrel
    by_cases hlt : n < N
    · have hpl : pre ++ offs s a = offs s 0 := HY.out.inv.2.1
      have has : a < s.size := by
        by_cases h : a < s.size
        · exact h
        · rw [offs_end (by omega), List.append_nil] at hpl
          have h1 := HN.out; have h2 := HP.out; rw [← hpl] at h1; omega
      have hat : (offs s 0)[n]? = some a := by
        rw [← hpl, ← HP.out, List.getElem?_append_right (Nat.le_refl _), Nat.sub_self, offs_step has]; rfl
      obtain ⟨u0, u1⟩ := HY.out.cells HN.out n a hat
      have hin := sz_in has
      have hpos := sz_pos has
      have hinv := inv_step HY.out.inv has
      have hml : (ll s pre).length + 1 ≤ s.size + 1 := by
        have h1 := ll_len (s := s) (pre := pre)
        have h2 := HP.out
        unfold ll
        split
        · simp
        · rw [List.length_append]; simp only [List.length_cons, List.length_nil]; omega
      have HAT : Hid ((offs s 0)[n]? = some a) := hat
      have HPL : Hid (pre ++ offs s a = offs s 0) := hpl
      clear hat hpl
      by_cases hp0 : pre = []
      · have g0 : decide (0 < n) = false := decide_eq_false (by have := HP.out; rw [hp0] at this; simp at this; omega)
        have HP0 : Hid (pre = []) := hp0
        clear hp0
        have r1 := cell_regrown u1
        go_wp2
        refine wp_region_quiet_below HMx.out (by kernel_rfl) ?_
        repeat (go_big_quiet_step (fail))
        refine wpQuiet_nil ?_
        intro _ hw'
        obtain ⟨⟨dq, osq⟩, hw''⟩ := hw'
        subst hw''
        dsimp only
        obtain ⟨W2, hW2⟩ : ∃ W2, grow (redrawn wr dq) osq = W2 := ⟨_, rfl⟩
        have HB2 : Hid (Below wr.heap.size wr W2) := by rw [← hW2]; exact below_regrown wr dq osq
        rw [hW2]
        have HY2 : Hid (YI s w gu N cu u3 pre a W2) := HY.out.grow HB2.out
        clear hW2 r1 u0 u1
        have hat2 : (offs s 0)[n]? = some a := HAT.out
        obtain ⟨x0, x1⟩ := HY2.out.cells HN.out n a hat2
        clear hat2
        go_wp2
        have CC : Hid (∀ W, Below W2.heap.size W2 W → Calls Tryz.prog 66 #[.int .i32 (ch s a)] W fun e w' => e = .returned (.int .i64 (cls (ch s a))) ∧ w'.cell? ⟨gu, n * 2 + 1, none⟩ = some (.int .i64 (sz s a)) ∧ Below W2.heap.size W2 w') := fun W hW => (rclass_any (ch s a) W).mono fun e w' ⟨h1, h2⟩ => (by
          have h3 : Below W2.heap.size W2 w' := hW.trans (h2.mono hW.size)
          exact ⟨h1, (h3.cell (p := ⟨gu, n * 2 + 1, none⟩) (HY2.out.us.lt gu rfl).2).trans x1, h3⟩)
        have CE : Hid (∀ W, Below W2.heap.size W2 W → Calls Tryz.prog 67 #[.int .i32 (ch s a)] W fun e w' => e = .returned (.int .i64 (cel (ch s a))) ∧ w'.cell? ⟨gu, n * 2 + 1, none⟩ = some (.int .i64 (sz s a)) ∧ Below W2.heap.size W2 w') := fun W hW => (rcells_any (ch s a) W).mono fun e w' ⟨h1, h2⟩ => (by
          have h3 : Below W2.heap.size W2 w' := hW.trans (h2.mono hW.size)
          exact ⟨h1, (h3.cell (p := ⟨gu, n * 2 + 1, none⟩) (HY2.out.us.lt gu rfl).2).trans x1, h3⟩)
        have hwr : IntKind.i64.wrap ((a : Int) + (sz s a : Int)) = (a : Int) + (sz s a : Int) := by rw [IntKind.wrap_i64]; omega
        have HBB : Hid (∀ W, Below W2.heap.size W2 W → w.heap.size ≤ W.heap.size) := fun W hW => Nat.le_trans HY2.out.below.size hW.size
        go_region_held3 (fun w' => w'.cell? ⟨gu, n * 2 + 1, none⟩ = some (.int .i64 (sz s a))) (go_keep) (first | (go_at_call 66; refine (CC.out _ ?_).mono ?_; (exact ⟨rfl, rfl, rfl, Nat.le_refl _, fun _ _ => rfl⟩); clear CC; rintro e w5 ⟨rfl, a1, hb5⟩) | (go_at_call 67; refine (CE.out _ hb5).mono ?_; clear CE; rintro e w6 ⟨rfl, b1, hb6⟩) | (refine step_append_own rfl (.tmp 64) (.tmp 78) 71 rfl w.heap.size 75 i0 _ 4 32 Tryz.underlying71 hi0 hz0 hz1 hz2 rfl (by decide) u3 _ _ rfl ((row_below' HY2.out.row hb6).alloc _) ⟨w6.heap.size, 0, none⟩ 1 1 [.int .i64 (a : Int), .int .i64 ((a : Int) + sz s a), .int .i64 (cls (ch s a)), .int .i64 (cel (ch s a))] rfl rfl (World.news_of_block (World.alloc_heap_new w6 _)) (by simp [Value.oneCell']) (by unfold maxLen; omega) (by omega) (by have := HBB.out _ hb6; simp; omega) ?_; intro v3 w3 hrow3 hg3; have d3 : w3.cell? ⟨gu, n * 2 + 1, none⟩ = some (.int .i64 (sz s a)) := (grown_cell hg3 (Nat.lt_of_lt_of_le (HY2.out.us.lt gu rfl).2 (Nat.le_trans hb6.size (by simp))) HY2.out.ne).trans (((Below.refl _ w6).alloc (Nat.le_refl _) _ |>.cell (p := ⟨gu, n * 2 + 1, none⟩) (Nat.lt_of_lt_of_le (HY2.out.us.lt gu rfl).2 hb6.size)).trans b1)))
        go_wp2
        exact ⟨⟨pre ++ [a], a + sz s a, n + 1, by go_num, by go_num, (by show (pre ++ [a]).length = n + 1; rw [List.length_append, HP.out]; rfl), by omega, hin, HY2.out.push has (ll_zero HY2.out.inv HP0.out) (hb6.alloc hb6.size _) hg3 hrow3⟩, by simp [intOf]; omega⟩
      · obtain ⟨m, hm⟩ : ∃ m, n = m + 1 := ⟨n - 1, by
          have := HP.out
          cases pre with
          | nil => exact absurd rfl hp0
          | cons x r => simp at this; omega⟩
        obtain ⟨p', y, hpy⟩ : ∃ p' y, pre = p' ++ [y] := ⟨pre.dropLast, pre.getLast hp0, (List.dropLast_concat_getLast hp0).symm⟩
        have hay : (offs s 0)[m]? = some y := by
          rw [← HPL.out, hpy]
          have h1 := HP.out
          rw [hpy, List.length_append] at h1
          simp only [List.length_cons, List.length_nil] at h1
          rw [List.append_assoc, List.getElem?_append_right (by omega), show m - p'.length = 0 by omega]
          rfl
        have hah : (st s pre).2.2 = ch s y := by rw [hpy]; exact st_ahead s p' y
        obtain ⟨y0, y1⟩ := HY.out.cells HN.out m y hay
        have g0 : decide (0 < n) = true := decide_eq_true (by omega)
        have hwm : IntKind.i64.wrap ((n : Int) - 1) = (m : Int) := by rw [IntKind.wrap_i64]; omega
        have hmN : (m : Int) < N := by omega
        have HNE : Hid (pre ≠ []) := hp0
        have HAY : Hid ((offs s 0)[m]? = some y) := hay
        have HNM : Hid (n = m + 1) := hm
        clear hp0 hay hpy hm
        have r0 := cell_regrown u0
        have r1 := cell_regrown u1
        have s0 := cell_regrown y0
        have s1 := cell_regrown y1
        cases hj : jn (st s pre).2.2 (ch s a) with
        | false =>
          have q1 := regrown (v := .bool false) (W := wr) (fun W _ => by have := rjoined_any (ch s y) (ch s a) (sz s y) (sz s a) W; rw [← hah, hj, hah] at this; exact this)
          have HJ : Hid (jn (st s pre).2.2 (ch s a) = false) := hj
          clear hj hah
          go_wp2
          refine wp_region_quiet_below HMx.out (by kernel_rfl) ?_
          repeat (go_big_quiet_step (fail))
          go_big_quiet_step (exact q1 _ _)
          repeat (go_big_quiet_step (fail))
          refine wpQuiet_nil ?_
          intro _ hw'
          obtain ⟨⟨dq, osq⟩, hw''⟩ := hw'
          subst hw''
          dsimp only
          obtain ⟨W2, hW2⟩ : ∃ W2, grow (redrawn wr dq) osq = W2 := ⟨_, rfl⟩
          have HB2 : Hid (Below wr.heap.size wr W2) := by rw [← hW2]; exact below_regrown wr dq osq
          rw [hW2]
          have HY2 : Hid (YI s w gu N cu u3 pre a W2) := HY.out.grow HB2.out
          clear hW2 r0 r1 s0 s1 u0 u1 y0 y1 q1
          have hat2 : (offs s 0)[n]? = some a := HAT.out
          obtain ⟨x0, x1⟩ := HY2.out.cells HN.out n a hat2
          clear hat2
          go_wp2
          have CC : Hid (∀ W, Below W2.heap.size W2 W → Calls Tryz.prog 66 #[.int .i32 (ch s a)] W fun e w' => e = .returned (.int .i64 (cls (ch s a))) ∧ w'.cell? ⟨gu, n * 2 + 1, none⟩ = some (.int .i64 (sz s a)) ∧ Below W2.heap.size W2 w') := fun W hW => (rclass_any (ch s a) W).mono fun e w' ⟨h1, h2⟩ => (by
            have h3 : Below W2.heap.size W2 w' := hW.trans (h2.mono hW.size)
            exact ⟨h1, (h3.cell (p := ⟨gu, n * 2 + 1, none⟩) (HY2.out.us.lt gu rfl).2).trans x1, h3⟩)
          have CE : Hid (∀ W, Below W2.heap.size W2 W → Calls Tryz.prog 67 #[.int .i32 (ch s a)] W fun e w' => e = .returned (.int .i64 (cel (ch s a))) ∧ w'.cell? ⟨gu, n * 2 + 1, none⟩ = some (.int .i64 (sz s a)) ∧ Below W2.heap.size W2 w') := fun W hW => (rcells_any (ch s a) W).mono fun e w' ⟨h1, h2⟩ => (by
            have h3 : Below W2.heap.size W2 w' := hW.trans (h2.mono hW.size)
            exact ⟨h1, (h3.cell (p := ⟨gu, n * 2 + 1, none⟩) (HY2.out.us.lt gu rfl).2).trans x1, h3⟩)
          have hwr : IntKind.i64.wrap ((a : Int) + (sz s a : Int)) = (a : Int) + (sz s a : Int) := by rw [IntKind.wrap_i64]; omega
          have HBB : Hid (∀ W, Below W2.heap.size W2 W → w.heap.size ≤ W.heap.size) := fun W hW => Nat.le_trans HY2.out.below.size hW.size
          go_region_held3 (fun w' => w'.cell? ⟨gu, n * 2 + 1, none⟩ = some (.int .i64 (sz s a))) (go_keep) (first | (go_at_call 66; refine (CC.out _ ?_).mono ?_; (exact ⟨rfl, rfl, rfl, Nat.le_refl _, fun _ _ => rfl⟩); clear CC; rintro e w5 ⟨rfl, a1, hb5⟩) | (go_at_call 67; refine (CE.out _ hb5).mono ?_; clear CE; rintro e w6 ⟨rfl, b1, hb6⟩) | (refine step_append_own rfl (.tmp 64) (.tmp 78) 71 rfl w.heap.size 75 i0 _ 4 32 Tryz.underlying71 hi0 hz0 hz1 hz2 rfl (by decide) u3 _ _ rfl ((row_below' HY2.out.row hb6).alloc _) ⟨w6.heap.size, 0, none⟩ 1 1 [.int .i64 (a : Int), .int .i64 ((a : Int) + sz s a), .int .i64 (cls (ch s a)), .int .i64 (cel (ch s a))] rfl rfl (World.news_of_block (World.alloc_heap_new w6 _)) (by simp [Value.oneCell']) (by unfold maxLen; omega) (by omega) (by have := HBB.out _ hb6; simp; omega) ?_; intro v3 w3 hrow3 hg3; have d3 : w3.cell? ⟨gu, n * 2 + 1, none⟩ = some (.int .i64 (sz s a)) := (grown_cell hg3 (Nat.lt_of_lt_of_le (HY2.out.us.lt gu rfl).2 (Nat.le_trans hb6.size (by simp))) HY2.out.ne).trans (((Below.refl _ w6).alloc (Nat.le_refl _) _ |>.cell (p := ⟨gu, n * 2 + 1, none⟩) (Nat.lt_of_lt_of_le (HY2.out.us.lt gu rfl).2 hb6.size)).trans b1)))
          go_wp2
          exact ⟨⟨pre ++ [a], a + sz s a, n + 1, by go_num, by go_num, (by show (pre ++ [a]).length = n + 1; rw [List.length_append, HP.out]; rfl), by omega, hin, HY2.out.push has (ll_part HY2.out.inv HNE.out HJ.out) (hb6.alloc hb6.size _) hg3 hrow3⟩, by simp [intOf]; omega⟩
        | true =>
          have q1 := regrown (v := .bool true) (W := wr) (fun W _ => by have := rjoined_any (ch s y) (ch s a) (sz s y) (sz s a) W; rw [← hah, hj, hah] at this; exact this)
          have HJ : Hid (jn (st s pre).2.2 (ch s a) = true) := hj
          clear hj hah
          have e1 : ll s pre = (st s pre).1 ++ [(st s pre).2.1] := by unfold ll; rw [if_neg HNE.out]
          have hrow := HY.out.row
          rw [e1, List.length_append] at hrow
          obtain ⟨g, cap, hu3⟩ := ownsRow_succ hrow
          subst hu3
          clear hrow e1
          go_wp2
          refine wp_region_quiet_below HMx.out (by kernel_rfl) ?_
          repeat (go_big_quiet_step (fail))
          go_big_quiet_step (exact q1 _ _)
          repeat (go_big_quiet_step (fail))
          refine wpQuiet_nil ?_
          intro _ hw'
          obtain ⟨⟨dq, osq⟩, hw''⟩ := hw'
          subst hw''
          dsimp only
          obtain ⟨W2, hW2⟩ : ∃ W2, grow (redrawn wr dq) osq = W2 := ⟨_, rfl⟩
          have HB2 : Hid (Below wr.heap.size wr W2) := by rw [← hW2]; exact below_regrown wr dq osq
          rw [hW2]
          have HY2 : Hid (YI s w gu N cu (.slice (some ⟨g, 0, none⟩) ((st s pre).1.length + 1) cap) pre a W2) := HY.out.grow HB2.out
          clear hW2 r0 r1 s0 s1 u0 u1 y0 y1 q1
          have hat2 : (offs s 0)[n]? = some a := HAT.out
          obtain ⟨x0, x1⟩ := HY2.out.cells HN.out n a hat2
          clear hat2
          obtain ⟨⟨z0, z1, z2, z3⟩, f0, f1, f2, f3⟩ := HY2.out.last HNE.out
          have hgu : g ≠ gu := fun e => HY2.out.ne (by rw [e]; rfl)
          have hgl := (HY2.out.row.lt g rfl).2
          have hgul := (HY2.out.us.lt gu rfl).2
          have HT : Hid (∀ W', W' = _ → YI s w gu N cu (.slice (some ⟨g, 0, none⟩) ((st s pre).1.length + 1) cap) (pre ++ [a]) (a + sz s a) W') := fun W' hW' => HY2.out.turn (W1 := W2) has HNE.out (ll_join HY2.out.inv HNE.out HJ.out) (Below.refl _ W2) hW'
          have hlb : ((st s pre).1.length : Int) + 1 ≤ s.size + 1 := by have := ll_len (s := s) (pre := pre); have := HP.out; omega
          by_cases h10 : ch s a = 10
          · have hk1 : (gro s (st s pre).2.1 a).k = 1 := if_pos h10
            have hk2 : (gro s (st s pre).2.1 a).n = 0 := if_pos h10
            rw [hk1, hk2] at HT
            rw [h10] at x0
            have H10 : Hid (ch s a = 10) := h10
            clear hk1 hk2 h10
            generalize (st s pre).2.1.fr = cf at z0 HT
            generalize (st s pre).2.1.to = ct at z1
            generalize (st s pre).2.1.k = ck at z2
            generalize (st s pre).2.1.n = cn at z3
            generalize (st s pre).1.length = L at z0 z1 z2 z3 f0 f1 f2 f3 HT hlb hgl HY2 HY ⊢
            go_wp2
            exact ⟨⟨pre ++ [a], a + sz s a, n + 1, by go_num, by go_num, (by show (pre ++ [a]).length = n + 1; rw [List.length_append, HP.out]; rfl), by omega, hin, (HT.out _ rfl).grow ((Below.refl _ _).alloc (Nat.le_refl _) _)⟩, by simp [intOf]; omega⟩
          · have hk1 : (gro s (st s pre).2.1 a).k = (st s pre).2.1.k := if_neg h10
            have hk2 : (gro s (st s pre).2.1 a).n = (st s pre).2.1.n := if_neg h10
            rw [hk1, hk2] at HT
            clear hk1 hk2
            generalize (st s pre).2.1.fr = cf at z0 HT
            generalize (st s pre).2.1.to = ct at z1
            generalize (st s pre).2.1.k = ck at z2 HT
            generalize (st s pre).2.1.n = cn at z3 HT
            generalize (st s pre).1.length = L at z0 z1 z2 z3 f0 f1 f2 f3 HT hlb hgl HY2 HY ⊢
            go_wp2
            exact ⟨⟨pre ++ [a], a + sz s a, n + 1, by go_num, by go_num, (by show (pre ++ [a]).length = n + 1; rw [List.length_append, HP.out]; rfl), by omega, hin, (HT.out _ rfl).grow ((Below.refl _ _).alloc (Nat.le_refl _) _)⟩, by simp [intOf]; omega⟩
    · have hpl : pre ++ offs s a = offs s 0 := HY.out.inv.2.1
      have hn2 : n = N := by omega
      have he : offs s a = [] := by
        have h1 := HN.out
        have h2 := HP.out
        rw [← hpl, List.length_append] at h1
        exact List.length_eq_zero_iff.1 (by omega)
      rw [he, List.append_nil] at hpl
      have HR := HY.out.row
      have hai : a = s.size := inv_all HY.out.inv hpl
      rw [show ll s pre = cl s by have h := HY.out.inv; rw [hpl, hai] at h; rw [hpl]; exact ll_all h] at HR
      have HR2 : Hid _ := HR
      clear HR hai hpl he hn2
      go_wp2
      go_ret
      exact ⟨_, rfl, Hid.out HR2, HY.out.below⟩
theorem rlist_any (s : ByteArray) (hs : s.size * 32 + 32 ≤ 140737488355328) (w : World) :
    Calls Tryz.prog 31 #[.string s] w fun e W' => ∃ v, e = .returned v ∧ W'.ownsRow w.heap.size 75 4 v (cl s).length (ccl (cl s)) ∧ Below w.heap.size w W' := by
  by_cases h0 : 0 < s.size
  · exact rlist_pos s hs h0 w
  · have hcl : cl s = [] := cl_nil (by omega)
    have ho : offs s 0 = [] := offs_nil (by omega)
    rw [hcl]
    have cU : Calls Tryz.prog 64 #[.string s] w fun e W' => ∃ ao cap, e = .returned (.slice ao 0 cap) ∧ Below w.heap.size w W' := (runits_any s (by omega) w).mono fun e W' ⟨v, h1, h2, h3⟩ => by
      rw [ho] at h2
      rcases h2.2 with ⟨hv, _⟩ | ⟨g, cap, cur, hv, _⟩
      · exact ⟨none, 0, by rw [h1, hv], h3⟩
      · exact ⟨_, cap, by rw [h1, hv]; rfl, h3⟩
    go_enter Tryz.func31, Tryz.ntmps31
    go_wp2_with (go_at_call 64; refine cU.mono ?_; clear cU; rintro e w0 ⟨ao, cap, rfl, hb0⟩)
    go_loopw [3, 5, 6] (fun v t u wr => v = .slice none 0 0 ∧ t = .int .i64 0 ∧ u = .int .i64 0 ∧ w0 = wr) (fun _ _ _ _ => 0)
    case atStart => exact ⟨rfl, rfl, rfl, rfl⟩
    case round =>
      obtain ⟨rfl, rfl, rfl, rfl⟩ := hrel
      go_wp2
      go_ret
      exact ⟨_, rfl, World.ownsRow_nil _ _ _ _, hb0⟩
end Go.Proofs.YtdggbnkhbmffoaaGreatDoor
namespace Go.Proofs.YtdggbnkhbmffoaaGreatDoor
open Bod Wid

/-- all boundaries of a text, rising -/
def bds (s : ByteArray) : List Nat := 0 :: (cl s).map (·.to)
theorem bds_len (s : ByteArray) : (bds s).length = (cl s).length + 1 := by simp [bds]
theorem tiled_rise : ∀ {l : List Clu} {i j : Nat}, tiled i l j → (i :: l.map (·.to)).Pairwise (· < ·) ∧ j ∈ i :: l.map (·.to)
  | [], i, j, h => by have h : i = j := h; subst h; simp
  | c :: r, i, j, h => by
    obtain ⟨h1, h2, h3⟩ := h
    obtain ⟨h4, h5⟩ := tiled_rise h3
    refine ⟨?_, by simp only [List.map_cons]; exact List.mem_cons_of_mem _ h5⟩
    simp only [List.map_cons]
    refine List.pairwise_cons.2 ⟨fun x hx => ?_, h4⟩
    rcases List.mem_cons.1 hx with rfl | hx
    · exact h2
    · have := (List.pairwise_cons.1 h4).1 x hx
      omega
theorem tiled_has {s : ByteArray} : ∀ {l : List Clu} {i j k : Nat}, tiled i l j → (∀ d ∈ l, Sp s d) → i ≤ k → k ≤ j → cbZ s k = true → k ∈ i :: l.map (·.to)
  | [], i, j, k, h, _, h1, h2, _ => by have h : i = j := h; simp; omega
  | c :: r, i, j, k, h, hs, h1, h2, hc => by
    obtain ⟨h3, h4, h5⟩ := h
    by_cases e : k = i
    · simp [e]
    · by_cases e2 : k < c.to
      · have := (hs c (by simp)).2 k (by omega) (by omega)
        rw [hc] at this; cases this
      · simp only [List.map_cons]
        exact List.mem_cons_of_mem _ (tiled_has h5 (fun d hd => hs d (by simp [hd])) (by omega) h2 hc)
theorem bds_cb {s : ByteArray} {k : Nat} (h : k ∈ bds s) : cbZ s k = true := by
  rcases List.mem_cons.1 h with rfl | h
  · exact cb_zero s
  · obtain ⟨c, hc, rfl⟩ := List.mem_map.1 h
    exact (cl_cb s c hc).1
theorem bds_of {s : ByteArray} {i : Int} (h : cbZ s i = true) : ∃ k : Nat, i = k ∧ k ∈ bds s := by
  obtain ⟨k, rfl, hb⟩ := cb_B h
  exact ⟨k, rfl, tiled_has (cl_tile s) (cl_cb s) (Nat.zero_le _) hb.1 h⟩
theorem bds_end (s : ByteArray) : s.size ∈ bds s := (tiled_rise (cl_tile s)).2
theorem bds_lt {s : ByteArray} {i j a b : Nat} (h : i < j) (ha : (bds s)[i]? = some a) (hb : (bds s)[j]? = some b) : a < b := by
  obtain ⟨h1, rfl⟩ := List.getElem?_eq_some_iff.1 ha
  obtain ⟨h2, rfl⟩ := List.getElem?_eq_some_iff.1 hb
  exact List.pairwise_iff_getElem.1 (tiled_rise (cl_tile s)).1 i j h1 h2 h
theorem bds_at {s : ByteArray} {k : Nat} (h : k ∈ bds s) : ∃ j : Nat, (bds s)[j]? = some k := List.getElem?_of_mem h
theorem bds_le {s : ByteArray} {k : Nat} (h : k ∈ bds s) : k ≤ s.size := by
  have h1 := bds_cb h
  by_cases e : k ≤ s.size
  · exact e
  · rw [cb_out (.inr (by omega))] at h1; cases h1

theorem bd_found {s : ByteArray} {i : Int} {n b : Nat} (hb : (bds s)[n]? = some b) (e : (b : Int) = i) : cbZ s i = true := by
  rw [← e]; exact bds_cb (List.mem_of_getElem? hb)
theorem bd_none {s : ByteArray} {i : Int} {n : Nat} (hn : (bds s).length ≤ n) (hall : ∀ j c, j < n → (bds s)[j]? = some c → (c : Int) ≠ i) : cbZ s i = false := by
  cases h : cbZ s i with
  | false => rfl
  | true =>
    obtain ⟨k, rfl, hk⟩ := bds_of h
    obtain ⟨j, hj⟩ := bds_at hk
    exact absurd rfl (hall j k (by have := (List.getElem?_eq_some_iff.1 hj).1; omega) hj)
theorem next_found {s : ByteArray} {i : Int} {n b : Nat} (hb : (bds s)[n]? = some b) (hlt : i < b) (hall : ∀ j c, j < n → (bds s)[j]? = some c → (c : Int) ≤ i) : IsNext s i b :=
  ⟨bds_cb (List.mem_of_getElem? hb), .inl hlt, fun j h1 h2 => by
    cases h : cbZ s j with
    | false => rfl
    | true =>
      obtain ⟨k, rfl, hk⟩ := bds_of h
      obtain ⟨q, hq⟩ := bds_at hk
      rcases Nat.lt_trichotomy q n with h3 | rfl | h3
      · have := hall q k h3 hq; omega
      · rw [hb] at hq; cases hq; omega
      · have := bds_lt h3 hb hq; omega⟩
theorem next_none {s : ByteArray} {i : Int} {n : Nat} (hn : (bds s).length ≤ n) (hall : ∀ j c, j < n → (bds s)[j]? = some c → (c : Int) ≤ i) : IsNext s i s.size := by
  obtain ⟨q, hq⟩ := bds_at (bds_end s)
  have := hall q _ (by have := (List.getElem?_eq_some_iff.1 hq).1; omega) hq
  exact ⟨cb_end s, .inr ⟨rfl, this⟩, fun j h1 h2 => by omega⟩
theorem snap_found {s : ByteArray} {i : Int} {n b : Nat} (hb : (bds s)[n]? = some b) (hlt : i ≤ b) (hall : ∀ j c, j < n → (bds s)[j]? = some c → (c : Int) < i) : IsSnap s i b :=
  ⟨bds_cb (List.mem_of_getElem? hb), .inl hlt, fun j h1 h2 => by
    cases h : cbZ s j with
    | false => rfl
    | true =>
      obtain ⟨k, rfl, hk⟩ := bds_of h
      obtain ⟨q, hq⟩ := bds_at hk
      rcases Nat.lt_trichotomy q n with h3 | rfl | h3
      · have := hall q k h3 hq; omega
      · rw [hb] at hq; cases hq; omega
      · have := bds_lt h3 hb hq; omega⟩
theorem snap_none {s : ByteArray} {i : Int} {n : Nat} (hn : (bds s).length ≤ n) (hall : ∀ j c, j < n → (bds s)[j]? = some c → (c : Int) < i) : IsSnap s i s.size := by
  obtain ⟨q, hq⟩ := bds_at (bds_end s)
  have := hall q _ (by have := (List.getElem?_eq_some_iff.1 hq).1; omega) hq
  exact ⟨cb_end s, .inr ⟨rfl, by omega⟩, fun j h1 h2 => by omega⟩
theorem prev_found {s : ByteArray} {i : Int} {n b : Nat} (hb : (bds s)[n]? = some b) (hlt : (b : Int) < i) (hall : ∀ j c, n < j → (bds s)[j]? = some c → i ≤ (c : Int)) : IsPrev s i b :=
  ⟨bds_cb (List.mem_of_getElem? hb), .inl hlt, fun j h1 h2 => by
    cases h : cbZ s j with
    | false => rfl
    | true =>
      obtain ⟨k, rfl, hk⟩ := bds_of h
      obtain ⟨q, hq⟩ := bds_at hk
      rcases Nat.lt_trichotomy q n with h3 | rfl | h3
      · have := bds_lt h3 hq hb; omega
      · rw [hb] at hq; cases hq; omega
      · have := hall q k h3 hq; omega⟩
theorem prev_none {s : ByteArray} {i : Int} (hall : ∀ j c : Nat, (bds s)[j]? = some c → i ≤ (c : Int)) : IsPrev s i 0 := by
  have := hall 0 0 rfl
  exact ⟨cb_zero s, .inr ⟨rfl, by omega⟩, fun j h1 h2 => by omega⟩
end Go.Proofs.YtdggbnkhbmffoaaGreatDoor
namespace Go.Proofs.YtdggbnkhbmffoaaGreatDoor
open Go.RowKit Bod Wid

theorem info3 : (Tryz.prog.info? 3).map (fun i => (i.zero, i.size, i.bytes)) = some (some (.int .i64 0), 1, 8) := by kernel_rfl
def icells (xs : List Nat) : List Value := xs.map fun (i : Nat) => Value.int .i64 (i : Int)
theorem icells_get {xs : List Nat} {j b : Nat} (h : xs[j]? = some b) : (icells xs)[j]? = some (.int .i64 b) := by
  unfold icells
  rw [List.getElem?_map, h]; rfl
theorem cell_one_new (w : World) (a : Value) (t : TypeId) : ∀ j u, [a][j]? = some u → (w.alloc (.cells #[a] t)).cell? ((⟨w.heap.size, 0, none⟩ : Addr).add j) = some u := by
  intro j u hj
  match j, hj with
  | 0, hj => simp at hj; subst hj; simp [Addr.add]
theorem own_one (w : World) (base : Nat) (hb : base ≤ w.heap.size) : (w.alloc (.cells #[.int .i64 0] 3)).ownsRow base 3 1 (.slice (some ⟨w.heap.size, 0, none⟩) 1 1) 1 [.int .i64 0] :=
  ⟨rfl, .inr ⟨w.heap.size, 1, #[.int .i64 0], rfl, hb, World.alloc_heap_new w _, by omega, by unfold maxLen; omega, rfl, rfl⟩⟩

/-- a slice that reads as all boundaries -/
def RdB (W : World) (g : Nat) (s : ByteArray) : Prop := ∀ j b : Nat, (bds s)[j]? = some b → W.cell? ⟨g, j, none⟩ = some (.int .i64 b)
/-- rows of two types are not one -/
theorem row_ne {W : World} {b1 b2 e1 e2 z1 z2 n1 n2 : Nat} {v1 v2 : Value} {x1 x2 : List Value} (h1 : W.ownsRow b1 e1 z1 v1 n1 x1) (h2 : W.ownsRow b2 e2 z2 v2 n2 x2) (he : e1 ≠ e2) : v1.ownBlock = none ∨ v1.ownBlock ≠ v2.ownBlock := by
  rcases h1.2 with ⟨h0, _⟩ | ⟨g', cap', cur, hv, _, hgb, _⟩
  · left; rw [h0]; rfl
  · right
    rcases h2.2 with ⟨h0, _⟩ | ⟨g2, cap2, cur2, hv2, _, hgb2, _⟩
    · rw [hv, h0]; intro h; cases h
    · rw [hv, hv2]
      intro h
      cases h
      rw [hgb] at hgb2
      cases hgb2
      exact he rfl
theorem row_sl {W : World} {b e z n : Nat} {v : Value} {xs : List Value} (h : W.ownsRow b e z v n xs) : ∃ a c, v = .slice a n c := by
  rcases h.2 with ⟨h0, h1⟩ | ⟨g', cap', cur, hv, _⟩
  · exact ⟨none, 0, by rw [h0, h1]⟩
  · exact ⟨_, _, hv⟩

set_option maxRecDepth 100000 in
set_option maxHeartbeats 2000000 in
theorem rbounds_any (s : ByteArray) (hs : s.size ≤ 2097152) (w : World) :
    Calls Tryz.prog 27 #[.string s] w fun e W' => ∃ g cap, e = .returned (.slice (some ⟨g, 0, none⟩) (bds s).length cap) ∧ RdB W' g s ∧ g < W'.heap.size ∧ Below w.heap.size w W' := by
  obtain ⟨i0, hi, hz0, hz1, hz2⟩ := info_parts info3
  obtain ⟨l, hl⟩ : ∃ l, cl s = l := ⟨_, rfl⟩
  obtain ⟨N, hN⟩ : ∃ N, l.length = N := ⟨_, rfl⟩
  have hNs : N ≤ s.size := by rw [← hN, ← hl]; exact cl_len s
  have HLE : Hid (∀ c ∈ l, c.to ≤ s.size) := by rw [← hl]; exact fun c hc => (cl_span hc).2
  obtain ⟨W1, hW1⟩ : ∃ W1, w.alloc (.cells #[.int .i64 0] 3) = W1 := ⟨_, rfl⟩
  have hsz1 : W1.heap.size = w.heap.size + 1 := by rw [← hW1]; simp
  have hB1 : Below w.heap.size w W1 := by rw [← hW1]; exact (Below.refl _ w).alloc (Nat.le_refl _) _
  have hR1 : W1.ownsRow w.heap.size 3 1 (.slice (some ⟨w.heap.size, 0, none⟩) 1 1) 1 [.int .i64 0] := by rw [← hW1]; exact own_one w w.heap.size (Nat.le_refl _)
  have CL : Hid (Calls Tryz.prog 31 #[.string s] W1 fun e W' => ∃ a cap, e = .returned (.slice a N cap) ∧ Hid (W'.ownsRow W1.heap.size 75 4 (.slice a N cap) N (ccl l) ∧ W'.ownsRow w.heap.size 3 1 (.slice (some ⟨w.heap.size, 0, none⟩) 1 1) 1 [.int .i64 0] ∧ Below w.heap.size w W')) := (rlist_any s (by omega) W1).mono fun e W' ⟨v, h1, h2, h3⟩ => by
    rw [hl, hN] at h2
    obtain ⟨a, c, rfl⟩ := row_sl h2
    exact ⟨a, c, h1, h2, row_below' hR1 h3, hB1.trans (h3.mono hB1.size)⟩
  have HN : Hid (l.length = N) := hN
  have HL : Hid (cl s = l) := hl
  have HB1 : Hid (w.heap.size ≤ W1.heap.size) := hB1.size
  clear hN hl hB1 hR1 hsz1
  go_enter Tryz.func27, Tryz.ntmps27
  go_wp2_with (go_at_call 31; refine (Hid.out CL).mono ?_; clear CL; rintro e W2 ⟨a0, c0, rfl, HR2⟩)
  go_loopw [3, 5] (fun v k wr => ∃ n : Nat, k = .int .i64 n ∧ n ≤ N ∧ Hid (wr.ownsRow W1.heap.size 75 4 (.slice a0 N c0) N (ccl l) ∧ wr.ownsRow w.heap.size 3 1 v (n + 1) (icells (0 :: (l.take n).map (·.to))) ∧ Below w.heap.size w wr)) (fun _ k _ => N - (intOf k).toNat)
  case atStart => exact ⟨0, rfl, Nat.zero_le _, HR2.out⟩
  case round =>
    obtain ⟨n, rfl, hn, HI⟩ := hrel
    have hBs := HI.out.2.2.size
    by_cases hlt : n < N
    · obtain ⟨c, hc⟩ : ∃ c, l[n]? = some c := ⟨l[n]'(by rw [HN.out]; exact hlt), List.getElem?_eq_getElem _⟩
      have hr4 := HI.out.1
      rw [← HN.out] at hr4
      obtain ⟨a1, c1, he, hr⟩ := Rd4.of_row hr4
      obtain ⟨g, hg, hgl, hcell⟩ := hr (fun e => by rw [e] at hc; simp at hc)
      cases he
      subst hg
      have d1 : wr.cell? ⟨g, n * 4 + 1, none⟩ = some (.int .i64 c.to) := (hcell n c hc).2.1
      have hct := HLE.out c (List.mem_of_getElem? hc)
      have HC1 : Hid (l[n]? = some c) := hc
      clear hcell hc hr hr4
      obtain ⟨ct, hct'⟩ : ∃ ct, c.to = ct := ⟨_, rfl⟩
      rw [hct'] at d1 hct
      have HCT : Hid (c.to = ct) := hct'
      clear hct'
      have HR : Hid ((wr.alloc (.cells #[.int .i64 ct] 3)).ownsRow w.heap.size 3 1 _ (n + 1) (icells (0 :: (l.take n).map (·.to)))) := HI.out.2.1.alloc _
      have HR4 : Hid ((wr.alloc (.cells #[.int .i64 ct] 3)).ownsRow W1.heap.size 75 4 _ N (ccl l)) := HI.out.1.alloc _
      go_wp2_with (at_builtin; refine wpList_append_own _ rfl _ _ 64 rfl w.heap.size 3 i0 _ 1 8 Tryz.underlying64 hi hz0 hz1 hz2 rfl (by decide) _ (n + 1) _ rfl HR.out ⟨wr.heap.size, 0, none⟩ 1 1 [.int .i64 ct] rfl rfl (cell_one_new _ _ _) (by simp [Value.oneCell']) (by unfold maxLen; omega) (by omega) (by simp; omega) ?_; intro v3 w3 hrow3 hg3 _)
      refine ⟨⟨n + 1, by go_num, by omega, HR4.out.kept hg3 (row_ne HR4.out HR.out (by decide)), ?_, (HI.out.2.2.alloc hBs _).grown hg3 (by simp; omega) (fun j e => (HI.out.2.1.lt j e).1)⟩, by simp [intOf]; omega⟩
      have e : icells (0 :: (l.take (n + 1)).map (·.to)) = icells (0 :: (l.take n).map (·.to)) ++ [.int .i64 ct] := by
        rw [List.take_add_one, HC1.out]
        simp [icells, HCT.out]
      rw [e]
      exact hrow3
    · have hnN : n = N := by omega
      subst hnN
      have e : (0 :: (l.take n).map (·.to)) = bds s := by
        rw [← HN.out, List.take_length, ← HL.out]; rfl
      have hrow := HI.out.2.1
      rw [e] at hrow
      have hlen : n + 1 = (bds s).length := by rw [bds_len, HL.out, HN.out]
      rcases hrow.2 with ⟨_, h0⟩ | ⟨g, cap, cur, hv, hbg, _⟩
      · omega
      subst hv
      have HF : Hid (RdB wr g s) := fun j b hj => (hrow.cellAt j (by have := (List.getElem?_eq_some_iff.1 hj).1; omega)).trans (icells_get hj)
      have HG : Hid (g < wr.heap.size) := (hrow.lt g rfl).2
      have HLN : Hid (n + 1 = (bds s).length) := hlen
      clear hrow hlen e hlt
      go_wp2
      go_ret
      exact ⟨g, cap, by rw [← HLN.out]; rfl, HF.out, HG.out, HI.out.2.2⟩


set_option maxRecDepth 100000 in
set_option maxHeartbeats 1000000 in
theorem rnext_any (s : ByteArray) (i : Int) (hs : s.size ≤ 2097152) (w : World) :
    Calls Tryz.prog 57 #[.string s, .int .i64 i] w fun e w' => ∃ m : Nat, e = .returned (.int .i64 m) ∧ IsNext s i m ∧ Below w.heap.size w w' := by
  have cB := rbounds_any s hs w
  obtain ⟨M, hM⟩ : ∃ M, (bds s).length = M := ⟨_, rfl⟩
  have hMs : M ≤ s.size + 1 := by rw [← hM, bds_len]; have := cl_len s; omega
  have HM : Hid ((bds s).length = M) := hM
  rw [hM] at cB
  clear hM
  go_enter Tryz.func57, Tryz.ntmps57
  go_wp2_with (go_at_call 27; refine cB.mono ?_; clear cB; rintro e W2 ⟨g, cap, rfl, hc, hg, hb1⟩; have hB2 : Hid (Below w.heap.size w W2) := hb1; have HC : Hid (RdB W2 g s) := hc; clear hb1 hc)
  go_loopw [6] (fun k wr => ∃ (n : Nat), k = .int .i64 n ∧ n ≤ M ∧ wr = W2 ∧ Hid (∀ j c : Nat, j < n → (bds s)[j]? = some c → (c : Int) ≤ i)) (fun k _ => M - (intOf k).toNat)
  case atStart => exact ⟨0, rfl, by omega, rfl, fun j c h => by omega⟩
  case round =>
    obtain ⟨n, rfl, hn, rfl, HD⟩ := hrel
    by_cases hlt : n < M
    · obtain ⟨x, hx⟩ : ∃ x, (bds s)[n]? = some x := ⟨(bds s)[n]'(by rw [HM.out]; exact hlt), List.getElem?_eq_getElem _⟩
      have hcn := HC.out n x hx
      have HX : Hid ((bds s)[n]? = some x) := hx
      clear hx
      by_cases hle : i < (x : Int)
      · have HR : Hid (IsNext s i x) := next_found HX.out hle HD.out
        go_wp2
        go_ret
        exact ⟨x, rfl, HR.out, hB2.out⟩
      · go_wp2
        go_roundw
        case rel =>
          refine ⟨n + 1, by go_num, by omega, trivial, fun j c hj hc => ?_⟩
          by_cases e : j = n
          · subst e
            have := HX.out.symm.trans hc
            cases this
            omega
          · exact HD.out j c (by omega) hc
        case measure => simp [intOf]; omega
    · have HR : Hid (IsNext s i s.size) := next_none (n := n) (by rw [HM.out]; omega) HD.out
      go_wp2
      go_ret
      exact ⟨s.size, rfl, HR.out, hB2.out⟩

set_option maxRecDepth 100000 in
set_option maxHeartbeats 1000000 in
theorem rsnap_any (s : ByteArray) (i : Int) (hs : s.size ≤ 2097152) (w : World) :
    Calls Tryz.prog 15 #[.string s, .int .i64 i] w fun e w' => ∃ m : Nat, e = .returned (.int .i64 m) ∧ IsSnap s i m ∧ Below w.heap.size w w' := by
  have cB := rbounds_any s hs w
  obtain ⟨M, hM⟩ : ∃ M, (bds s).length = M := ⟨_, rfl⟩
  have hMs : M ≤ s.size + 1 := by rw [← hM, bds_len]; have := cl_len s; omega
  have HM : Hid ((bds s).length = M) := hM
  rw [hM] at cB
  clear hM
  go_enter Tryz.func15, Tryz.ntmps15
  go_wp2_with (go_at_call 27; refine cB.mono ?_; clear cB; rintro e W2 ⟨g, cap, rfl, hc, hg, hb1⟩; have hB2 : Hid (Below w.heap.size w W2) := hb1; have HC : Hid (RdB W2 g s) := hc; clear hb1 hc)
  go_loopw [6] (fun k wr => ∃ (n : Nat), k = .int .i64 n ∧ n ≤ M ∧ wr = W2 ∧ Hid (∀ j c : Nat, j < n → (bds s)[j]? = some c → (c : Int) < i)) (fun k _ => M - (intOf k).toNat)
  case atStart => exact ⟨0, rfl, by omega, rfl, fun j c h => by omega⟩
  case round =>
    obtain ⟨n, rfl, hn, rfl, HD⟩ := hrel
    by_cases hlt : n < M
    · obtain ⟨x, hx⟩ : ∃ x, (bds s)[n]? = some x := ⟨(bds s)[n]'(by rw [HM.out]; exact hlt), List.getElem?_eq_getElem _⟩
      have hcn := HC.out n x hx
      have HX : Hid ((bds s)[n]? = some x) := hx
      clear hx
      by_cases hle : i ≤ (x : Int)
      · have HR : Hid (IsSnap s i x) := snap_found HX.out hle HD.out
        go_wp2
        go_ret
        exact ⟨x, rfl, HR.out, hB2.out⟩
      · go_wp2
        go_roundw
        case rel =>
          refine ⟨n + 1, by go_num, by omega, trivial, fun j c hj hc => ?_⟩
          by_cases e : j = n
          · subst e
            have := HX.out.symm.trans hc
            cases this
            omega
          · exact HD.out j c (by omega) hc
        case measure => simp [intOf]; omega
    · have HR : Hid (IsSnap s i s.size) := snap_none (n := n) (by rw [HM.out]; omega) HD.out
      go_wp2
      go_ret
      exact ⟨s.size, rfl, HR.out, hB2.out⟩

set_option maxRecDepth 100000 in
set_option maxHeartbeats 1000000 in
theorem rprev_any (s : ByteArray) (i : Int) (hs : s.size ≤ 2097152) (w : World) :
    Calls Tryz.prog 58 #[.string s, .int .i64 i] w fun e w' => ∃ m : Nat, e = .returned (.int .i64 m) ∧ IsPrev s i m ∧ Below w.heap.size w w' := by
  have cB := rbounds_any s hs w
  obtain ⟨M, hM⟩ : ∃ M, (bds s).length = M := ⟨_, rfl⟩
  have hMs : M ≤ s.size + 1 := by rw [← hM, bds_len]; have := cl_len s; omega
  have HM : Hid ((bds s).length = M) := hM
  rw [hM] at cB
  clear hM
  go_enter Tryz.func58, Tryz.ntmps58
  go_wp2_with (go_at_call 27; refine cB.mono ?_; clear cB; rintro e W2 ⟨g, cap, rfl, hc, hg, hb1⟩; have hB2 : Hid (Below w.heap.size w W2) := hb1; have HC : Hid (RdB W2 g s) := hc; clear hb1 hc)
  go_loopw [6] (fun k wr => ∃ (n : Nat), k = .int .i64 ((n : Int) - 1) ∧ n ≤ M ∧ wr = W2 ∧ Hid (∀ j c : Nat, n ≤ j → (bds s)[j]? = some c → i ≤ (c : Int))) (fun k _ => (intOf k + 1).toNat)
  case atStart => exact ⟨M, by go_num, by omega, rfl, fun j c h hc => by have := (List.getElem?_eq_some_iff.1 hc).1; rw [HM.out] at this; omega⟩
  case round =>
    obtain ⟨n, rfl, hn, rfl, HD⟩ := hrel
    cases n with
    | succ n =>
      have e1 : ((n + 1 : Nat) : Int) - 1 = (n : Int) := by omega
      rw [e1]
      obtain ⟨x, hx⟩ : ∃ x, (bds s)[n]? = some x := ⟨(bds s)[n]'(by rw [HM.out]; omega), List.getElem?_eq_getElem _⟩
      have hcn := HC.out n x hx
      have HX : Hid ((bds s)[n]? = some x) := hx
      clear hx e1
      by_cases hle : (x : Int) < i
      · have HR : Hid (IsPrev s i x) := prev_found HX.out hle (fun j c h => HD.out j c (by omega))
        go_wp2
        go_ret
        exact ⟨x, rfl, HR.out, hB2.out⟩
      · go_wp2
        go_roundw
        case rel =>
          refine ⟨n, by go_num, by omega, trivial, fun j c hj hc => ?_⟩
          by_cases e : j = n
          · subst e
            have := HX.out.symm.trans hc
            cases this
            omega
          · exact HD.out j c (by omega) hc
        case measure => simp [intOf]
    | zero =>
      have HR : Hid (IsPrev s i 0) := prev_none (fun j c => HD.out j c (Nat.zero_le _))
      go_wp2
      go_ret
      exact ⟨0, rfl, HR.out, hB2.out⟩
end Go.Proofs.YtdggbnkhbmffoaaGreatDoor
