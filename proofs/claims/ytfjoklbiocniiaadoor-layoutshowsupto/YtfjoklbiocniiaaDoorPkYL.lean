/-
  The document's own list of clusters. Conditions: those of each theorem.
-/
import Derived.Test.YtfjoklbiocniiaaDoorPkY
import Derived.Test.YtfjoklbiocniiaaDoorPkV
import Derived.Test.YtfjoklbiocniiaaDoorCRd
import Derived.Deep.RegionHeld3
import Derived.BigQuiet
namespace Go.Proofs.YtfjoklbiocniiaaDoor
open Go.RowKit Go.Sort Bod Wid

theorem jn_eq (a b : Int) : jn a b = ((decide (a = 13) && decide (b = 10)) || (decide (cls b = 3) && (decide (cls a ≠ 1) && decide (cls a ≠ 2)))) := by
  unfold jn
  by_cases h : b = 10
  · subst h
    have : cls 10 = 1 := by decide +kernel
    rw [if_pos rfl, this]
    simp
  · rw [if_neg h]
    rw [Bool.eq_iff_iff]
    simp [h]

set_option maxRecDepth 100000 in
set_option maxHeartbeats 1000000 in
theorem rjoined_any (a b za zb : Int) (w : World) : Calls Tryd.prog 39 #[.agg #[.int .i32 a, .int .i64 za], .agg #[.int .i32 b, .int .i64 zb]] w fun e w' => e = .returned (.bool (jn a b)) ∧ Below w.heap.size w w' := by
  obtain ⟨W0, hW0⟩ : ∃ W0, (w.alloc (.cells #[.int .i32 a, .int .i64 za] 82)).alloc (.cells #[.int .i32 b, .int .i64 zb] 82) = W0 := ⟨_, rfl⟩
  have hB0 : Below w.heap.size w W0 := by rw [← hW0]; exact ((Below.refl _ w).alloc (Nat.le_refl _) _).alloc (by simp) _
  have hS0 : W0.heap.size = w.heap.size + 2 := by rw [← hW0]; simp
  have hc0 : W0.cell? ⟨w.heap.size, 0, none⟩ = some (.int .i32 a) := by rw [← hW0]; simp
  have hc1 : W0.cell? ⟨w.heap.size + 1, 0, none⟩ = some (.int .i32 b) := by rw [← hW0]; simp
  have HA : Hid (Calls Tryd.prog 40 #[.int .i32 a] W0 fun e w' => e = .returned (.int .i64 (cls a)) ∧ w'.cell? ⟨w.heap.size + 1, 0, none⟩ = some (.int .i32 b) ∧ Below w.heap.size w w') := (rclass_any a W0).mono fun e w' ⟨h1, h2⟩ => ⟨h1, (h2.cell (p := ⟨w.heap.size + 1, 0, none⟩) (by show w.heap.size + 1 < _; omega)).trans hc1, hB0.trans (h2.mono hB0.size)⟩
  have HB : Hid (∀ W, Below w.heap.size w W → Calls Tryd.prog 40 #[.int .i32 b] W fun e w' => e = .returned (.int .i64 (cls b)) ∧ Below w.heap.size w w') := fun W hb => (rclass_any b W).mono fun _ _ ⟨h1, h2⟩ => ⟨h1, hb.trans (h2.mono hb.size)⟩
  have HB0 : Hid (Below w.heap.size w W0) := hB0
  clear hS0 hB0
  rw [jn_eq]
  by_cases h1 : a = 13
  · by_cases h2 : b = 10
    · subst h1 h2
      clear HA HB
      go_enter Tryd.func39, Tryd.ntmps39
      go_wp2
      go_ret
      exact ⟨by simp, HB0.out⟩
    · have e2 : (b == 10) = false := by simpa using h2
      have e1 : (a == 13) = true := by simpa using h1
      rw [decide_eq_false h2, Bool.and_false, Bool.false_or]
      clear h1 h2
      generalize cls a = ka at HA
      generalize cls b = kb at HB
      by_cases h3 : kb = 3
      · subst h3
        by_cases h4 : ka = 1
        · subst h4
          go_enter Tryd.func39, Tryd.ntmps39
          go_wp2_with (first | (go_at_call 40; refine (Hid.out HA).mono ?_; clear HA; rintro e w1 ⟨rfl, c1, hb1⟩) | (go_at_call 40; refine (HB.out _ hb1).mono ?_; clear HB; rintro e w2 ⟨rfl, hb2⟩))
          go_ret
          exact ⟨by simp, hb2⟩
        · go_enter Tryd.func39, Tryd.ntmps39
          go_wp2_with (first | (go_at_call 40; refine (Hid.out HA).mono ?_; clear HA; rintro e w1 ⟨rfl, c1, hb1⟩) | (go_at_call 40; refine (HB.out _ hb1).mono ?_; clear HB; rintro e w2 ⟨rfl, hb2⟩))
          go_ret
          exact ⟨ret_bool (by rw [Bool.eq_iff_iff]; simp [h4]), hb2⟩
      · have e3 : (kb == 3) = false := by simpa using h3
        go_enter Tryd.func39, Tryd.ntmps39
        go_wp2_with (first | (go_at_call 40; refine (Hid.out HA).mono ?_; clear HA; rintro e w1 ⟨rfl, c1, hb1⟩) | (go_at_call 40; refine (HB.out _ hb1).mono ?_; clear HB; rintro e w2 ⟨rfl, hb2⟩))
        go_ret
        exact ⟨by simp [h3], hb2⟩
  · have e1 : (a == 13) = false := by simpa using h1
    rw [decide_eq_false h1, Bool.false_and, Bool.false_or]
    clear h1
    generalize cls a = ka at HA
    generalize cls b = kb at HB
    by_cases h3 : kb = 3
    · subst h3
      by_cases h4 : ka = 1
      · subst h4
        go_enter Tryd.func39, Tryd.ntmps39
        go_wp2_with (first | (go_at_call 40; refine (Hid.out HA).mono ?_; clear HA; rintro e w1 ⟨rfl, c1, hb1⟩) | (go_at_call 40; refine (HB.out _ hb1).mono ?_; clear HB; rintro e w2 ⟨rfl, hb2⟩))
        go_ret
        exact ⟨by simp, hb2⟩
      · go_enter Tryd.func39, Tryd.ntmps39
        go_wp2_with (first | (go_at_call 40; refine (Hid.out HA).mono ?_; clear HA; rintro e w1 ⟨rfl, c1, hb1⟩) | (go_at_call 40; refine (HB.out _ hb1).mono ?_; clear HB; rintro e w2 ⟨rfl, hb2⟩))
        go_ret
        exact ⟨ret_bool (by rw [Bool.eq_iff_iff]; simp [h4]), hb2⟩
    · have e3 : (kb == 3) = false := by simpa using h3
      go_enter Tryd.func39, Tryd.ntmps39
      go_wp2_with (first | (go_at_call 40; refine (Hid.out HA).mono ?_; clear HA; rintro e w1 ⟨rfl, c1, hb1⟩) | (go_at_call 40; refine (HB.out _ hb1).mono ?_; clear HB; rintro e w2 ⟨rfl, hb2⟩))
      go_ret
      exact ⟨by simp [h3], hb2⟩

/-- the clusters that have been met, the one under way last -/
def ll (s : ByteArray) (pre : List Nat) : List Clu := if pre = [] then [] else (st s pre).1 ++ [(st s pre).2.1]
theorem ll_all {s : ByteArray} (h : Inv s (offs s 0) s.size) : ll s (offs s 0) = cl s := by
  unfold ll
  by_cases h0 : 0 < s.size
  · rw [if_neg (offs_ne h0), inv_end h (offs_ne h0)]
  · rw [if_pos (offs_nil (by omega)), cl_nil (by omega)]
theorem ll_len {s : ByteArray} {pre : List Nat} : (st s pre).1.length + 1 ≤ pre.length + 1 := by
  have : ∀ (l : List Nat) (t : List Clu × Clu × Int), (l.foldl (step s) t).1.length ≤ l.length + t.1.length := fun l => by
    induction l with
    | nil => intro t; simp
    | cons x r ih =>
      intro t
      rw [List.foldl_cons]
      refine Nat.le_trans (ih _) ?_
      unfold step
      split
      · simp only [List.length_cons]; omega
      · split
        · simp only [List.length_cons]; omega
        · simp only [List.length_append, List.length_cons, List.length_nil]; omega
  have h := this pre ([], ⟨0, 0, 0, 0⟩, 0)
  unfold st
  simp only [List.length_nil] at h
  omega

/-- the last element of an own row is written -/
theorem row_last {W : World} {base g n cap : Nat} {e : TypeId} {xs : List Value} {a0 a1 a2 a3 : Value} (h : W.ownsRow base e 4 (.slice (some ⟨g, 0, none⟩) (n + 1) cap) (n + 1) (xs ++ [a0, a1, a2, a3])) (hn : xs.length = n * 4) (u0 u1 u2 u3 : Value) :
    ((((W.setCell ⟨g, n * 4, none⟩ u0).setCell ⟨g, n * 4 + 1, none⟩ u1).setCell ⟨g, n * 4 + 2, none⟩ u2).setCell ⟨g, n * 4 + 3, none⟩ u3).ownsRow base e 4 (.slice (some ⟨g, 0, none⟩) (n + 1) cap) (n + 1) (xs ++ [u0, u1, u2, u3]) := by
  rcases h.2 with ⟨h0, _⟩ | ⟨g', cap', cur, hv, hb, hg, hc1, hc2, hc3, hc4⟩
  · cases h0
  · cases hv
    refine ⟨by simp; omega, .inr ⟨g, cap, _, rfl, hb, set1 u3 (set1 u2 (set1 u1 (set1 u0 hg))), hc1, hc2, by simpa using hc3, ?_⟩⟩
    have hcur : cur.toList = xs ++ [a0, a1, a2, a3] ++ cur.toList.drop ((n + 1) * 4) := by rw [← hc4, List.take_append_drop]
    simp only [Array.toList_setIfInBounds]
    rw [hcur]
    generalize cur.toList.drop ((n + 1) * 4) = rest
    rw [← hn]
    simp only [List.append_assoc, List.cons_append, List.nil_append]
    rw [List.set_append_right _ _ (by omega), Nat.sub_self, List.set_cons_zero, List.set_append_right _ _ (by omega), show xs.length + 1 - xs.length = 1 by omega, List.set_append_right _ _ (by omega), show xs.length + 2 - xs.length = 2 by omega, List.set_append_right _ _ (by omega), show xs.length + 3 - xs.length = 3 by omega]
    simp only [List.set_cons_succ, List.set_cons_zero]
    rw [List.take_append, List.take_of_length_le (by omega)]
    rw [show (n + 1) * 4 - xs.length = 4 by omega]
    rfl
theorem grown4' (W : World) (b i : Nat) (u0 u1 u2 u3 : Value) : W.grownBy ((((W.setCell ⟨b, i, none⟩ u0).setCell ⟨b, i + 1, none⟩ u1).setCell ⟨b, i + 2, none⟩ u2).setCell ⟨b, i + 3, none⟩ u3) (some b) :=
  grown2 (grown2 (grown2 (gcell _ _ _ _) (gcell _ _ _ _)) (gcell _ _ _ _)) (gcell _ _ _ _)
end Go.Proofs.YtfjoklbiocniiaaDoor
namespace Go.Proofs.YtfjoklbiocniiaaDoor
open Go.RowKit Go.Sort Bod Wid

/-- what the loop over the units keeps -/
structure YI (s : ByteArray) (w : World) (gu N cu : Nat) (v : Value) (pre : List Nat) (a : Nat) (W : World) : Prop where
  inv : Inv s pre a
  row : W.ownsRow w.heap.size 56 4 v (ll s pre).length (ccl (ll s pre))
  us : W.ownsRow w.heap.size 82 2 (.slice (some ⟨gu, 0, none⟩) N cu) N (ucells s (offs s 0))
  below : Below w.heap.size w W
theorem YI.cells {s : ByteArray} {w W : World} {gu N cu a : Nat} {v : Value} {pre : List Nat} (h : YI s w gu N cu v pre a W) (hN : (offs s 0).length = N) (k x : Nat) (hk : (offs s 0)[k]? = some x) : W.cell? ⟨gu, k * 2, none⟩ = some (.int .i32 (ch s x)) ∧ W.cell? ⟨gu, k * 2 + 1, none⟩ = some (.int .i64 (sz s x)) := by
  have hkl := (List.getElem?_eq_some_iff.1 hk).1
  obtain ⟨e0, e1⟩ := ucells_get s (offs s 0) k x hk
  exact ⟨(h.us.cellAt (k * 2) (by omega)).trans e0, (h.us.cellAt (k * 2 + 1) (by omega)).trans e1⟩
theorem YI.grow {s : ByteArray} {w W W' : World} {gu N cu a : Nat} {v : Value} {pre : List Nat} (h : YI s w gu N cu v pre a W) (hb : Below W.heap.size W W') : YI s w gu N cu v pre a W' :=
  ⟨h.inv, row_below' h.row hb, row_below' h.us hb, h.below.trans (hb.mono h.below.size)⟩
theorem YI.ne {s : ByteArray} {w W : World} {gu N cu a : Nat} {v : Value} {pre : List Nat} (h : YI s w gu N cu v pre a W) : v.ownBlock ≠ some gu := fun e => by
  rcases h.row.2 with ⟨h0, _⟩ | ⟨g', cap', cur, hv, _, hgb, _⟩
  · rw [h0] at e; cases e
  · rw [hv] at e; cases e
    rcases h.us.2 with ⟨h0, _⟩ | ⟨g2, cap2, cur2, hv2, _, hgb2, _⟩
    · cases h0
    · cases hv2
      rw [hgb] at hgb2
      cases hgb2
/-- a cluster was begun -/
theorem YI.push {s : ByteArray} {w W W1 W' : World} {gu N cu a : Nat} {v v' : Value} {pre : List Nat} (h : YI s w gu N cu v pre a W) (has : a < s.size) (hll : ll s (pre ++ [a]) = ll s pre ++ [beg s a]) (hb : Below W.heap.size W W1) (hg : W1.grownBy W' v.ownBlock)
    (hr : W'.ownsRow w.heap.size 56 4 v' ((ll s pre).length + 1) (ccl (ll s pre) ++ [.int .i64 (a : Int), .int .i64 ((a : Int) + sz s a), .int .i64 (cls (ch s a)), .int .i64 (cel (ch s a))])) : YI s w gu N cu v' (pre ++ [a]) (a + sz s a) W' := by
  have h1 := h.grow hb
  refine ⟨inv_step h.inv has, ?_, h1.us.kept hg (.inr (fun e => h1.ne e.symm)), h1.below.grown hg h1.below.size (fun k e => (h1.row.lt k e).1)⟩
  rw [hll, List.length_append, ccl_snoc]
  simpa [beg] using hr
/-- the cluster under way was grown: its cells were written -/
theorem YI.turn {s : ByteArray} {w W W1 W' : World} {gu N cu a g cap : Nat} {pre : List Nat} (h : YI s w gu N cu (.slice (some ⟨g, 0, none⟩) ((st s pre).1.length + 1) cap) pre a W) (has : a < s.size) (hp : pre ≠ []) (hll : ll s (pre ++ [a]) = (st s pre).1 ++ [gro s (st s pre).2.1 a]) (hb : Below W.heap.size W W1)
    (hW : W' = ((((W1.setCell ⟨g, (st s pre).1.length * 4, none⟩ (.int .i64 (st s pre).2.1.fr)).setCell ⟨g, (st s pre).1.length * 4 + 1, none⟩ (.int .i64 ((a : Int) + sz s a))).setCell ⟨g, (st s pre).1.length * 4 + 2, none⟩ (.int .i64 (gro s (st s pre).2.1 a).k)).setCell ⟨g, (st s pre).1.length * 4 + 3, none⟩ (.int .i64 (gro s (st s pre).2.1 a).n))) :
    YI s w gu N cu (.slice (some ⟨g, 0, none⟩) ((st s pre).1.length + 1) cap) (pre ++ [a]) (a + sz s a) W' := by
  have h1 := h.grow hb
  have hg := grown4' W1 g ((st s pre).1.length * 4) (.int .i64 (st s pre).2.1.fr) (.int .i64 ((a : Int) + sz s a)) (.int .i64 (gro s (st s pre).2.1 a).k) (.int .i64 (gro s (st s pre).2.1 a).n)
  rw [← hW] at hg
  have hto : (st s pre).2.1.to = a := by rcases h.inv.2.2 with ⟨h, _⟩ | ⟨_, _, h, _⟩; exact absurd h hp; exact h
  have hrow := h1.row
  have e1 : ll s pre = (st s pre).1 ++ [(st s pre).2.1] := by unfold ll; rw [if_neg hp]
  rw [e1, List.length_append, ccl_snoc] at hrow
  have hr := row_last hrow (ccl_len _) (.int .i64 (st s pre).2.1.fr) (.int .i64 ((a : Int) + sz s a)) (.int .i64 (gro s (st s pre).2.1 a).k) (.int .i64 (gro s (st s pre).2.1 a).n)
  rw [← hW] at hr
  refine ⟨inv_step h.inv has, ?_, h1.us.kept hg (.inr (fun e => h1.ne (by cases e; rfl))), h1.below.grown hg h1.below.size (fun k e => by cases e; exact (h1.row.lt g rfl).1)⟩
  rw [hll, List.length_append, ccl_snoc]
  simpa [gro, hto] using hr
theorem YI.last {s : ByteArray} {w W : World} {gu N cu a g cap : Nat} {pre : List Nat} (h : YI s w gu N cu (.slice (some ⟨g, 0, none⟩) ((st s pre).1.length + 1) cap) pre a W) (hp : pre ≠ []) :
    (W.cell? ⟨g, (st s pre).1.length * 4, none⟩ = some (.int .i64 (st s pre).2.1.fr) ∧ W.cell? ⟨g, (st s pre).1.length * 4 + 1, none⟩ = some (.int .i64 (st s pre).2.1.to) ∧ W.cell? ⟨g, (st s pre).1.length * 4 + 2, none⟩ = some (.int .i64 (st s pre).2.1.k) ∧ W.cell? ⟨g, (st s pre).1.length * 4 + 3, none⟩ = some (.int .i64 (st s pre).2.1.n)) ∧
    W.frozen? ⟨g, (st s pre).1.length * 4, none⟩ = false ∧ W.frozen? ⟨g, (st s pre).1.length * 4 + 1, none⟩ = false ∧ W.frozen? ⟨g, (st s pre).1.length * 4 + 2, none⟩ = false ∧ W.frozen? ⟨g, (st s pre).1.length * 4 + 3, none⟩ = false := by
  have hrow := h.row
  have e1 : ll s pre = (st s pre).1 ++ [(st s pre).2.1] := by unfold ll; rw [if_neg hp]
  obtain ⟨e0, e2, e3, e4⟩ := ccl_get (ll s pre) (st s pre).1.length (st s pre).2.1 (by rw [e1]; simp)
  have hl := ccl_len (ll s pre)
  have hl2 : (ll s pre).length = (st s pre).1.length + 1 := by rw [e1]; simp
  rw [hl2] at hrow
  refine ⟨⟨(hrow.cellAt ((st s pre).1.length * 4) (by omega)).trans e0, (hrow.cellAt ((st s pre).1.length * 4 + 1) (by omega)).trans e2, (hrow.cellAt ((st s pre).1.length * 4 + 2) (by omega)).trans e3, (hrow.cellAt ((st s pre).1.length * 4 + 3) (by omega)).trans e4⟩, ?_⟩
  rcases hrow.2 with ⟨h0, _⟩ | ⟨g', cap', cur, hv, _, hgb, _⟩
  · cases h0
  · cases hv
    simp [World.frozen?, hgb]
theorem ll_zero {s : ByteArray} {pre : List Nat} {a : Nat} (h : Inv s pre a) (hp : pre = []) : ll s (pre ++ [a]) = ll s pre ++ [beg s a] := by
  subst hp
  rcases h.2.2 with ⟨_, rfl⟩ | ⟨h, _⟩
  · simp [ll, st, step]
  · exact absurd rfl h
theorem ll_part {s : ByteArray} {pre : List Nat} {a : Nat} (h : Inv s pre a) (hp : pre ≠ []) (hj : jn (st s pre).2.2 (ch s a) = false) : ll s (pre ++ [a]) = ll s pre ++ [beg s a] := by
  have ha : a ≠ 0 := by rcases h.2.2 with ⟨h, _⟩ | ⟨_, h, _⟩; exact absurd h hp; omega
  unfold ll
  rw [if_neg (by simp), if_neg hp, st_part ha hj]
theorem ll_join {s : ByteArray} {pre : List Nat} {a : Nat} (h : Inv s pre a) (hp : pre ≠ []) (hj : jn (st s pre).2.2 (ch s a) = true) : ll s (pre ++ [a]) = (st s pre).1 ++ [gro s (st s pre).2.1 a] := by
  have ha : a ≠ 0 := by rcases h.2.2 with ⟨h, _⟩ | ⟨_, h, _⟩; exact absurd h hp; omega
  unfold ll
  rw [if_neg (by simp), st_join ha hj]
theorem st_ahead (s : ByteArray) (pre : List Nat) (y : Nat) : (st s (pre ++ [y])).2.2 = ch s y := by
  rw [st_snoc]; unfold step; split
  · rfl
  · split <;> rfl

set_option maxRecDepth 100000 in
set_option maxHeartbeats 2000000 in
theorem rlist_pos (s : ByteArray) (hs : s.size * 32 + 32 ≤ 140737488355328) (h0 : 0 < s.size) (w : World) :
    Calls Tryd.prog 22 #[.string s] w fun e W' => ∃ v, e = .returned v ∧ W'.ownsRow w.heap.size 56 4 v (cl s).length (ccl (cl s)) ∧ Below w.heap.size w W' := by
  obtain ⟨i0, hi0, hz0, hz1, hz2⟩ := info_parts infoC
  obtain ⟨N, hN⟩ : ∃ N, (offs s 0).length = N := ⟨_, rfl⟩
  have hNs : N ≤ s.size := by rw [← hN]; exact offs_len_le s
  have hN0 : 0 < N := by rw [← hN, offs_step h0]; simp
  have cU : Calls Tryd.prog 38 #[.string s] w fun e W' => ∃ g cap, e = .returned (.slice (some ⟨g, 0, none⟩) N cap) ∧ W'.ownsRow w.heap.size 82 2 (.slice (some ⟨g, 0, none⟩) N cap) N (ucells s (offs s 0)) ∧ Below w.heap.size w W' := (runits_any s (by omega) w).mono fun e W' ⟨v, h1, h2, h3⟩ => by
    rw [hN] at h2
    obtain ⟨m, hm⟩ : ∃ m, N = m + 1 := ⟨N - 1, by omega⟩
    have h2' := h2
    rw [hm] at h2'
    obtain ⟨g, cap, rfl⟩ := ownsRow_succ h2'
    rw [← hm] at h1 h2
    exact ⟨g, cap, h1, h2, h3⟩
  have HN : Hid ((offs s 0).length = N) := hN
  have hmx : Tryd.prog.follows .mixedOrders = true := by kernel_rfl
  have HMx : Hid (Tryd.prog.follows .mixedOrders = true) := hmx
  clear hN hmx
  go_enter Tryd.func22, Tryd.ntmps22
  go_wp2_with (go_at_call 38; refine cU.mono ?_; clear cU; rintro e w0 ⟨gu, cu, rfl, hu, hb0⟩)
  go_loopw [3, 5, 6] (fun v t u wr => ∃ (pre : List Nat) (a n : Nat), t = .int .i64 a ∧ u = .int .i64 n ∧ Hid (pre.length = n) ∧ n ≤ N ∧ a ≤ s.size ∧ Hid (YI s w gu N cu v pre a wr)) (fun _ _ u _ => N - (intOf u).toNat)
  case atStart => exact ⟨[], 0, 0, rfl, rfl, rfl, Nat.zero_le _, Nat.zero_le _, ⟨inv_start s, World.ownsRow_nil _ _ _ _, hu, hb0⟩⟩
  case round =>
    clear hu hb0
    obtain ⟨pre, a, n, rfl, rfl, HP, hn, ha, HY⟩ := hrel
    by_cases hlt : n < N
    · have hpl : pre ++ offs s a = offs s 0 := HY.out.inv.2.1
      have has : a < s.size := by
        by_cases h : a < s.size
        · exact h
        · rw [offs_end (by omega), List.append_nil] at hpl
          have h1 := HN.out; have h2 := HP.out; rw [← hpl] at h1; omega
      have hat : (offs s 0)[n]? = some a := by
        rw [← hpl, ← HP.out, List.getElem?_append_right (Nat.le_refl _), Nat.sub_self, offs_step has]; rfl
      obtain ⟨u0, u1⟩ := HY.out.cells HN.out n a hat
      have hin := sz_in has
      have hpos := sz_pos has
      have hinv := inv_step HY.out.inv has
      have hml : (ll s pre).length + 1 ≤ s.size + 1 := by
        have h1 := ll_len (s := s) (pre := pre)
        have h2 := HP.out
        unfold ll
        split
        · simp
        · rw [List.length_append]; simp only [List.length_cons, List.length_nil]; omega
      have HAT : Hid ((offs s 0)[n]? = some a) := hat
      have HPL : Hid (pre ++ offs s a = offs s 0) := hpl
      clear hat hpl
      by_cases hp0 : pre = []
      · have g0 : decide (0 < n) = false := decide_eq_false (by have := HP.out; rw [hp0] at this; simp at this; omega)
        have HP0 : Hid (pre = []) := hp0
        clear hp0
        have r1 := cell_regrown u1
        go_wp2
        refine wp_region_quiet_below HMx.out (by kernel_rfl) ?_
        repeat (go_big_quiet_step (fail))
        refine wpQuiet_nil ?_
        intro _ hw'
        obtain ⟨⟨dq, osq⟩, hw''⟩ := hw'
        subst hw''
        dsimp only
        obtain ⟨W2, hW2⟩ : ∃ W2, grow (redrawn wr dq) osq = W2 := ⟨_, rfl⟩
        have HB2 : Hid (Below wr.heap.size wr W2) := by rw [← hW2]; exact below_regrown wr dq osq
        rw [hW2]
        have HY2 : Hid (YI s w gu N cu u3 pre a W2) := HY.out.grow HB2.out
        clear hW2 r1 u0 u1
        have hat2 : (offs s 0)[n]? = some a := HAT.out
        obtain ⟨x0, x1⟩ := HY2.out.cells HN.out n a hat2
        clear hat2
        go_wp2
        have CC : Hid (∀ W, Below W2.heap.size W2 W → Calls Tryd.prog 40 #[.int .i32 (ch s a)] W fun e w' => e = .returned (.int .i64 (cls (ch s a))) ∧ w'.cell? ⟨gu, n * 2 + 1, none⟩ = some (.int .i64 (sz s a)) ∧ Below W2.heap.size W2 w') := fun W hW => (rclass_any (ch s a) W).mono fun e w' ⟨h1, h2⟩ => (by
          have h3 : Below W2.heap.size W2 w' := hW.trans (h2.mono hW.size)
          exact ⟨h1, (h3.cell (p := ⟨gu, n * 2 + 1, none⟩) (HY2.out.us.lt gu rfl).2).trans x1, h3⟩)
        have CE : Hid (∀ W, Below W2.heap.size W2 W → Calls Tryd.prog 41 #[.int .i32 (ch s a)] W fun e w' => e = .returned (.int .i64 (cel (ch s a))) ∧ w'.cell? ⟨gu, n * 2 + 1, none⟩ = some (.int .i64 (sz s a)) ∧ Below W2.heap.size W2 w') := fun W hW => (rcells_any (ch s a) W).mono fun e w' ⟨h1, h2⟩ => (by
          have h3 : Below W2.heap.size W2 w' := hW.trans (h2.mono hW.size)
          exact ⟨h1, (h3.cell (p := ⟨gu, n * 2 + 1, none⟩) (HY2.out.us.lt gu rfl).2).trans x1, h3⟩)
        have hwr : IntKind.i64.wrap ((a : Int) + (sz s a : Int)) = (a : Int) + (sz s a : Int) := by rw [IntKind.wrap_i64]; omega
        have HBB : Hid (∀ W, Below W2.heap.size W2 W → w.heap.size ≤ W.heap.size) := fun W hW => Nat.le_trans HY2.out.below.size hW.size
        go_region_held3 (fun w' => w'.cell? ⟨gu, n * 2 + 1, none⟩ = some (.int .i64 (sz s a))) (go_keep) (first | (go_at_call 40; refine (CC.out _ ?_).mono ?_; (exact ⟨rfl, rfl, rfl, Nat.le_refl _, fun _ _ => rfl⟩); clear CC; rintro e w5 ⟨rfl, a1, hb5⟩) | (go_at_call 41; refine (CE.out _ hb5).mono ?_; clear CE; rintro e w6 ⟨rfl, b1, hb6⟩) | (refine step_append_own rfl (.tmp 64) (.tmp 78) 52 rfl w.heap.size 56 i0 _ 4 32 Tryd.underlying52 hi0 hz0 hz1 hz2 rfl (by decide) u3 _ _ rfl ((row_below' HY2.out.row hb6).alloc _) ⟨w6.heap.size, 0, none⟩ 1 1 [.int .i64 (a : Int), .int .i64 ((a : Int) + sz s a), .int .i64 (cls (ch s a)), .int .i64 (cel (ch s a))] rfl rfl (World.news_of_block (World.alloc_heap_new w6 _)) (by simp [Value.oneCell']) (by unfold maxLen; omega) (by omega) (by have := HBB.out _ hb6; simp; omega) ?_; intro v3 w3 hrow3 hg3; have d3 : w3.cell? ⟨gu, n * 2 + 1, none⟩ = some (.int .i64 (sz s a)) := (grown_cell hg3 (Nat.lt_of_lt_of_le (HY2.out.us.lt gu rfl).2 (Nat.le_trans hb6.size (by simp))) HY2.out.ne).trans (((Below.refl _ w6).alloc (Nat.le_refl _) _ |>.cell (p := ⟨gu, n * 2 + 1, none⟩) (Nat.lt_of_lt_of_le (HY2.out.us.lt gu rfl).2 hb6.size)).trans b1)))
        go_wp2
        exact ⟨⟨pre ++ [a], a + sz s a, n + 1, by go_num, by go_num, (by show (pre ++ [a]).length = n + 1; rw [List.length_append, HP.out]; rfl), by omega, hin, HY2.out.push has (ll_zero HY2.out.inv HP0.out) (hb6.alloc hb6.size _) hg3 hrow3⟩, by simp [intOf]; omega⟩
      · obtain ⟨m, hm⟩ : ∃ m, n = m + 1 := ⟨n - 1, by
          have := HP.out
          cases pre with
          | nil => exact absurd rfl hp0
          | cons x r => simp at this; omega⟩
        obtain ⟨p', y, hpy⟩ : ∃ p' y, pre = p' ++ [y] := ⟨pre.dropLast, pre.getLast hp0, (List.dropLast_concat_getLast hp0).symm⟩
        have hay : (offs s 0)[m]? = some y := by
          rw [← HPL.out, hpy]
          have h1 := HP.out
          rw [hpy, List.length_append] at h1
          simp only [List.length_cons, List.length_nil] at h1
          rw [List.append_assoc, List.getElem?_append_right (by omega), show m - p'.length = 0 by omega]
          rfl
        have hah : (st s pre).2.2 = ch s y := by rw [hpy]; exact st_ahead s p' y
        obtain ⟨y0, y1⟩ := HY.out.cells HN.out m y hay
        have g0 : decide (0 < n) = true := decide_eq_true (by omega)
        have hwm : IntKind.i64.wrap ((n : Int) - 1) = (m : Int) := by rw [IntKind.wrap_i64]; omega
        have hmN : (m : Int) < N := by omega
        have HNE : Hid (pre ≠ []) := hp0
        have HAY : Hid ((offs s 0)[m]? = some y) := hay
        have HNM : Hid (n = m + 1) := hm
        clear hp0 hay hpy hm
        have r0 := cell_regrown u0
        have r1 := cell_regrown u1
        have s0 := cell_regrown y0
        have s1 := cell_regrown y1
        cases hj : jn (st s pre).2.2 (ch s a) with
        | false =>
          have q1 := regrown (v := .bool false) (W := wr) (fun W _ => by have := rjoined_any (ch s y) (ch s a) (sz s y) (sz s a) W; rw [← hah, hj, hah] at this; exact this)
          have HJ : Hid (jn (st s pre).2.2 (ch s a) = false) := hj
          clear hj hah
          go_wp2
          refine wp_region_quiet_below HMx.out (by kernel_rfl) ?_
          repeat (go_big_quiet_step (fail))
          go_big_quiet_step (exact q1 _ _)
          repeat (go_big_quiet_step (fail))
          refine wpQuiet_nil ?_
          intro _ hw'
          obtain ⟨⟨dq, osq⟩, hw''⟩ := hw'
          subst hw''
          dsimp only
          obtain ⟨W2, hW2⟩ : ∃ W2, grow (redrawn wr dq) osq = W2 := ⟨_, rfl⟩
          have HB2 : Hid (Below wr.heap.size wr W2) := by rw [← hW2]; exact below_regrown wr dq osq
          rw [hW2]
          have HY2 : Hid (YI s w gu N cu u3 pre a W2) := HY.out.grow HB2.out
          clear hW2 r0 r1 s0 s1 u0 u1 y0 y1 q1
          have hat2 : (offs s 0)[n]? = some a := HAT.out
          obtain ⟨x0, x1⟩ := HY2.out.cells HN.out n a hat2
          clear hat2
          go_wp2
          have CC : Hid (∀ W, Below W2.heap.size W2 W → Calls Tryd.prog 40 #[.int .i32 (ch s a)] W fun e w' => e = .returned (.int .i64 (cls (ch s a))) ∧ w'.cell? ⟨gu, n * 2 + 1, none⟩ = some (.int .i64 (sz s a)) ∧ Below W2.heap.size W2 w') := fun W hW => (rclass_any (ch s a) W).mono fun e w' ⟨h1, h2⟩ => (by
            have h3 : Below W2.heap.size W2 w' := hW.trans (h2.mono hW.size)
            exact ⟨h1, (h3.cell (p := ⟨gu, n * 2 + 1, none⟩) (HY2.out.us.lt gu rfl).2).trans x1, h3⟩)
          have CE : Hid (∀ W, Below W2.heap.size W2 W → Calls Tryd.prog 41 #[.int .i32 (ch s a)] W fun e w' => e = .returned (.int .i64 (cel (ch s a))) ∧ w'.cell? ⟨gu, n * 2 + 1, none⟩ = some (.int .i64 (sz s a)) ∧ Below W2.heap.size W2 w') := fun W hW => (rcells_any (ch s a) W).mono fun e w' ⟨h1, h2⟩ => (by
            have h3 : Below W2.heap.size W2 w' := hW.trans (h2.mono hW.size)
            exact ⟨h1, (h3.cell (p := ⟨gu, n * 2 + 1, none⟩) (HY2.out.us.lt gu rfl).2).trans x1, h3⟩)
          have hwr : IntKind.i64.wrap ((a : Int) + (sz s a : Int)) = (a : Int) + (sz s a : Int) := by rw [IntKind.wrap_i64]; omega
          have HBB : Hid (∀ W, Below W2.heap.size W2 W → w.heap.size ≤ W.heap.size) := fun W hW => Nat.le_trans HY2.out.below.size hW.size
          go_region_held3 (fun w' => w'.cell? ⟨gu, n * 2 + 1, none⟩ = some (.int .i64 (sz s a))) (go_keep) (first | (go_at_call 40; refine (CC.out _ ?_).mono ?_; (exact ⟨rfl, rfl, rfl, Nat.le_refl _, fun _ _ => rfl⟩); clear CC; rintro e w5 ⟨rfl, a1, hb5⟩) | (go_at_call 41; refine (CE.out _ hb5).mono ?_; clear CE; rintro e w6 ⟨rfl, b1, hb6⟩) | (refine step_append_own rfl (.tmp 64) (.tmp 78) 52 rfl w.heap.size 56 i0 _ 4 32 Tryd.underlying52 hi0 hz0 hz1 hz2 rfl (by decide) u3 _ _ rfl ((row_below' HY2.out.row hb6).alloc _) ⟨w6.heap.size, 0, none⟩ 1 1 [.int .i64 (a : Int), .int .i64 ((a : Int) + sz s a), .int .i64 (cls (ch s a)), .int .i64 (cel (ch s a))] rfl rfl (World.news_of_block (World.alloc_heap_new w6 _)) (by simp [Value.oneCell']) (by unfold maxLen; omega) (by omega) (by have := HBB.out _ hb6; simp; omega) ?_; intro v3 w3 hrow3 hg3; have d3 : w3.cell? ⟨gu, n * 2 + 1, none⟩ = some (.int .i64 (sz s a)) := (grown_cell hg3 (Nat.lt_of_lt_of_le (HY2.out.us.lt gu rfl).2 (Nat.le_trans hb6.size (by simp))) HY2.out.ne).trans (((Below.refl _ w6).alloc (Nat.le_refl _) _ |>.cell (p := ⟨gu, n * 2 + 1, none⟩) (Nat.lt_of_lt_of_le (HY2.out.us.lt gu rfl).2 hb6.size)).trans b1)))
          go_wp2
          exact ⟨⟨pre ++ [a], a + sz s a, n + 1, by go_num, by go_num, (by show (pre ++ [a]).length = n + 1; rw [List.length_append, HP.out]; rfl), by omega, hin, HY2.out.push has (ll_part HY2.out.inv HNE.out HJ.out) (hb6.alloc hb6.size _) hg3 hrow3⟩, by simp [intOf]; omega⟩
        | true =>
          have q1 := regrown (v := .bool true) (W := wr) (fun W _ => by have := rjoined_any (ch s y) (ch s a) (sz s y) (sz s a) W; rw [← hah, hj, hah] at this; exact this)
          have HJ : Hid (jn (st s pre).2.2 (ch s a) = true) := hj
          clear hj hah
          have e1 : ll s pre = (st s pre).1 ++ [(st s pre).2.1] := by unfold ll; rw [if_neg HNE.out]
          have hrow := HY.out.row
          rw [e1, List.length_append] at hrow
          obtain ⟨g, cap, hu3⟩ := ownsRow_succ hrow
          subst hu3
          clear hrow e1
          go_wp2
          refine wp_region_quiet_below HMx.out (by kernel_rfl) ?_
          repeat (go_big_quiet_step (fail))
          go_big_quiet_step (exact q1 _ _)
          repeat (go_big_quiet_step (fail))
          refine wpQuiet_nil ?_
          intro _ hw'
          obtain ⟨⟨dq, osq⟩, hw''⟩ := hw'
          subst hw''
          dsimp only
          obtain ⟨W2, hW2⟩ : ∃ W2, grow (redrawn wr dq) osq = W2 := ⟨_, rfl⟩
          have HB2 : Hid (Below wr.heap.size wr W2) := by rw [← hW2]; exact below_regrown wr dq osq
          rw [hW2]
          have HY2 : Hid (YI s w gu N cu (.slice (some ⟨g, 0, none⟩) ((st s pre).1.length + 1) cap) pre a W2) := HY.out.grow HB2.out
          clear hW2 r0 r1 s0 s1 u0 u1 y0 y1 q1
          have hat2 : (offs s 0)[n]? = some a := HAT.out
          obtain ⟨x0, x1⟩ := HY2.out.cells HN.out n a hat2
          clear hat2
          obtain ⟨⟨z0, z1, z2, z3⟩, f0, f1, f2, f3⟩ := HY2.out.last HNE.out
          have hgu : g ≠ gu := fun e => HY2.out.ne (by rw [e]; rfl)
          have hgl := (HY2.out.row.lt g rfl).2
          have hgul := (HY2.out.us.lt gu rfl).2
          have HT : Hid (∀ W', W' = _ → YI s w gu N cu (.slice (some ⟨g, 0, none⟩) ((st s pre).1.length + 1) cap) (pre ++ [a]) (a + sz s a) W') := fun W' hW' => HY2.out.turn (W1 := W2) has HNE.out (ll_join HY2.out.inv HNE.out HJ.out) (Below.refl _ W2) hW'
          have hlb : ((st s pre).1.length : Int) + 1 ≤ s.size + 1 := by have := ll_len (s := s) (pre := pre); have := HP.out; omega
          by_cases h10 : ch s a = 10
          · have hk1 : (gro s (st s pre).2.1 a).k = 1 := if_pos h10
            have hk2 : (gro s (st s pre).2.1 a).n = 0 := if_pos h10
            rw [hk1, hk2] at HT
            rw [h10] at x0
            have H10 : Hid (ch s a = 10) := h10
            clear hk1 hk2 h10
            generalize (st s pre).2.1.fr = cf at z0 HT
            generalize (st s pre).2.1.to = ct at z1
            generalize (st s pre).2.1.k = ck at z2
            generalize (st s pre).2.1.n = cn at z3
            generalize (st s pre).1.length = L at z0 z1 z2 z3 f0 f1 f2 f3 HT hlb hgl HY2 HY ⊢
            go_wp2
            exact ⟨⟨pre ++ [a], a + sz s a, n + 1, by go_num, by go_num, (by show (pre ++ [a]).length = n + 1; rw [List.length_append, HP.out]; rfl), by omega, hin, (HT.out _ rfl).grow ((Below.refl _ _).alloc (Nat.le_refl _) _)⟩, by simp [intOf]; omega⟩
          · have hk1 : (gro s (st s pre).2.1 a).k = (st s pre).2.1.k := if_neg h10
            have hk2 : (gro s (st s pre).2.1 a).n = (st s pre).2.1.n := if_neg h10
            rw [hk1, hk2] at HT
            clear hk1 hk2
            generalize (st s pre).2.1.fr = cf at z0 HT
            generalize (st s pre).2.1.to = ct at z1
            generalize (st s pre).2.1.k = ck at z2 HT
            generalize (st s pre).2.1.n = cn at z3 HT
            generalize (st s pre).1.length = L at z0 z1 z2 z3 f0 f1 f2 f3 HT hlb hgl HY2 HY ⊢
            go_wp2
            exact ⟨⟨pre ++ [a], a + sz s a, n + 1, by go_num, by go_num, (by show (pre ++ [a]).length = n + 1; rw [List.length_append, HP.out]; rfl), by omega, hin, (HT.out _ rfl).grow ((Below.refl _ _).alloc (Nat.le_refl _) _)⟩, by simp [intOf]; omega⟩
    · have hpl : pre ++ offs s a = offs s 0 := HY.out.inv.2.1
      have hn2 : n = N := by omega
      have he : offs s a = [] := by
        have h1 := HN.out
        have h2 := HP.out
        rw [← hpl, List.length_append] at h1
        exact List.length_eq_zero_iff.1 (by omega)
      rw [he, List.append_nil] at hpl
      have HR := HY.out.row
      have hai : a = s.size := inv_all HY.out.inv hpl
      rw [show ll s pre = cl s by have h := HY.out.inv; rw [hpl, hai] at h; rw [hpl]; exact ll_all h] at HR
      have HR2 : Hid _ := HR
      clear HR hai hpl he hn2
      go_wp2
      go_ret
      exact ⟨_, rfl, Hid.out HR2, HY.out.below⟩
theorem rlist_any (s : ByteArray) (hs : s.size * 32 + 32 ≤ 140737488355328) (w : World) :
    Calls Tryd.prog 22 #[.string s] w fun e W' => ∃ v, e = .returned v ∧ W'.ownsRow w.heap.size 56 4 v (cl s).length (ccl (cl s)) ∧ Below w.heap.size w W' := by
  by_cases h0 : 0 < s.size
  · exact rlist_pos s hs h0 w
  · have hcl : cl s = [] := cl_nil (by omega)
    have ho : offs s 0 = [] := offs_nil (by omega)
    rw [hcl]
    have cU : Calls Tryd.prog 38 #[.string s] w fun e W' => ∃ ao cap, e = .returned (.slice ao 0 cap) ∧ Below w.heap.size w W' := (runits_any s (by omega) w).mono fun e W' ⟨v, h1, h2, h3⟩ => by
      rw [ho] at h2
      rcases h2.2 with ⟨hv, _⟩ | ⟨g, cap, cur, hv, _⟩
      · exact ⟨none, 0, by rw [h1, hv], h3⟩
      · exact ⟨_, cap, by rw [h1, hv]; rfl, h3⟩
    go_enter Tryd.func22, Tryd.ntmps22
    go_wp2_with (go_at_call 38; refine cU.mono ?_; clear cU; rintro e w0 ⟨ao, cap, rfl, hb0⟩)
    go_loopw [3, 5, 6] (fun v t u wr => v = .slice none 0 0 ∧ t = .int .i64 0 ∧ u = .int .i64 0 ∧ w0 = wr) (fun _ _ _ _ => 0)
    case atStart => exact ⟨rfl, rfl, rfl, rfl⟩
    case round =>
      obtain ⟨rfl, rfl, rfl, rfl⟩ := hrel
      go_wp2
      go_ret
      exact ⟨_, rfl, World.ownsRow_nil _ _ _ _, hb0⟩
end Go.Proofs.YtfjoklbiocniiaaDoor
