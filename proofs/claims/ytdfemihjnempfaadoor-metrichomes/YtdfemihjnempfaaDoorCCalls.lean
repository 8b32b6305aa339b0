/-
  What package cluster's Count and Cells answer: how many clusters the text has, and what their cells come to. Conditions: the two tables of unicode/utf8 lie as their text lays them; the text can be read.
-/
import Derived.Test.YtdfemihjnempfaaDoorCIter
import Derived.Test.YtdfemihjnempfaaDoorCMathB
namespace Go.Proofs.YtdfemihjnempfaaDoor
open Go.RowKit Go.Shelf Bod Wid
attribute [local go_sem] Oper.semAt_some

theorem push2 (a : Array Obj) (o0 o1 : Obj) : ((a.push o0).push o1)[a.size]? = some o0 ∧ ((a.push o0).push o1)[a.size + 1]? = some o1 := by
  refine ⟨?_, ?_⟩
  · rw [Array.getElem?_push, if_neg (by simp only [Array.size_push]; omega), Array.getElem?_push_size]
  · rw [← Array.size_push o0, Array.getElem?_push_size]
set_option maxRecDepth 100000 in
set_option maxHeartbeats 1000000 in
theorem count_in (n : Nat) (hn : 5 ≤ n) (s : ByteArray) (hs : s.size ≤ maxLen) (w : World) (hT : Lib.Utf8Tabs 1 2 w) (_hlo0 : 1 < w.heap.size) (hlo1 : 2 < w.heap.size) :
    CallsIn Fence.wide n Tryd.prog 19 #[.string s] w fun e W' => e = .returned (.int .i64 (cl s).length) ∧ Below w.heap.size w W' := by
  have h1 : 1 ≤ n := by omega
  have hm : s.size ≤ 9223372036854775807 := by unfold maxLen at hs; exact hs
  refine callsIn_of_wp_marks Tryd.func19 rfl trivial ?_ rfl
  simp only [Tryd.ntmps19, List.size_toArray, List.length_cons, List.length_nil, Nat.reduceAdd, Nat.reduceSub, Array.replicate_succ, Array.replicate_zero, List.push_toArray, List.append_toArray, List.nil_append, List.cons_append]
  gi_wp2_with (refine ⟨trivial, ?_⟩; gi_at_call 34; refine (walk_in (n - 1) _ _).mono ?_; rintro e w' ⟨rfl, rfl⟩)
  obtain ⟨W2, hW2⟩ : ∃ W2, (w.alloc (.cells #[.int .i64 0] 3)).alloc (.cells #[.string s] 9) = W2 := ⟨_, rfl⟩
  rw [hW2]
  obtain ⟨p0, p1⟩ : W2.heap[w.heap.size]? = some (.cells #[.int .i64 0] 3 (0, 0)) ∧ W2.heap[w.heap.size + 1]? = some (.cells #[.string s] 9 (0, 0)) := by rw [← hW2]; exact push2 w.heap _ _
  have hB0 : Below w.heap.size w W2 := by rw [← hW2]; exact ((Below.refl _ w).alloc (Nat.le_refl _) _).alloc (by simp) _
  have hsz : W2.heap.size = w.heap.size + 2 := by rw [← hW2]; simp
  clear hW2
  refine range_own rfl h1 (gf := 43) (lb := #[.pointer (some ⟨w.heap.size + 1, 0, none⟩)]) rfl trivial (enters_of Tryd.func43 (by kernel_rfl) rfl)
    (clu_seq (n - 1) (by omega) (w.heap.size + 1) (W2.heap.size + 2) (fun k _ => k = w.heap.size) s hs (fun _ h => by omega) (fun _ h => by omega) (fun _ h => by omega) (fun k _ h1 h2 h => by omega) (fun k _ _ h1 h => by omega)
      W2 (by omega) (by omega) (by omega) p1 (tabs_below hT hB0))
    KpT.trans (fun W l o o' _ _ hl ho => KpT.putObj W l o o' hl ho) (fun _ => rfl)
    (fun pre W => W.heap[w.heap.size]? = some (.cells #[.int .i64 pre.length] 3 (0, 0)) ∧ Below w.heap.size w W)
    (fun _ _ _ => False)
    (Ab.and (ab_block (by omega)) (ab_below (by omega) (Nat.le_refl _)))
    (fun _ _ _ _ _ hs _ _ => hs)
    ⟨p0, hB0⟩
    (fun x a' _ => a' = { tmps := #[.string s, undef, .int .i64 0, .pointer (some ⟨w.heap.size, 0, none⟩), .string s, .func (.func 43) #[] #[.pointer (some ⟨w.heap.size + 1, 0, none⟩)], cv x, undef, undef, undef], defers := [] })
    (fun _ _ _ _ _ _ hs _ _ => hs) ?assign ?body ?done ?stop
  case assign =>
    intro l pre x W K hi hK
    gi_wp2
    exact hK _ _ (KeepsFrom.refl _ _) (KpT.refl _ _) hi (by simp [encC])
  case body =>
    rintro l pre x a' W _ _ _ _ ⟨hv, hB⟩ rfl hnx
    have hc : W.cell? ⟨w.heap.size, 0, none⟩ = some (.int .i64 pre.length) := by simp [World.cell?, hv]
    have hf : W.frozen? ⟨w.heap.size, 0, none⟩ = false := by simp [World.frozen?, hv]
    have hlen := (pre_bd hnx).1
    simp only [List.length_append, List.length_cons, List.length_nil] at hlen
    gi_wp2
    exact ⟨kf_cells (gcell _ _ _ _) hv, KpT.of_grown (gcell _ _ _ _) (fun r o e _ => by cases e; rfl), by simpa using set1 (i := 0) (.int .i64 (pre.length + 1)) hv, hB.setCell (p := ⟨w.heap.size, 0, none⟩) (Nat.le_refl _) _⟩
  case done =>
    rintro D ys W hD rfl ⟨hv, hB⟩ hK
    have hc : W.cell? ⟨w.heap.size, 0, none⟩ = some (.int .i64 (cl s).length) := by simp [World.cell?, hv]
    gi_wp2
    refine ⟨by simp, .inl ⟨_, _, rfl, run_takeDeferred hK, ?_⟩⟩
    exact ⟨_, results_tmp rfl _ _ _, rfl, hB.trans (belowK_b (w := w) (Nat.le_refl _) W D _ _ (by omega) hK rfl rfl)⟩
  case stop =>
    rintro D c pre W _ _ h _
    exact h.elim
theorem count_any (s : ByteArray) (hs : s.size ≤ maxLen) (w : World) (hT : Lib.Utf8Tabs 1 2 w) (hlo0 : 1 < w.heap.size) (hlo1 : 2 < w.heap.size) :
    Calls Tryd.prog 19 #[.string s] w fun e W' => e = .returned (.int .i64 (cl s).length) ∧ Below w.heap.size w W' := callsIn_wide.1 (count_in 5 (by omega) s hs w hT hlo0 hlo1)

set_option maxRecDepth 100000 in
set_option maxHeartbeats 1000000 in
theorem ccells_in (n : Nat) (hn : 5 ≤ n) (s : ByteArray) (hs : s.size ≤ maxLen) (hm : s.size ≤ 2305843009213693951) (w : World) (hT : Lib.Utf8Tabs 1 2 w) (_hlo0 : 1 < w.heap.size) (hlo1 : 2 < w.heap.size) :
    CallsIn Fence.wide n Tryd.prog 20 #[.string s] w fun e W' => e = .returned (.int .i64 (sumN (cl s))) ∧ Below w.heap.size w W' := by
  have h1 : 1 ≤ n := by omega
  refine callsIn_of_wp_marks Tryd.func20 rfl trivial ?_ rfl
  simp only [Tryd.ntmps20, List.size_toArray, List.length_cons, List.length_nil, Nat.reduceAdd, Nat.reduceSub, Array.replicate_succ, Array.replicate_zero, List.push_toArray, List.append_toArray, List.nil_append, List.cons_append]
  gi_wp2_with (refine ⟨trivial, ?_⟩; gi_at_call 34; refine (walk_in (n - 1) _ _).mono ?_; rintro e w' ⟨rfl, rfl⟩)
  obtain ⟨W2, hW2⟩ : ∃ W2, (w.alloc (.cells #[.int .i64 0] 3)).alloc (.cells #[.string s] 9) = W2 := ⟨_, rfl⟩
  rw [hW2]
  obtain ⟨p0, p1⟩ : W2.heap[w.heap.size]? = some (.cells #[.int .i64 0] 3 (0, 0)) ∧ W2.heap[w.heap.size + 1]? = some (.cells #[.string s] 9 (0, 0)) := by rw [← hW2]; exact push2 w.heap _ _
  have hB0 : Below w.heap.size w W2 := by rw [← hW2]; exact ((Below.refl _ w).alloc (Nat.le_refl _) _).alloc (by simp) _
  have hsz : W2.heap.size = w.heap.size + 2 := by rw [← hW2]; simp
  clear hW2
  refine range_own rfl h1 (gf := 43) (lb := #[.pointer (some ⟨w.heap.size + 1, 0, none⟩)]) rfl trivial (enters_of Tryd.func43 (by kernel_rfl) rfl)
    (clu_seq (n - 1) (by omega) (w.heap.size + 1) (W2.heap.size + 2) (fun k _ => k = w.heap.size) s hs (fun _ h => by omega) (fun _ h => by omega) (fun _ h => by omega) (fun k _ h1 h2 h => by omega) (fun k _ _ h1 h => by omega)
      W2 (by omega) (by omega) (by omega) p1 (tabs_below hT hB0))
    KpT.trans (fun W l o o' _ _ hl ho => KpT.putObj W l o o' hl ho) (fun _ => rfl)
    (fun pre W => W.heap[w.heap.size]? = some (.cells #[.int .i64 (sumN pre)] 3 (0, 0)) ∧ Below w.heap.size w W)
    (fun _ _ _ => False)
    (Ab.and (ab_block (by omega)) (ab_below (by omega) (Nat.le_refl _)))
    (fun _ _ _ _ _ hs _ _ => hs)
    ⟨p0, hB0⟩
    (fun x a' W' => ∃ Bx, w.heap.size < Bx ∧ W'.heap[Bx]? = some (.cells (cvs x) 46 (0, 0)) ∧
      a' = { tmps := #[.string s, undef, .int .i64 0, .pointer (some ⟨w.heap.size, 0, none⟩), .pointer (some ⟨Bx, 0, none⟩), .string s, .func (.func 43) #[] #[.pointer (some ⟨w.heap.size + 1, 0, none⟩)], cv x, undef, undef, undef, undef, undef], defers := [] })
    (fun x a' _ X Y row h hg hr => h.imp fun Bx hx => ⟨hx.1, (hg.block Bx (Array.getElem?_eq_some_iff.1 hx.2.1).1 (fun e => by
      obtain ⟨_, (h3 | ⟨o, ho, hc⟩)⟩ := hr Bx e.symm
      · omega
      · rw [hx.2.1] at ho; cases ho; cases hc)).trans hx.2.1, hx.2.2⟩)
    ?assign ?body ?done ?stop
  case assign =>
    rintro l pre x W K hi hK
    have hsx := (Array.getElem?_eq_some_iff.1 hi.1).1
    gi_wp2
    exact hK _ _ (kf_below ((Below.refl _ W).alloc (Nat.le_refl _) _)) (KpT.of_below ((Below.refl _ W).alloc (Nat.le_refl _) _)) ⟨(Below.heap_alloc _ _ _ hsx).trans hi.1, hi.2.alloc hi.2.size _⟩ ⟨W.heap.size, hsx, World.alloc_heap_new W _, rfl⟩
  case body =>
    rintro l pre x a' W _ _ _ _ ⟨hv, hB⟩ ⟨Bx, hBx, qx, rfl⟩ hnx
    have hc : W.cell? ⟨w.heap.size, 0, none⟩ = some (.int .i64 (sumN pre)) := by simp [World.cell?, hv]
    have hf : W.frozen? ⟨w.heap.size, 0, none⟩ = false := by simp [World.frozen?, hv]
    obtain ⟨⟨d0, d1, d2, d3⟩, _⟩ := box4 qx
    obtain ⟨_, h3, h4⟩ := pre_bd hnx
    rw [sumN_app] at h3 h4
    simp only [sumN] at h3 h4
    obtain ⟨_, g3, g4⟩ := pre_bd (show pre <+: cl s from (List.prefix_append pre [x]).trans hnx)
    gi_wp2
    exact ⟨kf_cells (gcell _ _ _ _) hv, KpT.of_grown (gcell _ _ _ _) (fun r o e _ => by cases e; rfl), by simpa [sumN_app, sumN] using set1 (i := 0) (.int .i64 (sumN pre + x.n)) hv, hB.setCell (p := ⟨w.heap.size, 0, none⟩) (Nat.le_refl _) _⟩
  case done =>
    rintro D ys W hD rfl ⟨hv, hB⟩ hK
    have hc : W.cell? ⟨w.heap.size, 0, none⟩ = some (.int .i64 (sumN (cl s))) := by simp [World.cell?, hv]
    gi_wp2
    refine ⟨by simp, .inl ⟨_, _, rfl, run_takeDeferred hK, ?_⟩⟩
    exact ⟨_, results_tmp rfl _ _ _, rfl, hB.trans (belowK_b (w := w) (Nat.le_refl _) W D _ _ (by omega) hK rfl rfl)⟩
  case stop =>
    rintro D c pre W _ _ h _
    exact h.elim
theorem ccells_any (s : ByteArray) (hs : s.size ≤ maxLen) (hm : s.size ≤ 2305843009213693951) (w : World) (hT : Lib.Utf8Tabs 1 2 w) (hlo0 : 1 < w.heap.size) (hlo1 : 2 < w.heap.size) :
    Calls Tryd.prog 20 #[.string s] w fun e W' => e = .returned (.int .i64 (sumN (cl s))) ∧ Below w.heap.size w W' := callsIn_wide.1 (ccells_in 5 (by omega) s hs hm w hT hlo0 hlo1)
end Go.Proofs.YtdfemihjnempfaaDoor
