/-
  The law ClusterSums returns true for every text and every number: what is cut at a boundary has, piece by piece, the clusters, cells and drawing of the whole; what is cut elsewhere has no fewer clusters. Its conditions: the text and the number hold together at most 1048576 values and letters; the two tables of unicode/utf8 start as the program's text lays them (the card ties that).
-/
import Derived.Test.YtjgeeimkcghmoaaDoorCFixed
import Derived.Test.YtjgeeimkcghmoaaDoorCMathF
import Derived.Lib.QuietBelow
namespace Go.Proofs.YtjgeeimkcghmoaaDoor.clusterSums
open Go.RowKit Go.Sort Bod Wid

/-- a call that only makes memory, in a region that draws its order -/
theorem regrown {f : Nat} {args : Array Value} {v : Value} {W : World} (h : ∀ w, Below W.heap.size W w → Calls Tryd.prog f args w fun e w' => e = .returned v ∧ Below w.heap.size w w') :
    ∀ d os, Calls Tryd.prog f args (grow (redrawn W d) os) fun e w'' => e = .returned v ∧ ∃ p : Regrown, w'' = grow (redrawn W p.d) p.os := fun d os => Calls.regrown_of (h _ (below_regrown W d os))

set_option maxRecDepth 100000 in
set_option maxHeartbeats 2000000 in
theorem walk_out (s : ByteArray) (i : Int) (hs : s.size ≤ 1048576) (h : i < 0 ∨ (s.size : Int) < i) (hi : i ≤ 9223372036854775807) (w : World) (hT : Lib.Utf8Tabs 0 1 w) (hlo0 : 0 < w.heap.size) (hlo1 : 1 < w.heap.size) :
    Calls Tryd.prog 8 #[.string s, .int .i64 i] w fun e w' => e = .returned (.bool true) ∧ Below w.heap.size w w' := by
  have hs' : s.size ≤ maxLen := by unfold maxLen; omega
  have cF := fixed_any w hT hlo0 hlo1
  have CB : Hid (∀ W, Below w.heap.size w W → Calls Tryd.prog 10 #[.string s, .int .i64 i] W fun e w' => e = .returned (.bool false) ∧ Below w.heap.size w w') := fun W hW =>
    (cbound_any s i hs' W (tabs_below hT hW) hi).mono fun e w' ⟨h1, h2⟩ => ⟨by rw [h1, cb_out h], hW.trans (h2.mono hW.size)⟩
  by_cases h0 : i < 0
  · clear h
    go_enter Tryd.func8, Tryd.ntmps8
    go_wp2_with (first | (go_at_call 9; refine cF.mono ?_; clear cF; rintro e w1 ⟨rfl, hb1⟩) | (go_at_call 10; refine (CB.out _ hb1).mono ?_; clear CB; rintro e w2 ⟨rfl, hb2⟩))
    go_ret
    exact ⟨rfl, hb2⟩
  · have h1 : (s.size : Int) < i := by omega
    clear h
    go_enter Tryd.func8, Tryd.ntmps8
    go_wp2_with (first | (go_at_call 9; refine cF.mono ?_; clear cF; rintro e w1 ⟨rfl, hb1⟩) | (go_at_call 10; refine (CB.out _ hb1).mono ?_; clear CB; rintro e w2 ⟨rfl, hb2⟩))
    go_ret
    exact ⟨rfl, hb2⟩

set_option maxRecDepth 100000 in
set_option maxHeartbeats 2000000 in
theorem walk_in (s : ByteArray) (i : Nat) (hs : s.size ≤ 1048576) (hi : i ≤ s.size) (w : World) (hT : Lib.Utf8Tabs 0 1 w) (hlo0 : 0 < w.heap.size) (hlo1 : 1 < w.heap.size) :
    Calls Tryd.prog 8 #[.string s, .int .i64 i] w fun e w' => e = .returned (.bool true) ∧ Below w.heap.size w w' := by
  obtain ⟨a, ha⟩ : ∃ a, s.extract 0 i = a := ⟨_, rfl⟩
  obtain ⟨b, hb⟩ : ∃ b, s.extract i s.size = b := ⟨_, rfl⟩
  have hab : a ++ b = s := by rw [← ha, ← hb]; exact extract_cut s i hi
  have hza : a.size = i := by rw [← ha, size_extract _ _ _ hi]; omega
  have hzb : b.size ≤ 1048576 := by rw [← hb, size_extract _ _ _ (Nat.le_refl _)]; omega
  have m1 : ∀ t : ByteArray, t.size ≤ 1048576 → t.size ≤ maxLen := fun t h => by unfold maxLen; omega
  have KC : ∀ (t : ByteArray), t.size ≤ 1048576 → ∀ W, Below w.heap.size w W → Calls Tryd.prog 21 #[.string t] W fun e w' => e = .returned (.int .i64 (cl t).length) ∧ Below W.heap.size W w' := fun t ht W hW =>
    count_any t (m1 t ht) W (tabs_below hT hW) (Nat.lt_of_lt_of_le hlo0 hW.size) (Nat.lt_of_lt_of_le hlo1 hW.size)
  have KE : ∀ (t : ByteArray), t.size ≤ 1048576 → ∀ W, Below w.heap.size w W → Calls Tryd.prog 23 #[.string t] W fun e w' => e = .returned (.int .i64 (sumN (cl t))) ∧ Below W.heap.size W w' := fun t ht W hW =>
    ccells_any t (m1 t ht) (by omega) W (tabs_below hT hW) (Nat.lt_of_lt_of_le hlo0 hW.size) (Nat.lt_of_lt_of_le hlo1 hW.size)
  have KD : ∀ (t : ByteArray), t.size ≤ 1048576 → ∀ W, Below w.heap.size w W → Calls Tryd.prog 25 #[.string t] W fun e w' => e = .returned (.string ⟨(drawnL t (cl t)).toArray⟩) ∧ Below W.heap.size W w' := fun t ht W hW =>
    drawn_any t (m1 t ht) (by omega) W (tabs_below hT hW) (Nat.lt_of_lt_of_le hlo0 hW.size) (Nat.lt_of_lt_of_le hlo1 hW.size)
  have cF := fixed_any w hT hlo0 hlo1
  have la := cl_len a
  have lb := cl_len b
  have hwr : IntKind.i64.wrap (((cl a).length : Int) + ((cl b).length : Int)) = ((cl a).length : Int) + ((cl b).length : Int) := by rw [IntKind.wrap_i64]; omega
  have HKC : Hid _ := KC
  have HKE : Hid _ := KE
  have HKD : Hid _ := KD
  have hmix : Tryd.prog.follows .mixedOrders = true := by kernel_rfl
  have HM : Hid (Tryd.prog.follows .mixedOrders = true) := hmix
  clear KC KE KD hmix
  go_enter Tryd.func8, Tryd.ntmps8
  go_wp2_with (go_at_call 9; refine cF.mono ?_; clear cF; rintro e w1 ⟨rfl, hb1⟩)
  have HB : Hid (Below w.heap.size w w1) := hb1
  have HB1 : Hid (Below w.heap.size w w1) := hb1
  clear hb1
  have q1 := regrown (v := .int .i64 (cl a).length) (W := w1) (fun W hW => HKC.out a (by omega) W (HB1.out.trans (hW.mono HB1.out.size)))
  have q2 := regrown (v := .int .i64 (cl b).length) (W := w1) (fun W hW => HKC.out b hzb W (HB1.out.trans (hW.mono HB1.out.size)))
  refine wp_region_quiet_below HM.out (by kernel_rfl) ?_
  repeat (quiet_step (fail))
  quiet_step (exact q1 _ _)
  repeat (quiet_step (fail))
  quiet_step (exact q2 _ _)
  repeat (quiet_step (fail))
  refine wpQuiet_nil ?_
  intro _ hw'
  obtain ⟨⟨dq, osq⟩, hw''⟩ := hw'
  subst hw''
  have HB2 : Hid (Below w.heap.size w (grow (redrawn w1 dq) osq)) := HB1.out.trans ((below_regrown w1 dq osq).mono HB1.out.size)
  obtain ⟨W2, hW2⟩ : ∃ W2, grow (redrawn w1 dq) osq = W2 := ⟨_, rfl⟩
  dsimp only
  rw [hW2] at HB2 ⊢
  clear hW2 q1 q2 HB HB1
  have cB : Calls Tryd.prog 10 #[.string s, .int .i64 i] W2 fun e w' => e = .returned (.bool (cbZ s i)) ∧ Below w.heap.size w w' :=
    (cbound_any s i (m1 s hs) W2 (tabs_below hT HB2.out) (by omega)).mono fun e w' ⟨h1, h2⟩ => ⟨h1, HB2.out.trans (h2.mono HB2.out.size)⟩
  cases hc : cbZ s i with
  | false =>
    rw [hc] at cB
    have hle : (cl s).length ≤ (cl a).length + (cl b).length := by rw [← hab]; exact cl_none
    have CS : Hid (∀ W, Below w.heap.size w W → Calls Tryd.prog 21 #[.string s] W fun e w' => e = .returned (.int .i64 (cl s).length) ∧ Below w.heap.size w w') := fun W hW =>
      (HKC.out s hs W hW).mono fun e w' ⟨h1, h2⟩ => ⟨h1, hW.trans (h2.mono hW.size)⟩
    have hge : decide (((cl s).length : Int) ≤ ((cl a).length : Int) + ((cl b).length : Int)) = true := decide_eq_true (by omega)
    clear hc hab
    go_wp2_with (first | (go_at_call 10; refine cB.mono ?_; clear cB; rintro e w3 ⟨rfl, hb3⟩; have HB3 : Hid (Below w.heap.size w w3) := hb3; clear hb3) | (go_at_call 21; refine (CS.out _ HB3.out).mono ?_; clear CS; rintro e w4 ⟨rfl, hb4⟩))
    go_ret
    exact ⟨ret_bool (by first | exact hge | simp), hb4⟩
  | true =>
    rw [hc] at cB
    have hc' : cbZ (a ++ b) a.size = true := by rw [hab, hza]; exact hc
    have n1 : ((cl s).length : Int) = ((cl a).length : Int) + ((cl b).length : Int) := by
      rw [← hab, cl_cut hc', List.length_append, List.length_map]; omega
    have n2 : sumN (cl s) = sumN (cl a) + sumN (cl b) := by rw [← hab, cl_cut hc', sumN_app, sumN_sh]
    have n3 : (⟨(drawnL s (cl s)).toArray⟩ : ByteArray) = ⟨(drawnL a (cl a)).toArray⟩ ++ ⟨(drawnL b (cl b)).toArray⟩ := by
      rw [← hab, drawn_cut hc']
      apply ByteArray.ext
      simp
    have sa := sumN_bd (cl a) (cl_n a)
    have sb := sumN_bd (cl b) (cl_n b)
    have hws : IntKind.i64.wrap (sumN (cl a) + sumN (cl b)) = sumN (cl a) + sumN (cl b) := by rw [IntKind.wrap_i64]; omega
    go_wp2_with (go_at_call 10; refine cB.mono ?_; clear cB; rintro e w3 ⟨rfl, hb3⟩; have HB3 : Hid (Below w.heap.size w w3) := hb3; clear hb3)
    have q0 := regrown (v := .int .i64 (((cl a).length : Int) + ((cl b).length : Int))) (W := w3) (fun W hW => by rw [← n1]; exact HKC.out s hs W (HB3.out.trans (hW.mono HB3.out.size)))
    have q1 := regrown (v := .int .i64 (sumN (cl a))) (W := w3) (fun W hW => HKE.out a (by omega) W (HB3.out.trans (hW.mono HB3.out.size)))
    have q2 := regrown (v := .int .i64 (sumN (cl b))) (W := w3) (fun W hW => HKE.out b hzb W (HB3.out.trans (hW.mono HB3.out.size)))
    have q3 := regrown (v := .int .i64 (sumN (cl a) + sumN (cl b))) (W := w3) (fun W hW => by rw [← n2]; exact HKE.out s hs W (HB3.out.trans (hW.mono HB3.out.size)))
    have q4 := regrown (v := .string ⟨(drawnL a (cl a)).toArray⟩) (W := w3) (fun W hW => HKD.out a (by omega) W (HB3.out.trans (hW.mono HB3.out.size)))
    have q5 := regrown (v := .string ⟨(drawnL b (cl b)).toArray⟩) (W := w3) (fun W hW => HKD.out b hzb W (HB3.out.trans (hW.mono HB3.out.size)))
    have q6 := regrown (v := .string (⟨(drawnL a (cl a)).toArray⟩ ++ ⟨(drawnL b (cl b)).toArray⟩)) (W := w3) (fun W hW => by rw [← n3]; exact HKD.out s hs W (HB3.out.trans (hW.mono HB3.out.size)))
    have za : (⟨(drawnL a (cl a)).toArray⟩ : ByteArray).size ≤ 3145728 := by have := pre_drawn (List.prefix_refl (cl a)); rw [Lib.size_eq]; show (drawnL a (cl a)).length ≤ _; omega
    have zb : (⟨(drawnL b (cl b)).toArray⟩ : ByteArray).size ≤ 3145728 := by have := pre_drawn (List.prefix_refl (cl b)); rw [Lib.size_eq]; show (drawnL b (cl b)).length ≤ _; omega
    generalize (⟨(drawnL a (cl a)).toArray⟩ : ByteArray) = da at q4 q6 za
    generalize (⟨(drawnL b (cl b)).toArray⟩ : ByteArray) = db at q5 q6 zb
    have hds : ¬ 9223372036854775807 < da.size + db.size := by omega
    clear za zb
    clear n1 n2 n3 hc hc' hab sa sb
    generalize sumN (cl a) = xa at q1 q3 hws
    generalize sumN (cl b) = xb at q2 q3 hws
    generalize ((cl a).length : Int) = ya at q0 hwr ⊢
    generalize ((cl b).length : Int) = yb at q0 hwr ⊢
    refine wp_region_quiet_below HM.out (by kernel_rfl) ?_
    repeat (quiet_step (fail))
    quiet_step (exact q0 _ _)
    repeat (quiet_step (fail))
    quiet_step (exact q1 _ _)
    repeat (quiet_step (fail))
    quiet_step (exact q2 _ _)
    repeat (quiet_step (fail))
    quiet_step (exact q3 _ _)
    repeat (quiet_step (fail))
    quiet_step (exact q4 _ _)
    repeat (quiet_step (fail))
    quiet_step (exact q5 _ _)
    repeat (quiet_step (fail))
    quiet_step (exact q6 _ _)
    repeat (quiet_step (fail))
    refine wpQuiet_nil ?_
    intro _ hw'
    obtain ⟨⟨dr, osr⟩, hw''⟩ := hw'
    subst hw''
    go_wp2
    go_ret
    exact ⟨rfl, HB3.out.trans ((below_regrown w3 dr osr).mono HB3.out.size)⟩
theorem walk_of {H : Type} (s : ByteArray) (i : Int) (w : World) (hT : Lib.Utf8Tabs 0 1 w) (hlo0 : 0 < w.heap.size) (hlo1 : 1 < w.heap.size) (_hz : s.size ≤ 140737488351232) (hb : -9223372036854775808 ≤ i ∧ i ≤ 9223372036854775807) (hk : Rows.uptoSmall H ([DataW.lit (.string s.data.toList), DataW.lit (.int .i64 i)] ++ []) = true) :
    Calls Tryd.prog 8 #[.string s, .int .i64 i] w fun e w' => e = .returned (.bool true) ∧ Below w.heap.size w w' := by
  have h : Rows.uptoBulkAll ([DataW.lit (H := H) (.string s.data.toList), DataW.lit (H := H) (.int .i64 i)] ++ []) ≤ 1048576 := of_decide_eq_true hk
  simp only [List.append_nil, Rows.uptoBulkAll, Rows.uptoBulk] at h
  have hs : s.size ≤ 1048576 := by rw [Lib.size_eq]; omega
  by_cases ho : i < 0 ∨ (s.size : Int) < i
  · exact walk_out s i hs ho hb.2 w hT hlo0 hlo1
  · obtain ⟨k, rfl⟩ := Int.eq_ofNat_of_zero_le (show 0 ≤ i by omega)
    exact walk_in s k hs (by omega) w hT hlo0 hlo1
end Go.Proofs.YtjgeeimkcghmoaaDoor.clusterSums
