/-
  The walk of the law PaintEnds: Fit, Full, Next and Goto end at frames and places of any kind; a place's bytes begin and end as they must. Conditions: those of walk_of.
-/
import Derived.Test.YtcgnfjcbafmbgaaDoorPArg
import Derived.Test.YtcgnfjcbafmbgaaDoorPFix
namespace Go.Proofs.YtcgnfjcbafmbgaaDoor.paintEnds
open Go.RowKit Go.Shelf Bod Wid
theorem push3p (a : Array Obj) (o0 o1 o2 : Obj) : (((a.push o0).push o1).push o2)[a.size]? = some o0 ∧ (((a.push o0).push o1).push o2)[a.size + 1]? = some o1 ∧ (((a.push o0).push o1).push o2)[a.size + 1 + 1]? = some o2 := by
  have hs : ((a.push o0).push o1).size = a.size + 1 + 1 := by simp only [Array.size_push]
  have hs1 : (a.push o0).size = a.size + 1 := by simp only [Array.size_push]
  refine ⟨?_, ?_, ?_⟩
  · rw [Array.getElem?_push, if_neg (by omega), Array.getElem?_push, if_neg (by omega), Array.getElem?_push, if_pos rfl]
  · rw [Array.getElem?_push, if_neg (by omega), Array.getElem?_push, if_pos (by omega)]
  · rw [Array.getElem?_push, if_pos (by omega)]
theorem ext_two (a b : UInt8) (l : List UInt8) : (⟨(a :: b :: l).toArray⟩ : ByteArray).extract 0 2 = ⟨#[a, b]⟩ := by
  apply ByteArray.ext
  rw [ByteArray.data_extract]
  simp
theorem get_end (X : List UInt8) (y : UInt8) (h : X.length < (⟨(X ++ [y]).toArray⟩ : ByteArray).size) : (⟨(X ++ [y]).toArray⟩ : ByteArray)[X.length]'h = y := by
  rw [ByteArray.getElem_eq_getElem_data]
  simp
theorem dec_pos (u : Nat) : 1 ≤ (Lib.decDigits u).length := by
  rw [Lib.decDigits]
  split <;> simp
theorem cntL_pos (n : Int) : 1 ≤ (cntL n).length := by
  have h := cntN_in n
  obtain ⟨u, hu⟩ := Int.eq_ofNat_of_zero_le (show 0 ≤ cntN n by omega)
  unfold cntL
  rw [hu, show Lib.itoa (u : Int) = Lib.decDigits u from Lib.itoa_nonneg u]
  exact dec_pos u
set_option maxRecDepth 100000 in
set_option maxHeartbeats 4000000 in
theorem walk (v1 v2 : Value) (f g : Fm) (r c : Int) (hf : Fs f) (hg : Fs g) (hzf : fwt f ≤ 1099511627776) (hzg : fwt g ≤ 1099511627776) (w : World) (hw : Pw w) (h1 : RdFm w v1 f) (h2 : RdFm w v2 g) :
    Calls Tryd.prog 6 #[v1, v2, plv r c] w fun e w' => e = .returned (.bool true) ∧ Below w.heap.size w w' := by
  have CX : Hid (∀ X, Below w.heap.size w X → Calls Tryd.prog 7 #[] X fun e w' => e = .returned (.bool true) ∧ Hid (Below X.heap.size X w')) := fun X hX => fixed_any X (hw.below hX)
  have CT : Hid (∀ X, Below w.heap.size w X → Calls Tryd.prog 10 #[v1] X fun e w' => (∃ u, e = .returned u) ∧ Hid (Below X.heap.size X w')) := fun X hX => (fit_any v1 f hf X (hw.below hX).1 (h1.below (Nat.le_refl _) hX)).mono fun e w' h => ⟨⟨_, h.1⟩, h.2⟩
  have CU : Hid (∀ X, Below w.heap.size w X → Calls Tryd.prog 15 #[v2] X fun e w' => (∃ u, e = .returned u) ∧ Hid (Below X.heap.size X w')) := fun X hX => (full_any v2 g hg hzg X (hw.below hX) (h2.below (Nat.le_refl _) hX)).mono fun e w' h => ⟨⟨_, h.1⟩, h.2⟩
  have CN : Hid (∀ X, Below w.heap.size w X → Calls Tryd.prog 17 #[v1, v2] X fun e w' => (∃ u, e = .returned u) ∧ Hid (Below X.heap.size X w')) := fun X hX => (pnxt_any v1 v2 f g hf hg hzg X (hw.below hX) (h1.below (Nat.le_refl _) hX) (h2.below (Nat.le_refl _) hX)).mono fun e w' h => ⟨⟨_, h.1⟩, h.2⟩
  have CM : Hid (∀ X, Below w.heap.size w X → Calls Tryd.prog 17 #[.agg #[.int .i64 0, .slice none 0 0, .int .i64 0, .int .i64 0], v1] X fun e w' => (∃ u, e = .returned u) ∧ Hid (Below X.heap.size X w')) := fun X hX => (pnxt_any (.agg #[.int .i64 0, .slice none 0 0, .int .i64 0, .int .i64 0]) v1 ⟨0, [], 0, 0⟩ f ⟨by decide, fun l hl => by cases hl⟩ hf hzf X (hw.below hX) ⟨_, rfl, ⟨_, _, rfl, fun h => absurd rfl h⟩⟩ (h1.below (Nat.le_refl _) hX)).mono fun e w' h => ⟨⟨_, h.1⟩, h.2⟩
  have CG : Hid (∀ X, Below w.heap.size w X → Calls Tryd.prog 12 #[.agg #[.int .i64 r, .int .i64 c]] X fun e w' => e = .returned (.string ⟨(gotoL r c).toArray⟩) ∧ Hid (Below X.heap.size X w')) := fun X hX => goto_any r c X (hw.below hX)
  have CR : Hid (∀ X, Below w.heap.size w X → Calls Tryd.prog 8 #[.slice none 0 0] X fun e w' => e = .returned (.string ⟨#[]⟩) ∧ Hid (Below X.heap.size X w')) := fun X hX => prow_any (.slice none 0 0) [] (by decide) (by simp [rowL]) X ⟨_, _, rfl, fun h => absurd rfl h⟩
  obtain ⟨r1, rfl, k1⟩ := h1
  obtain ⟨r2, rfl, k2⟩ := h2
  obtain ⟨a1, c1, rfl, -⟩ := k1
  obtain ⟨a2, c2, rfl, -⟩ := k2
  obtain ⟨fw, fR, fr, fc⟩ := f
  obtain ⟨gw, gR, gr, gc⟩ := g
  simp only at CT CU CN CM ⊢
  generalize fR.length = n1 at CT CU CN CM ⊢
  generalize gR.length = n2 at CT CU CN CM ⊢
  unfold plv
  have hs1 : 6 ≤ (gotoL r c).length := by
    have h1 := cntL_pos r
    have h2 := cntL_pos c
    simp only [gotoL, List.length_append, List.length_cons, List.length_nil]
    omega
  clear hf hg hzf hzg hw
  obtain ⟨s, hs⟩ : ∃ s : ByteArray, (⟨(gotoL r c).toArray⟩ : ByteArray) = s := ⟨_, rfl⟩
  rw [hs] at CG
  have hs2 := gotoL_len r c
  have hsz : s.size = (gotoL r c).length := by rw [← hs]; show (gotoL r c).toArray.size = _; rw [List.size_toArray]
  obtain ⟨m, hm⟩ : ∃ m, s.size = m + 1 := ⟨s.size - 1, by omega⟩
  have e0 : s.extract 0 2 = ⟨#[27, 91]⟩ := by rw [← hs]; exact ext_two 27 91 _
  have e1 : wrap64 ((s.size : Int) - 1) = (m : Int) := by unfold wrap64; omega
  have e2 : m < s.size := by omega
  have e3 : (m : Int) < (s.size : Int) := by omega
  have e4 : (s.size : Int) ≥ 6 := by omega
  have e5 : (2 : Int) ≤ (s.size : Int) := by omega
  have e6 : 2 ≤ s.size := by omega
  have e7 : s[m]'e2 = 72 := by
    subst hs
    have hml : m = ([27, 91] ++ cntL r ++ [59] ++ cntL c).length := by
      have h1 : (gotoL r c).length = ([27, 91] ++ cntL r ++ [59] ++ cntL c).length + 1 := by rw [gotoL, List.length_append]; rfl
      omega
    subst hml
    exact get_end _ 72 _
  clear hs2 hsz
  clear hs1 hs hm
  have HW0 : Hid (Below w.heap.size w (((w.alloc (.cells #[.int .i64 fw, .slice a1 n1 c1, .int .i64 fr, .int .i64 fc] 26)).alloc (.cells #[.int .i64 gw, .slice a2 n2 c2, .int .i64 gr, .int .i64 gc] 26)).alloc (.cells #[.int .i64 r, .int .i64 c] 24)) ∧ ((((w.alloc (.cells #[.int .i64 fw, .slice a1 n1 c1, .int .i64 fr, .int .i64 fc] 26)).alloc (.cells #[.int .i64 gw, .slice a2 n2 c2, .int .i64 gr, .int .i64 gc] 26)).alloc (.cells #[.int .i64 r, .int .i64 c] 24)).heap[w.heap.size]? = some (.cells #[.int .i64 fw, .slice a1 n1 c1, .int .i64 fr, .int .i64 fc] 26 (0, 0)) ∧ (((w.alloc (.cells #[.int .i64 fw, .slice a1 n1 c1, .int .i64 fr, .int .i64 fc] 26)).alloc (.cells #[.int .i64 gw, .slice a2 n2 c2, .int .i64 gr, .int .i64 gc] 26)).alloc (.cells #[.int .i64 r, .int .i64 c] 24)).heap[w.heap.size + 1]? = some (.cells #[.int .i64 gw, .slice a2 n2 c2, .int .i64 gr, .int .i64 gc] 26 (0, 0)) ∧ (((w.alloc (.cells #[.int .i64 fw, .slice a1 n1 c1, .int .i64 fr, .int .i64 fc] 26)).alloc (.cells #[.int .i64 gw, .slice a2 n2 c2, .int .i64 gr, .int .i64 gc] 26)).alloc (.cells #[.int .i64 r, .int .i64 c] 24)).heap[w.heap.size + 1 + 1]? = some (.cells #[.int .i64 r, .int .i64 c] 24 (0, 0)))) := ⟨(((Below.refl _ w).alloc (Nat.le_refl _) _).alloc (by simp) _).alloc (by simp; omega) _, push3p w.heap (.cells #[.int .i64 fw, .slice a1 n1 c1, .int .i64 fr, .int .i64 fc] 26) (.cells #[.int .i64 gw, .slice a2 n2 c2, .int .i64 gr, .int .i64 gc] 26) (.cells #[.int .i64 r, .int .i64 c] 24)⟩
  have HT : Hid (∀ X Y : World, Below w.heap.size w X ∧ (X.heap[w.heap.size]? = some (.cells #[.int .i64 fw, .slice a1 n1 c1, .int .i64 fr, .int .i64 fc] 26 (0, 0)) ∧ X.heap[w.heap.size + 1]? = some (.cells #[.int .i64 gw, .slice a2 n2 c2, .int .i64 gr, .int .i64 gc] 26 (0, 0)) ∧ X.heap[w.heap.size + 1 + 1]? = some (.cells #[.int .i64 r, .int .i64 c] 24 (0, 0))) → Below X.heap.size X Y → Below w.heap.size w Y ∧ (Y.heap[w.heap.size]? = some (.cells #[.int .i64 fw, .slice a1 n1 c1, .int .i64 fr, .int .i64 fc] 26 (0, 0)) ∧ Y.heap[w.heap.size + 1]? = some (.cells #[.int .i64 gw, .slice a2 n2 c2, .int .i64 gr, .int .i64 gc] 26 (0, 0)) ∧ Y.heap[w.heap.size + 1 + 1]? = some (.cells #[.int .i64 r, .int .i64 c] 24 (0, 0)))) := fun X Y hX hY => ⟨hX.1.trans (hY.mono hX.1.size), (hY.block _ (Array.getElem?_eq_some_iff.1 hX.2.1).1).trans hX.2.1, (hY.block _ (Array.getElem?_eq_some_iff.1 hX.2.2.1).1).trans hX.2.2.1, (hY.block _ (Array.getElem?_eq_some_iff.1 hX.2.2.2).1).trans hX.2.2.2⟩
  go_enter Tryd.func6, Tryd.ntmps6
  go_wp2_with (first
    | (go_at_call 7; refine (CX.out _ HW0.out.1).mono ?_; clear CX; rintro e w1 ⟨rfl, HB1⟩; have HX1 := HT.out _ w1 HW0.out HB1.out; obtain ⟨⟨x0, x1, x2, x3⟩, -⟩ := box4 HX1.2.1; replace HX1 : Hid _ := HX1)
    | (go_at_call 10; refine (CT.out _ HX1.out.1).mono ?_; clear CT x0 x1 x2 x3; rintro e w2 ⟨⟨u2, rfl⟩, HB2⟩; have HX2 := HT.out _ w2 HX1.out HB2.out; obtain ⟨⟨x0, x1, x2, x3⟩, -⟩ := box4 HX2.2.2.1; replace HX2 : Hid _ := HX2)
    | (go_at_call 15; refine (CU.out _ HX2.out.1).mono ?_; clear CU x0 x1 x2 x3; rintro e w3 ⟨⟨u3, rfl⟩, HB3⟩; have HX3 := HT.out _ w3 HX2.out HB3.out; obtain ⟨⟨x0, x1, x2, x3⟩, -⟩ := box4 HX3.2.1; obtain ⟨⟨y0, y1, y2, y3⟩, -⟩ := box4 HX3.2.2.1; replace HX3 : Hid _ := HX3)
    | (go_at_call 17; refine (CN.out _ HX3.out.1).mono ?_; clear CN x0 x1 x2 x3 y0 y1 y2 y3; rintro e w4 ⟨⟨u4, rfl⟩, HB4⟩; have HX4 := HT.out _ w4 HX3.out HB4.out; obtain ⟨⟨x0, x1, x2, x3⟩, -⟩ := box4 HX4.2.1; replace HX4 : Hid _ := HX4)
    | (go_at_call 17; refine (CM.out _ HX4.out.1).mono ?_; clear CM x0 x1 x2 x3; rintro e w5 ⟨⟨u5, rfl⟩, HB5⟩; have HX5 := HT.out _ w5 HX4.out HB5.out; obtain ⟨x0, x1⟩ := box2f HX5.2.2.2; replace HX5 : Hid _ := HX5)
    | (go_at_call 12; refine (CG.out _ HX5.out.1).mono ?_; clear CG x0 x1; rintro e w6 ⟨rfl, HB6⟩; have HX6 := HT.out _ w6 HX5.out HB6.out; replace HX6 : Hid _ := HX6)
    | (go_at_call 8; refine (CR.out _ HX6.out.1).mono ?_; clear CR; rintro e w7 ⟨rfl, HB7⟩; have HX7 := HT.out _ w7 HX6.out HB7.out; replace HX7 : Hid _ := HX7))
  go_ret
  exact ⟨rfl, HX7.out.1⟩
theorem fs_w {f : Fm} (h : fwt f ≤ 1048576) : Fs f := by
  have q1 := fwt_len f
  refine ⟨by omega, fun l hl => ?_⟩
  have q2 := fwt_mem hl
  have q3 := rwt_len l
  refine ⟨by omega, fun c hc => ?_⟩
  have q4 := rwt_mem hc
  unfold maxLen
  omega
theorem walk_of {H : Type} {d1 d2 d3 : DataW H} (v1 : Value) (f : Fm) (v2 : Value) (g : Fm) (p : Int × Int) (w : World) (hT : Pw w) (h1 : RdFm w v1 f) (hx : fwt f ≤ Rows.uptoBulk d1 ∧ (-9223372036854775808 ≤ f.w ∧ f.w ≤ 9223372036854775807) ∧ (-9223372036854775808 ≤ f.r ∧ f.r ≤ 9223372036854775807) ∧ (-9223372036854775808 ≤ f.c ∧ f.c ≤ 9223372036854775807)) (h2 : RdFm w v2 g) (hy : fwt g ≤ Rows.uptoBulk d2 ∧ (-9223372036854775808 ≤ g.w ∧ g.w ≤ 9223372036854775807) ∧ (-9223372036854775808 ≤ g.r ∧ g.r ≤ 9223372036854775807) ∧ (-9223372036854775808 ≤ g.c ∧ g.c ≤ 9223372036854775807)) (hk : Rows.uptoSmall H ([d1, d2, d3] ++ []) = true) :
    Calls Tryd.prog 6 #[v1, v2, plv p.1 p.2] w fun e w' => e = .returned (.bool true) ∧ Below w.heap.size w w' := by
  have h : Rows.uptoBulkAll ([d1, d2, d3] ++ []) ≤ 1048576 := of_decide_eq_true hk
  simp only [List.append_nil, Rows.uptoBulkAll] at h
  exact walk v1 v2 f g p.1 p.2 (fs_w (by omega)) (fs_w (by omega)) (by omega) (by omega) w hT h1 h2
end Go.Proofs.YtcgnfjcbafmbgaaDoor.paintEnds
