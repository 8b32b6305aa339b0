/-
  The walk of the law PaintStill: what is shown already is painted by its cursor's place alone; a painting ends with that; of what isn't fit nothing is painted; over what isn't fit, or is of another width, all is painted. Conditions: those of walk_of.
-/
import Derived.Test.YtcgnfjcbafmbgaaDoorPArg
import Derived.Test.YtcgnfjcbafmbgaaDoorPFix
import Derived.Test.YtcgnfjcbafmbgaaDoorPCop
namespace Go.Proofs.YtcgnfjcbafmbgaaDoor.paintStill
open Go.RowKit Go.Shelf Bod Wid
theorem full_no {f : Fm} (h : fitF f = false) : fullL f = [] := by unfold fullL; rw [h]; rfl
theorem next_no {g f : Fm} (h : fitF f = false) : nextL g f = [] := by
  rw [nextL_no (by rw [h]; simp), full_no h]
theorem nxt_same (W : Int) (S : List (List Cel)) : ∀ (L : List (List Cel)) (i : Nat), (∀ (k : Nat) l, L[k]? = some l → S[i + k]? = some l) → nxtL W S i L = []
  | [], _, _ => rfl
  | l :: L, i, h => by
    have h0 : S[i]? = some l := h 0 l rfl
    rw [nxtL, nxt_same W S L (i + 1) (fun k l hk => by rw [Nat.add_assoc, Nat.add_comm 1 k]; exact h (k + 1) l (by simpa using hk)), nxtP, kepP_at h0, rowE_self, if_pos rfl, List.append_nil]
theorem next_self {f : Fm} (h : fitF f = true) : nextL f f = gotoL f.r f.c := by
  unfold nextL
  rw [h, decide_eq_true rfl, nxt_same f.w f.rows f.rows 0 (fun k l hk => by rw [Nat.zero_add]; exact hk), if_neg (Nat.lt_irrefl _)]
  rfl
theorem full_end {f : Fm} (h : fitF f = true) : ∃ X, fullL f = X ++ gotoL f.r f.c := by unfold fullL; rw [h]; exact ⟨_, rfl⟩
theorem next_end (g : Fm) {f : Fm} (h : fitF f = true) : ∃ X, nextL g f = X ++ gotoL f.r f.c := by
  unfold nextL
  split
  · exact ⟨_, rfl⟩
  · exact full_end h
theorem next_other {g f : Fm} (h : (fitF g && decide (g.w = f.w)) = false) : nextL g f = fullL f := by
  apply nextL_no
  cases e1 : fitF g <;> cases e2 : decide (g.w = f.w) <;> simp_all
/-- a text's end -/
theorem ext_end (X E : List UInt8) {s t : ByteArray} (hs : s = ⟨(X ++ E).toArray⟩) (ht : t = ⟨E.toArray⟩) : ∃ a, a + t.size = s.size ∧ s.extract a s.size = t := by
  subst hs ht
  refine ⟨X.length, ?_, ?_⟩
  · show X.length + E.toArray.size = (X ++ E).toArray.size
    simp
  · apply ByteArray.ext
    rw [ByteArray.data_extract]
    show (X ++ E).toArray.extract X.length (X ++ E).toArray.size = E.toArray
    simp
theorem len_max {f : Fm} (hz : fwt f ≤ 1099511627776) : (fullL f).length ≤ 70368744177664 := by
  unfold fullL
  split
  · have h1 := fulL_len 0 f.rows
    have h2 := gotoL_len f.r f.c
    unfold fwt at hz
    simp only [List.length_append, List.length_cons, List.length_nil]
    omega
  · simp
theorem nxt_max (g : Fm) {f : Fm} (hz : fwt f ≤ 1099511627776) : (nextL g f).length ≤ 70368744177664 := by
  unfold nextL
  split
  · have h1 := nxtL_len f.w g.rows 0 f.rows
    have h2 := gotoL_len f.r f.c
    have h3 := gotoL_len f.rows.length 0
    unfold fwt at hz
    simp only [List.length_append]
    split
    · simp only [List.length_append, List.length_cons, List.length_nil]; omega
    · simp only [List.length_nil]; omega
  · exact len_max hz
set_option maxRecDepth 100000 in
set_option maxHeartbeats 4000000 in
theorem walk (hM : Tryd.prog.follows .mixedOrders = true) (v1 v2 : Value) (f g : Fm) (hf : Fs f) (hg : Fs g) (hzf : fwt f ≤ 1099511627776) (w : World) (hw : Pw w) (h1 : RdFm w v1 f) (h2 : RdFm w v2 g) :
    Calls Tryd.prog 5 #[v1, v2] w fun e w' => e = .returned (.bool true) ∧ Below w.heap.size w w' := by
  have r1 : ∀ X, Below w.heap.size w X → RdFm X v1 f := fun X hX => h1.below (Nat.le_refl _) hX
  have r2 : ∀ X, Below w.heap.size w X → RdFm X v2 g := fun X hX => h2.below (Nat.le_refl _) hX
  have HM : Hid (Tryd.prog.follows .mixedOrders = true) := hM
  have CX : Hid (∀ X, Below w.heap.size w X → Calls Tryd.prog 7 #[] X fun e w' => e = .returned (.bool true) ∧ Hid (Below X.heap.size X w')) := fun X hX => fixed_any X (hw.below hX)
  have CT : Hid (∀ X, Below w.heap.size w X → Calls Tryd.prog 10 #[v1] X fun e w' => e = .returned (.bool (fitF f)) ∧ Hid (Below X.heap.size X w')) := fun X hX => fit_any v1 f hf X (hw.below hX).1 (r1 X hX)
  have CTg : Hid (∀ X, Below w.heap.size w X → Calls Tryd.prog 10 #[v2] X fun e w' => e = .returned (.bool (fitF g)) ∧ Hid (Below X.heap.size X w')) := fun X hX => fit_any v2 g hg X (hw.below hX).1 (r2 X hX)
  have CU : Hid (∀ X, Below w.heap.size w X → Calls Tryd.prog 15 #[v1] X fun e w' => e = .returned (.string ⟨(fullL f).toArray⟩) ∧ Below X.heap.size X w') := fun X hX => full_any v1 f hf hzf X (hw.below hX) (r1 X hX)
  have CN : Hid (∀ X, Below w.heap.size w X → Calls Tryd.prog 17 #[v2, v1] X fun e w' => e = .returned (.string ⟨(nextL g f).toArray⟩) ∧ Below X.heap.size X w') := fun X hX => pnxt_any v2 v1 g f hg hf hzf X (hw.below hX) (r2 X hX) (r1 X hX)
  have CS : Hid (∀ X, Below w.heap.size w X → Calls Tryd.prog 17 #[v1, v1] X fun e w' => e = .returned (.string ⟨(nextL f f).toArray⟩) ∧ Hid (Below X.heap.size X w')) := fun X hX => pnxt_any v1 v1 f f hf hf hzf X (hw.below hX) (r1 X hX) (r1 X hX)
  have CG : Hid (∀ X, Below w.heap.size w X → Calls Tryd.prog 12 #[.agg #[.int .i64 f.r, .int .i64 f.c]] X fun e w' => e = .returned (.string ⟨(gotoL f.r f.c).toArray⟩) ∧ Hid (Below X.heap.size X w')) := fun X hX => goto_any f.r f.c X (hw.below hX)
  have CC : Hid (∀ X, Below w.heap.size w X → Calls Tryd.prog 14 #[v1] X fun e w' => ∃ v', e = .returned v' ∧ Hid (RdFm w' v' f ∧ Below X.heap.size X w')) := fun X hX => (copied_any hM v1 f hf X (r1 X hX)).mono fun e w' h => by
    obtain ⟨⟨v', e1, e2⟩, e3⟩ := h
    exact ⟨v', e1, e2, e3⟩
  have CY : Hid (∀ X v', Below w.heap.size w X → RdFm X v' f → Calls Tryd.prog 17 #[v1, v'] X fun e w' => e = .returned (.string ⟨(nextL f f).toArray⟩) ∧ Hid (Below X.heap.size X w')) := fun X v' hX hv => pnxt_any v1 v' f f hf hf hzf X (hw.below hX) (r1 X hX) hv
  have q1 := next_other (g := g) (f := f)
  have q2 := full_no (f := f)
  have q3 := next_no (g := g) (f := f)
  have q4 := next_no (g := f) (f := f)
  have q5 := next_self (f := f)
  have q6 := full_end (f := f)
  have q7 := next_end g (f := f)
  have q8 := len_max hzf
  have q9 := nxt_max g hzf
  obtain ⟨rv1, rfl, k1⟩ := h1
  obtain ⟨rv2, rfl, k2⟩ := h2
  obtain ⟨a1, c1, rfl, -⟩ := k1
  obtain ⟨a2, c2, rfl, -⟩ := k2
  clear r1 r2 hf hg hzf hw
  obtain ⟨lf, hlf⟩ : ∃ l, fullL f = l := ⟨_, rfl⟩
  obtain ⟨ln, hln⟩ : ∃ l, nextL g f = l := ⟨_, rfl⟩
  obtain ⟨ls, hls⟩ : ∃ l, nextL f f = l := ⟨_, rfl⟩
  obtain ⟨le, hle⟩ : ∃ l, gotoL f.r f.c = l := ⟨_, rfl⟩
  obtain ⟨bf, hbf⟩ : ∃ b, fitF f = b := ⟨_, rfl⟩
  obtain ⟨bg, hbg⟩ : ∃ b, fitF g = b := ⟨_, rfl⟩
  rw [hln, hlf, hbg] at q1
  rw [hlf, hbf] at q2
  rw [hln, hbf] at q3
  rw [hls, hbf] at q4
  rw [hls, hbf, hle] at q5
  rw [hlf, hbf, hle] at q6
  rw [hln, hbf, hle] at q7
  rw [hlf] at q8 CU
  rw [hln] at q9 CN
  rw [hbf] at CT
  rw [hbg] at CTg
  rw [hls] at CS CY
  rw [hle] at CG
  clear hlf hln hls hle hbf hbg
  obtain ⟨fw, fR, fr, fc⟩ := f
  obtain ⟨gw, gR, gr, gc⟩ := g
  simp only at CT CTg CU CN CS CG CC CY q1 ⊢
  obtain ⟨n1, hn1⟩ : ∃ n, fR.length = n := ⟨_, rfl⟩
  obtain ⟨n2, hn2⟩ : ∃ n, gR.length = n := ⟨_, rfl⟩
  rw [hn1] at CT CU CN CS CC CY ⊢
  rw [hn2] at CTg CN ⊢
  have H0 : Hid (Bx2 w (.cells #[.int .i64 fw, .slice a1 n1 c1, .int .i64 fr, .int .i64 fc] 26 (0, 0)) (.cells #[.int .i64 gw, .slice a2 n2 c2, .int .i64 gr, .int .i64 gc] 26 (0, 0)) ((w.alloc (.cells #[.int .i64 fw, .slice a1 n1 c1, .int .i64 fr, .int .i64 fc] 26)).alloc (.cells #[.int .i64 gw, .slice a2 n2 c2, .int .i64 gr, .int .i64 gc] 26))) := box_two _ _
  cases bf with
  | false =>
    obtain rfl := q2 rfl
    obtain rfl := q3 rfl
    obtain rfl := q4 rfl
    clear q1 q2 q3 q4 q5 q6 q7 q8 q9 CC CY CG CTg
    go_enter Tryd.func5, Tryd.ntmps5
    go_upto_region 3 with (go_at_call 7; refine (CX.out _ H0.out.1).mono ?_; clear CX; rintro e w1 ⟨rfl, HB1⟩; have HX1 := Bx2.next H0.out HB1.out; replace HX1 : Hid (Bx2 w (.cells #[.int .i64 fw, .slice a1 n1 c1, .int .i64 fr, .int .i64 fc] 26 (0, 0)) (.cells #[.int .i64 gw, .slice a2 n2 c2, .int .i64 gr, .int .i64 gc] 26 (0, 0)) w1) := HX1)
    have k1 := call_rgP (W := w1) fun X hX => CU.out X (HX1.out.1.trans (hX.mono HX1.out.1.size))
    have k2 := call_rgP (W := w1) fun X hX => CN.out X (HX1.out.1.trans (hX.mono HX1.out.1.size))
    obtain ⟨⟨x0, x1, x2, x3⟩, -⟩ := box4 HX1.out.2.1
    obtain ⟨⟨y0, y1, y2, y3⟩, -⟩ := box4 HX1.out.2.2
    have s0 := cell_rgP x0
    have s1 := cell_rgP x1
    have s2 := cell_rgP x2
    have s3 := cell_rgP x3
    have t0 := cell_rgP y0
    have t1 := cell_rgP y1
    have t2 := cell_rgP y2
    have t3 := cell_rgP y3
    clear x0 x1 x2 x3 y0 y1 y2 y3 CU CN
    have HZ0 : Hid (∀ dq osq, Bx2 w (.cells #[.int .i64 fw, .slice a1 n1 c1, .int .i64 fr, .int .i64 fc] 26 (0, 0)) (.cells #[.int .i64 gw, .slice a2 n2 c2, .int .i64 gr, .int .i64 gc] 26 (0, 0)) (Go.Sort.grow (redrawn w1 dq) osq)) := fun dq osq => Bx2.next HX1.out (below_regrown w1 dq osq)
    refine wp_region_quiet_below HM.out (by kernel_rfl) ?_
    go_big_quiet_step (fail)
    go_big_quiet_step (exact k1 _ _)
    iterate 2 (go_big_quiet_step (fail))
    go_big_quiet_step (exact k2 _ _)
    repeat (go_big_quiet_step (fail))
    refine wpQuiet_nil ?_
    intro _ hw'
    obtain ⟨⟨dq, osq⟩, hw''⟩ := hw'
    subst hw''
    have HZ : Hid (Bx2 w (.cells #[.int .i64 fw, .slice a1 n1 c1, .int .i64 fr, .int .i64 fc] 26 (0, 0)) (.cells #[.int .i64 gw, .slice a2 n2 c2, .int .i64 gr, .int .i64 gc] 26 (0, 0)) (Go.Sort.grow (redrawn w1 dq) osq)) := HZ0.out dq osq
    dsimp only
    generalize Go.Sort.grow (redrawn w1 dq) osq = wz at HZ ⊢
    clear s0 s1 s2 s3 t0 t1 t2 t3 k1 k2 HZ0 HX1 HB1 H0
    obtain ⟨⟨x0, x1, x2, x3⟩, -⟩ := box4 HZ.out.2.1
    go_wp2_with (first
      | (go_at_call 10; refine (CT.out _ HZ.out.1).mono ?_; clear CT x0 x1 x2 x3; rintro e w2 ⟨rfl, HB2⟩; have HX2 := Bx2.next HZ.out HB2.out; obtain ⟨⟨x0, x1, x2, x3⟩, -⟩ := box4 HX2.2.1; replace HX2 : Hid (Bx2 w (.cells #[.int .i64 fw, .slice a1 n1 c1, .int .i64 fr, .int .i64 fc] 26 (0, 0)) (.cells #[.int .i64 gw, .slice a2 n2 c2, .int .i64 gr, .int .i64 gc] 26 (0, 0)) w2) := HX2)
      | (go_at_call 17; refine (CS.out _ HX2.out.1).mono ?_; clear CS x0 x1 x2 x3; rintro e w3 ⟨rfl, HB3⟩))
    go_ret
    exact ⟨rfl, (Bx2.next HX2.out HB3.out).1⟩
  | true =>
    obtain rfl := q5 rfl
    obtain ⟨X1, rfl⟩ := q6 rfl
    obtain ⟨X2, rfl⟩ := q7 rfl
    obtain ⟨sE, hE⟩ : ∃ s : ByteArray, (⟨ls.toArray⟩ : ByteArray) = s := ⟨_, rfl⟩
    obtain ⟨sF, hF⟩ : ∃ s : ByteArray, (⟨(X1 ++ ls).toArray⟩ : ByteArray) = s := ⟨_, rfl⟩
    obtain ⟨sN, hN⟩ : ∃ s : ByteArray, (⟨(X2 ++ ls).toArray⟩ : ByteArray) = s := ⟨_, rfl⟩
    obtain ⟨aF, f1, f2⟩ := ext_end X1 ls hF.symm hE.symm
    obtain ⟨aN, g1, g2⟩ := ext_end X2 ls hN.symm hE.symm
    have hsF : sF.size ≤ 70368744177664 := by rw [← hF]; show (X1 ++ ls).toArray.size ≤ _; rw [List.size_toArray]; exact q8
    have hsN : sN.size ≤ 70368744177664 := by rw [← hN]; show (X2 ++ ls).toArray.size ≤ _; rw [List.size_toArray]; exact q9
    have q10 : (bg && decide (gw = fw)) = false → sN = sF := fun h => by rw [← hN, ← hF, q1 h]
    rw [hF] at CU
    rw [hN] at CN
    rw [hE] at CS CY CG
    have m1 : ¬ (sF.size : Int) < (sE.size : Int) := by omega
    have m2 : ¬ (sN.size : Int) < (sE.size : Int) := by omega
    have m3 : decide (sF.size < sE.size) = false := by simp; omega
    have m4 : decide (sN.size < sE.size) = false := by simp; omega
    have m5 : IntKind.i64.wrap ((sF.size : Int) - (sE.size : Int)) = (aF : Int) := by rw [IntKind.wrap_i64]; omega
    have m6 : IntKind.i64.wrap ((sN.size : Int) - (sE.size : Int)) = (aN : Int) := by rw [IntKind.wrap_i64]; omega
    have m7 : aF ≤ sF.size := by omega
    have m8 : aN ≤ sN.size := by omega
    have m9 : (aF : Int) ≤ (sF.size : Int) := by omega
    have m10 : (aN : Int) ≤ (sN.size : Int) := by omega
    have m11 : (0 : Int) ≤ (aF : Int) := by omega
    have m12 : (0 : Int) ≤ (aN : Int) := by omega
    clear q1 q2 q3 q4 q5 q6 q7 q8 q9 hE hF hN CS f1 g1 hsF hsN
    go_enter Tryd.func5, Tryd.ntmps5
    go_upto_region 3 with (go_at_call 7; refine (CX.out _ H0.out.1).mono ?_; clear CX; rintro e w1 ⟨rfl, HB1⟩; have HX1 := Bx2.next H0.out HB1.out; replace HX1 : Hid (Bx2 w (.cells #[.int .i64 fw, .slice a1 n1 c1, .int .i64 fr, .int .i64 fc] 26 (0, 0)) (.cells #[.int .i64 gw, .slice a2 n2 c2, .int .i64 gr, .int .i64 gc] 26 (0, 0)) w1) := HX1)
    have k1 := call_rgP (W := w1) fun X hX => CU.out X (HX1.out.1.trans (hX.mono HX1.out.1.size))
    have k2 := call_rgP (W := w1) fun X hX => CN.out X (HX1.out.1.trans (hX.mono HX1.out.1.size))
    obtain ⟨⟨x0, x1, x2, x3⟩, -⟩ := box4 HX1.out.2.1
    obtain ⟨⟨y0, y1, y2, y3⟩, -⟩ := box4 HX1.out.2.2
    have s0 := cell_rgP x0
    have s1 := cell_rgP x1
    have s2 := cell_rgP x2
    have s3 := cell_rgP x3
    have t0 := cell_rgP y0
    have t1 := cell_rgP y1
    have t2 := cell_rgP y2
    have t3 := cell_rgP y3
    clear x0 x1 x2 x3 y0 y1 y2 y3 CU CN
    have HZ0 : Hid (∀ dq osq, Bx2 w (.cells #[.int .i64 fw, .slice a1 n1 c1, .int .i64 fr, .int .i64 fc] 26 (0, 0)) (.cells #[.int .i64 gw, .slice a2 n2 c2, .int .i64 gr, .int .i64 gc] 26 (0, 0)) (Go.Sort.grow (redrawn w1 dq) osq)) := fun dq osq => Bx2.next HX1.out (below_regrown w1 dq osq)
    refine wp_region_quiet_below HM.out (by kernel_rfl) ?_
    go_big_quiet_step (fail)
    go_big_quiet_step (exact k1 _ _)
    iterate 2 (go_big_quiet_step (fail))
    go_big_quiet_step (exact k2 _ _)
    repeat (go_big_quiet_step (fail))
    refine wpQuiet_nil ?_
    intro _ hw'
    obtain ⟨⟨dq, osq⟩, hw''⟩ := hw'
    subst hw''
    have HZ : Hid (Bx2 w (.cells #[.int .i64 fw, .slice a1 n1 c1, .int .i64 fr, .int .i64 fc] 26 (0, 0)) (.cells #[.int .i64 gw, .slice a2 n2 c2, .int .i64 gr, .int .i64 gc] 26 (0, 0)) (Go.Sort.grow (redrawn w1 dq) osq)) := HZ0.out dq osq
    dsimp only
    generalize Go.Sort.grow (redrawn w1 dq) osq = wz at HZ ⊢
    clear s0 s1 s2 s3 t0 t1 t2 t3 k1 k2 HZ0 HX1 HB1 H0
    obtain ⟨⟨x0, x1, x2, x3⟩, -⟩ := box4 HZ.out.2.1
    go_upto_region 7 with (first
      | (go_at_call 10; refine (CT.out _ HZ.out.1).mono ?_; clear CT x0 x1 x2 x3; rintro e w2 ⟨rfl, HB2⟩; have HX2 := Bx2.next HZ.out HB2.out; obtain ⟨⟨x0, x1, x2, x3⟩, -⟩ := box4 HX2.2.1; replace HX2 : Hid (Bx2 w (.cells #[.int .i64 fw, .slice a1 n1 c1, .int .i64 fr, .int .i64 fc] 26 (0, 0)) (.cells #[.int .i64 gw, .slice a2 n2 c2, .int .i64 gr, .int .i64 gc] 26 (0, 0)) w2) := HX2)
      | (go_at_call 12; refine (CG.out _ HX2.out.1).mono ?_; clear CG x0 x1 x2 x3; rintro e w3 ⟨rfl, HB3⟩; have HX3 := Bx2.next HX2.out HB3.out; obtain ⟨⟨x0, x1, x2, x3⟩, -⟩ := box4 HX3.2.1; replace HX3 : Hid (Bx2 w (.cells #[.int .i64 fw, .slice a1 n1 c1, .int .i64 fr, .int .i64 fc] 26 (0, 0)) (.cells #[.int .i64 gw, .slice a2 n2 c2, .int .i64 gr, .int .i64 gc] 26 (0, 0)) w3) := HX3))
    have HD : Hid (Bx2 w (.cells #[.int .i64 fw, .slice a1 n1 c1, .int .i64 fr, .int .i64 fc] 26 (0, 0)) (.cells #[.int .i64 gw, .slice a2 n2 c2, .int .i64 gr, .int .i64 gc] 26 (0, 0)) w3.drew) := (show Bx2 w (.cells #[.int .i64 fw, .slice a1 n1 c1, .int .i64 fr, .int .i64 fc] 26 (0, 0)) (.cells #[.int .i64 gw, .slice a2 n2 c2, .int .i64 gr, .int .i64 gc] 26 (0, 0)) w3.drew from ⟨⟨HX3.out.1.os, HX3.out.1.tape, HX3.out.1.output, HX3.out.1.size, HX3.out.1.block⟩, HX3.out.2.1, HX3.out.2.2⟩)
    have HT4 : Hid (∀ W, Bx2 w (.cells #[.int .i64 fw, .slice a1 n1 c1, .int .i64 fr, .int .i64 fc] 26 (0, 0)) (.cells #[.int .i64 gw, .slice a2 n2 c2, .int .i64 gr, .int .i64 gc] 26 (0, 0)) W → W.cell? ⟨w.heap.size, 0, none⟩ = some (.int .i64 fw) ∧ W.cell? ⟨w.heap.size, 1, none⟩ = some (.slice a1 n1 c1) ∧ W.cell? ⟨w.heap.size, 2, none⟩ = some (.int .i64 fr) ∧ W.cell? ⟨w.heap.size, 3, none⟩ = some (.int .i64 fc)) := fun W hW => (box4 hW.2.1).1
    go_region_held3 (fun w' => w'.cell? ⟨w.heap.size, 0, none⟩ = some (.int .i64 fw) ∧ w'.cell? ⟨w.heap.size, 1, none⟩ = some (.slice a1 n1 c1) ∧ w'.cell? ⟨w.heap.size, 2, none⟩ = some (.int .i64 fr) ∧ w'.cell? ⟨w.heap.size, 3, none⟩ = some (.int .i64 fc)) (first | exact HT4.out _ HX3.out | exact HT4.out _ HD.out | exact HT4.out _ HX4.out | exact HT4.out _ HX5.out | go_keep)
      (first
        | (go_at_call 14; refine (CC.out _ HD.out.1).mono ?_; clear CC; rintro e w4 ⟨v', rfl, HV4⟩; have HX4 : Hid (Bx2 w (.cells #[.int .i64 fw, .slice a1 n1 c1, .int .i64 fr, .int .i64 fc] 26 (0, 0)) (.cells #[.int .i64 gw, .slice a2 n2 c2, .int .i64 gr, .int .i64 gc] 26 (0, 0)) w4) := Bx2.next HD.out HV4.out.2)
        | (go_at_call 17; refine (CY.out _ _ HX4.out.1 HV4.out.1).mono ?_; clear CY; rintro e w5 ⟨rfl, HB5⟩; have HX5 : Hid (Bx2 w (.cells #[.int .i64 fw, .slice a1 n1 c1, .int .i64 fr, .int .i64 fc] 26 (0, 0)) (.cells #[.int .i64 gw, .slice a2 n2 c2, .int .i64 gr, .int .i64 gc] 26 (0, 0)) w5) := Bx2.next HX4.out HB5.out)
        | fail)
    all_goals
      obtain ⟨⟨x0, x1, x2, x3⟩, -⟩ := box4 HX5.out.2.1
      obtain ⟨⟨y0, y1, y2, y3⟩, -⟩ := box4 HX5.out.2.2
      clear m1 m2 m3 m4 m5 m6 m7 m8 m9 m10 m11 m12 f2 g2 HT4 HD HZ HX2 HX3 HX4
      cases bg with
      | false =>
        obtain rfl := q10 rfl
        go_wp2_with (go_at_call 10; refine (CTg.out _ HX5.out.1).mono ?_; clear CTg x0 x1 x2 x3 y0 y1 y2 y3; rintro e w6 ⟨rfl, HB6⟩)
        go_ret
        exact ⟨rfl, (Bx2.next HX5.out HB6.out).1⟩
      | true =>
        by_cases he : gw = fw
        · subst he
          go_wp2_with (go_at_call 10; refine (CTg.out _ HX5.out.1).mono ?_; clear CTg x0 x1 x2 x3 y0 y1 y2 y3; rintro e w6 ⟨rfl, HB6⟩; have HX6 := Bx2.next HX5.out HB6.out; obtain ⟨⟨x0, x1, x2, x3⟩, -⟩ := box4 HX6.2.1; obtain ⟨⟨y0, y1, y2, y3⟩, -⟩ := box4 HX6.2.2; replace HX6 : Hid _ := HX6)
          go_ret
          exact ⟨rfl, HX6.out.1⟩
        · obtain rfl := q10 (by simp [he])
          have e1 : (gw == fw) = false := by simp [he]
          go_wp2_with (go_at_call 10; refine (CTg.out _ HX5.out.1).mono ?_; clear CTg x0 x1 x2 x3 y0 y1 y2 y3; rintro e w6 ⟨rfl, HB6⟩; have HX6 := Bx2.next HX5.out HB6.out; obtain ⟨⟨x0, x1, x2, x3⟩, -⟩ := box4 HX6.2.1; obtain ⟨⟨y0, y1, y2, y3⟩, -⟩ := box4 HX6.2.2; replace HX6 : Hid _ := HX6)
          go_ret
          exact ⟨rfl, HX6.out.1⟩
theorem fs_w {f : Fm} (h : fwt f ≤ 1048576) : Fs f := by
  have q1 := fwt_len f
  refine ⟨by omega, fun l hl => ?_⟩
  have q2 := fwt_mem hl
  have q3 := rwt_len l
  refine ⟨by omega, fun c hc => ?_⟩
  have q4 := rwt_mem hc
  unfold maxLen
  omega
theorem walk_of {H : Type} {d1 d2 : DataW H} (v1 : Value) (f : Fm) (v2 : Value) (g : Fm) (w : World) (hT : Pw w) (h1 : RdFm w v1 f) (hx : fwt f ≤ Rows.uptoBulk d1 ∧ (-9223372036854775808 ≤ f.w ∧ f.w ≤ 9223372036854775807) ∧ (-9223372036854775808 ≤ f.r ∧ f.r ≤ 9223372036854775807) ∧ (-9223372036854775808 ≤ f.c ∧ f.c ≤ 9223372036854775807)) (h2 : RdFm w v2 g) (hy : fwt g ≤ Rows.uptoBulk d2 ∧ (-9223372036854775808 ≤ g.w ∧ g.w ≤ 9223372036854775807) ∧ (-9223372036854775808 ≤ g.r ∧ g.r ≤ 9223372036854775807) ∧ (-9223372036854775808 ≤ g.c ∧ g.c ≤ 9223372036854775807)) (hk : Rows.uptoSmall H ([d1, d2] ++ []) = true) :
    Calls Tryd.prog 5 #[v1, v2] w fun e w' => e = .returned (.bool true) ∧ Below w.heap.size w w' := by
  have h : Rows.uptoBulkAll ([d1, d2] ++ []) ≤ 1048576 := of_decide_eq_true hk
  simp only [List.append_nil, Rows.uptoBulkAll] at h
  exact walk (by kernel_rfl) v1 v2 f g (fs_w (by omega)) (fs_w (by omega)) (by omega) w hT h1 h2
end Go.Proofs.YtcgnfjcbafmbgaaDoor.paintStill
