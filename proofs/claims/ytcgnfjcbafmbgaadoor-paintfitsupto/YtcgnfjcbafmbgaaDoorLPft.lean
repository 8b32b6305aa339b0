/-
  The walk of the law PaintFits: Fit, Row and Goto answer what the document answers, of any frames. Conditions: those of walk_of.
-/
import Derived.Test.YtcgnfjcbafmbgaaDoorPArg
import Derived.Test.YtcgnfjcbafmbgaaDoorPFix
import Derived.Test.YtcgnfjcbafmbgaaDoorPRfi
import Derived.Test.YtcgnfjcbafmbgaaDoorPRrw
import Derived.Test.YtcgnfjcbafmbgaaDoorPRgo
import Derived.Test.YtcgnfjcbafmbgaaDoorPNxt
namespace Go.Proofs.YtcgnfjcbafmbgaaDoor.paintFits
open Go.RowKit Go.Shelf Bod Wid
set_option maxRecDepth 100000 in
set_option maxHeartbeats 4000000 in
theorem walk (v1 : Value) (f : Fm) (r c : Int) (hf : Fs f) (hr : Fr f) (hz : ∀ l ∈ f.rows, (rowL l).length ≤ 140737488355328) (w : World) (hw : Pw w) (h1 : RdFm w v1 f) :
    Calls Tryd.prog 3 #[v1, plv r c] w fun e w' => e = .returned (.bool true) ∧ Below w.heap.size w w' := by
  have HM : Hid (Tryd.prog.follows .mixedOrders = true) := by show _ = _; kernel_rfl
  have r1 : ∀ X, Below w.heap.size w X → RdFm X v1 f := fun X hX => h1.below (Nat.le_refl _) hX
  have CX : Hid (∀ X, Below w.heap.size w X → Calls Tryd.prog 7 #[] X fun e w' => e = .returned (.bool true) ∧ Hid (Below X.heap.size X w')) := fun X hX => fixed_any X (hw.below hX)
  have CT : Hid (∀ X, Below w.heap.size w X → Calls Tryd.prog 10 #[v1] X fun e w' => e = .returned (.bool (fitF f)) ∧ Below X.heap.size X w') := fun X hX => fit_any v1 f hf X (hw.below hX).1 (r1 X hX)
  have CR : Hid (∀ X, Below w.heap.size w X → Calls Tryd.prog 11 #[v1] X fun e w' => e = .returned (.bool (fitF f)) ∧ Below X.heap.size X w') := fun X hX => rfit_any v1 f hr X (r1 X hX)
  have CG : Hid (∀ X, Below w.heap.size w X → Calls Tryd.prog 12 #[.agg #[.int .i64 r, .int .i64 c]] X fun e w' => e = .returned (.string ⟨(gotoL r c).toArray⟩) ∧ Below X.heap.size X w') := fun X hX => goto_any r c X (hw.below hX)
  have DG : Hid (∀ X, Below w.heap.size w X → Calls Tryd.prog 13 #[.agg #[.int .i64 r, .int .i64 c]] X fun e w' => e = .returned (.string ⟨(gotoL r c).toArray⟩) ∧ Below X.heap.size X w') := fun X _ => rgoto_any r c X
  have CF : Hid (∀ X, Below w.heap.size w X → Calls Tryd.prog 12 #[.agg #[.int .i64 f.r, .int .i64 f.c]] X fun e w' => e = .returned (.string ⟨(gotoL f.r f.c).toArray⟩) ∧ Below X.heap.size X w') := fun X hX => goto_any f.r f.c X (hw.below hX)
  have DF : Hid (∀ X, Below w.heap.size w X → Calls Tryd.prog 13 #[.agg #[.int .i64 f.r, .int .i64 f.c]] X fun e w' => e = .returned (.string ⟨(gotoL f.r f.c).toArray⟩) ∧ Below X.heap.size X w') := fun X _ => rgoto_any f.r f.c X
  obtain ⟨rv, rfl, h⟩ := h1
  obtain ⟨a, k, rfl, hc⟩ := h.get
  have HR : Hid (∀ (i : Nat) (l : List Cel), f.rows[i]? = some l → ∀ Y, Below w.heap.size w Y → ∃ g o b m, a = some ⟨g, o, none⟩ ∧ Y.cell? ⟨g, o + i, none⟩ = some (.slice b l.length m) ∧ (∀ Z, Below w.heap.size w Z → Calls Tryd.prog 8 #[.slice b l.length m] Z fun e w' => e = .returned (.string ⟨(rowL l).toArray⟩) ∧ Below Z.heap.size Z w') ∧ ∀ Z, Below w.heap.size w Z → Calls Tryd.prog 9 #[.slice b l.length m] Z fun e w' => e = .returned (.string ⟨(rowL l).toArray⟩) ∧ Below Z.heap.size Z w') := fun i l hi Y hY => by
    obtain ⟨g, o, b, m, e, hg, hcell, hrd⟩ := hc i l hi
    have hm := List.mem_of_getElem? hi
    refine ⟨g, o, b, m, e, (hY.cell (p := ⟨g, o + i, none⟩) hg).trans hcell, fun Z hZ => ?_, fun Z hZ => ?_⟩
    · exact prow_any _ l (hr.2 l hm).1 (hz l hm) Z (hrd.below (Nat.le_refl _) hZ)
    · exact rrw_any _ l (hr.2 l hm).1 (hz l hm) Z (hrd.below (Nat.le_refl _) hZ)
  have HN : Hid (f.rows.length ≤ 2147483648) := hr.1
  generalize fitF f = bf at CT CR
  obtain ⟨fw, R, fr, fc⟩ := f
  simp only at CT CR CF DF HR HN ⊢
  obtain ⟨n, hn⟩ : ∃ n, R.length = n := ⟨_, rfl⟩
  replace HN : Hid (R.length = n ∧ n ≤ 2147483648) := ⟨hn, by rw [← hn]; exact HN.out⟩
  rw [hn] at CT CR ⊢
  unfold plv
  generalize (⟨(gotoL r c).toArray⟩ : ByteArray) = sp at CG DG
  generalize (⟨(gotoL fr fc).toArray⟩ : ByteArray) = sf at CF DF
  clear r1 h hc hf hr hz hw hn
  have H0 : Hid (Bx2 w (.cells #[.int .i64 fw, .slice a n k, .int .i64 fr, .int .i64 fc] 26 (0, 0)) (.cells #[.int .i64 r, .int .i64 c] 24 (0, 0)) ((w.alloc (.cells #[.int .i64 fw, .slice a n k, .int .i64 fr, .int .i64 fc] 26)).alloc (.cells #[.int .i64 r, .int .i64 c] 24))) := box_two _ _
  go_enter Tryd.func3, Tryd.ntmps3
  go_wp2_with (go_at_call 7; refine (CX.out _ H0.out.1).mono ?_; clear CX; rintro e w1 ⟨rfl, HB1⟩; have HX1 : Hid (Bx2 w _ _ w1) := Bx2.next H0.out HB1.out)
  go_loopw [5] (fun t wr => ∃ j : Nat, j ≤ n ∧ t = .int .i64 j ∧ Hid (Bx2 w (.cells #[.int .i64 fw, .slice a n k, .int .i64 fr, .int .i64 fc] 26 (0, 0)) (.cells #[.int .i64 r, .int .i64 c] 24 (0, 0)) wr)) (fun t _ => n - (intOf t).toNat)
  case atStart => exact ⟨0, Nat.zero_le _, rfl, HX1.out⟩
  case round =>
    obtain ⟨j, hj, rfl, HB⟩ := hrel
    obtain ⟨⟨x0, x1, x2, x3⟩, -⟩ := box4 HB.out.2.1
    have q0 := cell_rgP x0
    have q1 := cell_rgP x1
    have HF0 : Hid (∀ dq osq, Bx2 w (.cells #[.int .i64 fw, .slice a n k, .int .i64 fr, .int .i64 fc] 26 (0, 0)) (.cells #[.int .i64 r, .int .i64 c] 24 (0, 0)) (Go.Sort.grow (redrawn wr dq) osq)) := fun dq osq => Bx2.next HB.out (below_regrown _ dq osq)
    by_cases hlt : j < n
    · obtain ⟨l, hl⟩ : ∃ l, R[j]? = some l := ⟨R[j]'(by rw [HN.out.1]; exact hlt), List.getElem?_eq_getElem _⟩
      obtain ⟨g, o, b, m, rfl, y0, hc1, hc2⟩ := HR.out j l hl wr HB.out.1
      have hlt' : (j : Int) < (n : Int) := by omega
      have HLT : Hid (j < n ∧ n ≤ 2147483648) := ⟨hlt, HN.out.2⟩
      have q4 := cell_rgP y0
      have k1 := call_rgP (W := wr) fun X hX => hc1 X (HB.out.1.trans (hX.mono HB.out.1.size))
      have k2 := call_rgP (W := wr) fun X hX => hc2 X (HB.out.1.trans (hX.mono HB.out.1.size))
      generalize l.length = q at y0 q4 k1 k2
      generalize (⟨(rowL l).toArray⟩ : ByteArray) = sl at k1 k2
      clear hc1 hc2 hl hlt HR y0 CT CR CG DG CF DF x2 x3
      go_wp2
      clear x0 x1
      refine wp_region_quiet_below HM.out (by kernel_rfl) ?_
      iterate 5 (go_big_quiet_step (fail))
      go_big_quiet_step (exact k1 _ _)
      iterate 5 (go_big_quiet_step (fail))
      go_big_quiet_step (exact k2 _ _)
      repeat (go_big_quiet_step (fail))
      refine wpQuiet_nil ?_
      intro _ hw'
      obtain ⟨⟨dq, osq⟩, hw''⟩ := hw'
      subst hw''
      have HF : Hid _ := HF0.out dq osq
      dsimp only
      generalize Go.Sort.grow (redrawn wr dq) osq = wz at HF ⊢
      clear q0 q1 q4 k1 k2
      go_wp2
      exact ⟨⟨j + 1, by have := HLT.out; omega, by first | rw [w64t (by have := HLT.out; omega)] | (simp; done), HF.out⟩, by have := HLT.out; first | (rw [w64t (by omega)]; simp [intOf]; omega) | (simp [intOf]; omega)⟩
    · obtain rfl : j = n := by omega
      have hd : ¬ (j : Int) < (j : Int) := by omega
      obtain ⟨y0, y1⟩ := box2f HB.out.2.2
      have q2 := cell_rgP x2
      have q3 := cell_rgP x3
      have s0 := cell_rgP y0
      have s1 := cell_rgP y1
      have k1 := call_rgP (W := wr) fun X hX => CT.out X (HB.out.1.trans (hX.mono HB.out.1.size))
      have k2 := call_rgP (W := wr) fun X hX => CR.out X (HB.out.1.trans (hX.mono HB.out.1.size))
      have k3 := call_rgP (W := wr) fun X hX => CG.out X (HB.out.1.trans (hX.mono HB.out.1.size))
      have k4 := call_rgP (W := wr) fun X hX => DG.out X (HB.out.1.trans (hX.mono HB.out.1.size))
      have k5 := call_rgP (W := wr) fun X hX => CF.out X (HB.out.1.trans (hX.mono HB.out.1.size))
      have k6 := call_rgP (W := wr) fun X hX => DF.out X (HB.out.1.trans (hX.mono HB.out.1.size))
      clear HR hlt CT CR CG DG CF DF x2 x3 y0 y1
      go_wp2
      clear x0 x1
      cases bf <;> (
        refine wp_region_quiet_below HM.out (by kernel_rfl) ?_
        iterate 1 (go_big_quiet_step (fail))
        go_big_quiet_step (exact k1 _ _)
        iterate 1 (go_big_quiet_step (fail))
        go_big_quiet_step (exact k2 _ _)
        iterate 3 (go_big_quiet_step (fail))
        go_big_quiet_step (exact k3 _ _)
        iterate 1 (go_big_quiet_step (fail))
        go_big_quiet_step (exact k4 _ _)
        iterate 5 (go_big_quiet_step (fail))
        go_big_quiet_step (exact k5 _ _)
        iterate 2 (go_big_quiet_step (fail))
        go_big_quiet_step (exact k6 _ _)
        repeat (go_big_quiet_step (fail))
        refine wpQuiet_nil ?_
        intro _ hw'
        obtain ⟨⟨dq, osq⟩, hw''⟩ := hw'
        subst hw''
        have HF : Hid _ := HF0.out dq osq
        dsimp only
        generalize Go.Sort.grow (redrawn wr dq) osq = wz at HF ⊢
        clear q0 q1 q2 q3 s0 s1 k1 k2 k3 k4 k5 k6
        go_wp2
        go_ret
        exact ⟨rfl, HF.out.1⟩)
theorem fs_w {f : Fm} (h : fwt f ≤ 1048576) : Fs f ∧ Fr f ∧ ∀ l ∈ f.rows, (rowL l).length ≤ 140737488355328 := by
  have q1 := fwt_len f
  refine ⟨⟨by omega, fun l hl => ?_⟩, ⟨by omega, fun l hl => ?_⟩, fun l hl => ?_⟩
  · have q2 := fwt_mem hl
    have q3 := rwt_len l
    refine ⟨by omega, fun c hc => ?_⟩
    have q4 := rwt_mem hc
    unfold maxLen
    omega
  · have q2 := fwt_mem hl
    have q3 := rwt_len l
    refine ⟨by omega, fun c hc => ?_⟩
    have q4 := rwt_mem hc
    omega
  · have q2 := fwt_mem hl
    have q3 := rowL_wt l
    omega
theorem walk_of {H : Type} {d1 d2 : DataW H} (v1 : Value) (f : Fm) (p : Int × Int) (w : World) (hT : Pw w) (h1 : RdFm w v1 f) (hx : fwt f ≤ Rows.uptoBulk d1 ∧ (-9223372036854775808 ≤ f.w ∧ f.w ≤ 9223372036854775807) ∧ (-9223372036854775808 ≤ f.r ∧ f.r ≤ 9223372036854775807) ∧ (-9223372036854775808 ≤ f.c ∧ f.c ≤ 9223372036854775807)) (hk : Rows.uptoSmall H ([d1, d2] ++ []) = true) :
    Calls Tryd.prog 3 #[v1, plv p.1 p.2] w fun e w' => e = .returned (.bool true) ∧ Below w.heap.size w w' := by
  have h : Rows.uptoBulkAll ([d1, d2] ++ []) ≤ 1048576 := of_decide_eq_true hk
  simp only [List.append_nil, Rows.uptoBulkAll] at h
  have hs := fs_w (f := f) (by omega)
  exact walk v1 f p.1 p.2 hs.1 hs.2.1 hs.2.2 w hT h1
end Go.Proofs.YtcgnfjcbafmbgaaDoor.paintFits
