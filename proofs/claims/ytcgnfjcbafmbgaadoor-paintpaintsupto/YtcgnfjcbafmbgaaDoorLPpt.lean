/-
  The walk of the law PaintPaints: Full and Next answer what the document answers, of any frames; what is handed in is left as it is. Conditions: those of walk_of.
-/
import Derived.Test.YtcgnfjcbafmbgaaDoorPArg
import Derived.Test.YtcgnfjcbafmbgaaDoorPFix
import Derived.Test.YtcgnfjcbafmbgaaDoorPTwo
import Derived.Test.YtcgnfjcbafmbgaaDoorPSam
import Derived.Test.YtcgnfjcbafmbgaaDoorPRnx
namespace Go.Proofs.YtcgnfjcbafmbgaaDoor.paintPaints
open Go.RowKit Go.Shelf Bod Wid
theorem Tw.ld1 {X W : World} {f g : Fm} {v1 v2 : Value} {d : Nat → Bool} {y : Nat → Value} (h : Tw X f g v1 v2 d y W) (e : d 0 = true) : y 0 = v1 := by
  obtain ⟨-, L1, H1, b1, L2, H2, b2, s1, s2, -⟩ := h
  exact s1.ld e
theorem Tw.ld2 {X W : World} {f g : Fm} {v1 v2 : Value} {d : Nat → Bool} {y : Nat → Value} (h : Tw X f g v1 v2 d y W) (e : d 2 = true) : y 2 = v2 := by
  obtain ⟨-, L1, H1, b1, L2, H2, b2, s1, s2, -⟩ := h
  exact s2.ld e
theorem grow4 (W : World) (b : Nat) (u0 u1 u2 u3 z0 z1 z2 z3 : Value) (h : W.heap[b]? = some (.cells #[z0, z1, z2, z3] 26 (0, 0))) :
    W.grownBy ((((W.setCell ⟨b, 0, none⟩ u0).setCell ⟨b, 1, none⟩ u1).setCell ⟨b, 2, none⟩ u2).setCell ⟨b, 3, none⟩ u3) (some b) ∧ ((((W.setCell ⟨b, 0, none⟩ u0).setCell ⟨b, 1, none⟩ u1).setCell ⟨b, 2, none⟩ u2).setCell ⟨b, 3, none⟩ u3).heap[b]? = some (.cells #[u0, u1, u2, u3] 26 (0, 0)) := by
  refine ⟨(((gcell W b 0 _).trans (gcell _ b 1 _)).trans (gcell _ b 2 _)).trans (gcell _ b 3 _), ?_⟩
  have h0 := set1 (i := 0) u0 h
  have h1 := set1 (i := 1) u1 h0
  have h2 := set1 (i := 2) u2 h1
  have h3 := set1 (i := 3) u3 h2
  simpa using h3
set_option maxRecDepth 100000 in
set_option maxHeartbeats 4000000 in
theorem walk (hM : Tryd.prog.follows .mixedOrders = true) (v1 v2 : Value) (f g : Fm) (hf : Fs f) (hg : Fs g) (rf : Fr f) (rg : Fr g) (hzf : fwt f ≤ 1099511627776) (hzg : fwt g ≤ 1099511627776) (w : World) (hw : Pw w) (h1 : RdFm w v1 f) (h2 : RdFm w v2 g) :
    Calls Tryd.prog 4 #[v1, v2] w fun e w' => e = .returned (.bool true) ∧ Below w.heap.size w w' := by
  have HM : Hid (Tryd.prog.follows .mixedOrders = true) := hM
  have r1 : ∀ X, Below w.heap.size w X → RdFm X v1 f := fun X hX => h1.below (Nat.le_refl _) hX
  have r2 : ∀ X, Below w.heap.size w X → RdFm X v2 g := fun X hX => h2.below (Nat.le_refl _) hX
  have CX : Hid (∀ X, Below w.heap.size w X → Calls Tryd.prog 7 #[] X fun e w' => e = .returned (.bool true) ∧ Hid (Below X.heap.size X w')) := fun X hX => fixed_any X (hw.below hX)
  have C1 : Hid (∀ X, Below w.heap.size w X → Calls Tryd.prog 14 #[v1] X fun e w' => ∃ v', e = .returned v' ∧ Hid (Rds X.heap.size w'.heap.size v' f w' ∧ Below X.heap.size X w')) := fun X hX => (copied_own hM v1 f hf X (r1 X hX)).mono fun e w' h => by
    obtain ⟨⟨v', e1, e2⟩, e3⟩ := h
    exact ⟨v', e1, e2, e3⟩
  have C2 : Hid (∀ X, Below w.heap.size w X → Calls Tryd.prog 14 #[v2] X fun e w' => ∃ v', e = .returned v' ∧ Hid (Rds X.heap.size w'.heap.size v' g w' ∧ Below X.heap.size X w')) := fun X hX => (copied_own hM v2 g hg X (r2 X hX)).mono fun e w' h => by
    obtain ⟨⟨v', e1, e2⟩, e3⟩ := h
    exact ⟨v', e1, e2, e3⟩
  have RF : Hid (∀ X, Below w.heap.size w X → Calls Tryd.prog 16 #[v1] X fun e w' => e = .returned (.string ⟨(fullL f).toArray⟩) ∧ Below X.heap.size X w') := fun X hX => rfull_any v1 f rf hzf X (r1 X hX)
  have RG : Hid (∀ X, Below w.heap.size w X → Calls Tryd.prog 16 #[v2] X fun e w' => e = .returned (.string ⟨(fullL g).toArray⟩) ∧ Below X.heap.size X w') := fun X hX => rfull_any v2 g rg hzg X (r2 X hX)
  have NF : Hid (∀ X, Below w.heap.size w X → Calls Tryd.prog 18 #[v1, v2] X fun e w' => e = .returned (.string ⟨(nextL f g).toArray⟩) ∧ Below X.heap.size X w') := fun X hX => rnext_any v1 v2 f g rf rg hzg X (r1 X hX) (r2 X hX)
  have NG : Hid (∀ X, Below w.heap.size w X → Calls Tryd.prog 18 #[v2, v1] X fun e w' => e = .returned (.string ⟨(nextL g f).toArray⟩) ∧ Below X.heap.size X w') := fun X hX => rnext_any v2 v1 g f rg rf hzf X (r2 X hX) (r1 X hX)
  have PA : Hid (∀ X va vb, Below w.heap.size w X → RdFm X va f → RdFm X vb g → ∀ Y, Below X.heap.size X Y → (Calls Tryd.prog 15 #[va] Y fun e w' => e = .returned (.string ⟨(fullL f).toArray⟩) ∧ Below Y.heap.size Y w') ∧ (Calls Tryd.prog 15 #[vb] Y fun e w' => e = .returned (.string ⟨(fullL g).toArray⟩) ∧ Below Y.heap.size Y w') ∧ (Calls Tryd.prog 17 #[va, vb] Y fun e w' => e = .returned (.string ⟨(nextL f g).toArray⟩) ∧ Below Y.heap.size Y w') ∧ (Calls Tryd.prog 17 #[vb, va] Y fun e w' => e = .returned (.string ⟨(nextL g f).toArray⟩) ∧ Below Y.heap.size Y w') ∧ (Calls Tryd.prog 19 #[va, v1] Y fun e w' => e = .returned (.bool true) ∧ Below Y.heap.size Y w') ∧ (Calls Tryd.prog 19 #[vb, v2] Y fun e w' => e = .returned (.bool true) ∧ Below Y.heap.size Y w')) := fun X va vb hX ha hb Y hY => by
    have hY' := hX.trans (hY.mono hX.size)
    have ha' := ha.below (Nat.le_refl _) hY
    have hb' := hb.below (Nat.le_refl _) hY
    exact ⟨full_any va f hf hzf Y (hw.below hY') ha', full_any vb g hg hzg Y (hw.below hY') hb', pnxt_any va vb f g hf hg hzg Y (hw.below hY') ha' hb', pnxt_any vb va g f hg hf hzf Y (hw.below hY') hb' ha', same_yes va v1 f hf Y ha' (r1 Y hY'), same_yes vb v2 g hg Y hb' (r2 Y hY')⟩
  generalize (⟨(fullL f).toArray⟩ : ByteArray) = sff at RF PA
  generalize (⟨(fullL g).toArray⟩ : ByteArray) = sfg at RG PA
  generalize (⟨(nextL f g).toArray⟩ : ByteArray) = snf at NF PA
  generalize (⟨(nextL g f).toArray⟩ : ByteArray) = sng at NG PA
  obtain ⟨a1, c1, rfl⟩ := rd_form h1
  obtain ⟨a2, c2, rfl⟩ := rd_form h2
  clear r1 r2 hf hg rf rg hzf hzg hw h1 h2
  obtain ⟨fw, fR, fr, fc⟩ := f
  obtain ⟨gw, gR, gr, gc⟩ := g
  simp only at CX C1 C2 RF RG NF NG PA ⊢
  obtain ⟨n1, hn1⟩ : ∃ n, fR.length = n := ⟨_, rfl⟩
  obtain ⟨n2, hn2⟩ : ∃ n, gR.length = n := ⟨_, rfl⟩
  have HNN : Hid (fR.length = n1 ∧ gR.length = n2) := ⟨hn1, hn2⟩
  rw [hn1] at C1 RF NF NG PA ⊢
  rw [hn2] at C2 RG NF NG PA ⊢
  clear hn1 hn2
  have H0 : Hid (Bx2 w (.cells #[.int .i64 fw, .slice a1 n1 c1, .int .i64 fr, .int .i64 fc] 26 (0, 0)) (.cells #[.int .i64 gw, .slice a2 n2 c2, .int .i64 gr, .int .i64 gc] 26 (0, 0)) ((w.alloc (.cells #[.int .i64 fw, .slice a1 n1 c1, .int .i64 fr, .int .i64 fc] 26)).alloc (.cells #[.int .i64 gw, .slice a2 n2 c2, .int .i64 gr, .int .i64 gc] 26))) := box_two _ _
  go_enter Tryd.func4, Tryd.ntmps4
  go_upto_region 3 with (go_at_call 7; refine (CX.out _ H0.out.1).mono ?_; clear CX; rintro e w1 ⟨rfl, HB1⟩)
  have HX1 : Hid (Bx2 w (.cells #[.int .i64 fw, .slice a1 n1 c1, .int .i64 fr, .int .i64 fc] 26 (0, 0)) (.cells #[.int .i64 gw, .slice a2 n2 c2, .int .i64 gr, .int .i64 gc] 26 (0, 0)) w1) := Bx2.next H0.out HB1.out
  clear H0 HB1
  refine region_inv HM.out (by kernel_rfl) (fun v a' w' => ∃ y : Nat → Value, a' = ⟨#[.agg #[.int .i64 fw, .slice a1 n1 c1, .int .i64 fr, .int .i64 fc], .agg #[.int .i64 gw, .slice a2 n2 c2, .int .i64 gr, .int .i64 gc], .pointer (some ⟨w.heap.size, 0, none⟩), .pointer (some ⟨w.heap.size + 1, 0, none⟩), .bool false, y 4, y 5, .bool true, .bool false, y 0, y 1, y 2, y 3, undef, undef, undef, undef, undef, undef, undef, undef, undef, undef, undef, undef, undef, undef, undef, undef, undef, undef, undef, undef, undef, undef, undef, undef, undef, undef, undef, undef, undef, undef, undef, undef, undef, undef, undef, undef, undef, undef, undef, undef], []⟩ ∧ Hid (Tw w1 ⟨fw, fR, fr, fc⟩ ⟨gw, gR, gr, gc⟩ (.agg #[.int .i64 fw, .slice a1 n1 c1, .int .i64 fr, .int .i64 fc]) (.agg #[.int .i64 gw, .slice a2 n2 c2, .int .i64 gr, .int .i64 gc]) (fun k => v.getD k false) y w')) ?start ?step ?fin
  case start =>
    refine ⟨fun _ => undef, rfl, ?_⟩
    exact Tw.start (fun k => by rw [List.getD_eq_getElem?_getD, List.getElem?_replicate]; split <;> rfl) ⟨rfl, rfl, rfl, Nat.le_refl _, fun _ _ => rfl⟩
  case step =>
    intro i o' v a' w' ho hv hni hop hI
    obtain ⟨y, rfl, HI⟩ := hI
    obtain ⟨hn', hiv⟩ := undone hni
    have hv : v.length = 8 := hv
    have HXi : Hid (Bx2 w (.cells #[.int .i64 fw, .slice a1 n1 c1, .int .i64 fr, .int .i64 fc] 26 (0, 0)) (.cells #[.int .i64 gw, .slice a2 n2 c2, .int .i64 gr, .int .i64 gc] 26 (0, 0)) w') := Bx2.next HX1.out HI.out.1
    rcases i with _ | _ | _ | _ | _ | _ | _ | _ | i
    · obtain rfl := Option.some.inj ho
      obtain ⟨⟨x0, x1, x2, x3⟩, -⟩ := box4 HXi.out.2.1
      have HN : Hid (Tw w1 ⟨fw, fR, fr, fc⟩ ⟨gw, gR, gr, gc⟩ (.agg #[.int .i64 fw, .slice a1 n1 c1, .int .i64 fr, .int .i64 fc]) (.agg #[.int .i64 gw, .slice a2 n2 c2, .int .i64 gr, .int .i64 gc]) (fun k => (v.set 0 true).getD k false) (updY y 0 (.agg #[.int .i64 fw, .slice a1 n1 c1, .int .i64 fr, .int .i64 fc])) w') := by rw [dset_of hiv]; exact Tw.load1 HI.out
      go_wp2
      exact ⟨updY y 0 (.agg #[.int .i64 fw, .slice a1 n1 c1, .int .i64 fr, .int .i64 fc]), by simp [updY], HN⟩
    · obtain rfl := Option.some.inj ho
      have e0 : y 0 = _ := Tw.ld1 HI.out (open_waits hop (by kernel_rfl))
      simp only [e0]
      go_wp2_with (go_at_call 14; refine (C1.out _ HXi.out.1).mono ?_; rintro e w5 ⟨v', rfl, HR5⟩)
      have HN : Hid (Tw w1 ⟨fw, fR, fr, fc⟩ ⟨gw, gR, gr, gc⟩ (.agg #[.int .i64 fw, .slice a1 n1 c1, .int .i64 fr, .int .i64 fc]) (.agg #[.int .i64 gw, .slice a2 n2 c2, .int .i64 gr, .int .i64 gc]) (fun k => (v.set 1 true).getD k false) (updY y 1 v') w5) := by rw [dset_of hiv]; exact Tw.call1 HI.out hn' HR5.out.2 HR5.out.1
      exact ⟨updY y 1 v', by simp [updY, e0], HN⟩
    · obtain rfl := Option.some.inj ho
      obtain ⟨⟨x0, x1, x2, x3⟩, -⟩ := box4 HXi.out.2.2
      have HN : Hid (Tw w1 ⟨fw, fR, fr, fc⟩ ⟨gw, gR, gr, gc⟩ (.agg #[.int .i64 fw, .slice a1 n1 c1, .int .i64 fr, .int .i64 fc]) (.agg #[.int .i64 gw, .slice a2 n2 c2, .int .i64 gr, .int .i64 gc]) (fun k => (v.set 2 true).getD k false) (updY y 2 (.agg #[.int .i64 gw, .slice a2 n2 c2, .int .i64 gr, .int .i64 gc])) w') := by rw [dset_of hiv]; exact Tw.load2 HI.out
      go_wp2
      exact ⟨updY y 2 (.agg #[.int .i64 gw, .slice a2 n2 c2, .int .i64 gr, .int .i64 gc]), by simp [updY], HN⟩
    · obtain rfl := Option.some.inj ho
      have e0 : y 2 = _ := Tw.ld2 HI.out (open_waits hop (by kernel_rfl))
      simp only [e0]
      go_wp2_with (go_at_call 14; refine (C2.out _ HXi.out.1).mono ?_; rintro e w5 ⟨v', rfl, HR5⟩)
      have HN : Hid (Tw w1 ⟨fw, fR, fr, fc⟩ ⟨gw, gR, gr, gc⟩ (.agg #[.int .i64 fw, .slice a1 n1 c1, .int .i64 fr, .int .i64 fc]) (.agg #[.int .i64 gw, .slice a2 n2 c2, .int .i64 gr, .int .i64 gc]) (fun k => (v.set 3 true).getD k false) (updY y 3 v') w5) := by rw [dset_of hiv]; exact Tw.call2 HI.out hn' HR5.out.2 HR5.out.1
      exact ⟨updY y 3 v', by simp [updY, e0], HN⟩
    · obtain rfl := Option.some.inj ho
      have HN : Hid (Tw w1 ⟨fw, fR, fr, fc⟩ ⟨gw, gR, gr, gc⟩ (.agg #[.int .i64 fw, .slice a1 n1 c1, .int .i64 fr, .int .i64 fc]) (.agg #[.int .i64 gw, .slice a2 n2 c2, .int .i64 gr, .int .i64 gc]) (fun k => (v.set 4 true).getD k false) (updY y 4 (.pointer (some ⟨w'.heap.size, 0, none⟩))) (w'.alloc (.cells #[.int .i64 0, .slice none 0 0, .int .i64 0, .int .i64 0] 26))) := by rw [dset_of hiv]; exact Tw.alloc1 HI.out hn'
      go_wp2
      exact ⟨updY y 4 (.pointer (some ⟨w'.heap.size, 0, none⟩)), by simp [updY], HN⟩
    · obtain rfl := Option.some.inj ho
      have HN : Hid (Tw w1 ⟨fw, fR, fr, fc⟩ ⟨gw, gR, gr, gc⟩ (.agg #[.int .i64 fw, .slice a1 n1 c1, .int .i64 fr, .int .i64 fc]) (.agg #[.int .i64 gw, .slice a2 n2 c2, .int .i64 gr, .int .i64 gc]) (fun k => (v.set 5 true).getD k false) (updY y 5 (.pointer (some ⟨w'.heap.size, 0, none⟩))) (w'.alloc (.cells #[.int .i64 0, .slice none 0 0, .int .i64 0, .int .i64 0] 26))) := by rw [dset_of hiv]; exact Tw.alloc2 HI.out hn'
      go_wp2
      exact ⟨updY y 5 (.pointer (some ⟨w'.heap.size, 0, none⟩)), by simp [updY], HN⟩
    · obtain rfl := Option.some.inj ho
      obtain ⟨a, k, b, e1, e4, hz, hfin⟩ := Tw.store1 HI.out (open_waits hop (by kernel_rfl)) (open_waits hop (by kernel_rfl)) hn'
      simp only at e1 hfin
      rw [HNN.out.1] at e1 hfin
      obtain ⟨⟨x0, x1, x2, x3⟩, s0, s1, s2, s3⟩ := box4 (show w'.heap[b]? = some (.cells #[.int .i64 0, .slice none 0 0, .int .i64 0, .int .i64 0] 26 (0, 0)) from hz)
      obtain ⟨g4, g5⟩ := grow4 w' b (.int .i64 fw) (.slice a n1 k) (.int .i64 fr) (.int .i64 fc) _ _ _ _ (show w'.heap[b]? = some (.cells #[.int .i64 0, .slice none 0 0, .int .i64 0, .int .i64 0] 26 (0, 0)) from hz)
      have HN : Hid (Tw w1 ⟨fw, fR, fr, fc⟩ ⟨gw, gR, gr, gc⟩ (.agg #[.int .i64 fw, .slice a1 n1 c1, .int .i64 fr, .int .i64 fc]) (.agg #[.int .i64 gw, .slice a2 n2 c2, .int .i64 gr, .int .i64 gc]) (fun k => (v.set 6 true).getD k false) y ((((w'.setCell ⟨b, 0, none⟩ (.int .i64 fw)).setCell ⟨b, 1, none⟩ (.slice a n1 k)).setCell ⟨b, 2, none⟩ (.int .i64 fr)).setCell ⟨b, 3, none⟩ (.int .i64 fc))) := by rw [dset_of hiv]; exact hfin _ g4 ⟨rfl, rfl, rfl⟩ g5
      clear hfin g4 g5 hz
      simp only [e1, e4]
      go_wp2
      exact ⟨y, by simp [e1, e4], HN⟩
    · obtain rfl := Option.some.inj ho
      obtain ⟨a, k, b, e1, e4, hz, hfin⟩ := Tw.store2 HI.out (open_waits hop (by kernel_rfl)) (open_waits hop (by kernel_rfl)) hn'
      simp only at e1 hfin
      rw [HNN.out.2] at e1 hfin
      obtain ⟨⟨x0, x1, x2, x3⟩, s0, s1, s2, s3⟩ := box4 (show w'.heap[b]? = some (.cells #[.int .i64 0, .slice none 0 0, .int .i64 0, .int .i64 0] 26 (0, 0)) from hz)
      obtain ⟨g4, g5⟩ := grow4 w' b (.int .i64 gw) (.slice a n2 k) (.int .i64 gr) (.int .i64 gc) _ _ _ _ (show w'.heap[b]? = some (.cells #[.int .i64 0, .slice none 0 0, .int .i64 0, .int .i64 0] 26 (0, 0)) from hz)
      have HN : Hid (Tw w1 ⟨fw, fR, fr, fc⟩ ⟨gw, gR, gr, gc⟩ (.agg #[.int .i64 fw, .slice a1 n1 c1, .int .i64 fr, .int .i64 fc]) (.agg #[.int .i64 gw, .slice a2 n2 c2, .int .i64 gr, .int .i64 gc]) (fun k => (v.set 7 true).getD k false) y ((((w'.setCell ⟨b, 0, none⟩ (.int .i64 gw)).setCell ⟨b, 1, none⟩ (.slice a n2 k)).setCell ⟨b, 2, none⟩ (.int .i64 gr)).setCell ⟨b, 3, none⟩ (.int .i64 gc))) := by rw [dset_of hiv]; exact hfin _ g4 ⟨rfl, rfl, rfl⟩ g5
      clear hfin g4 g5 hz
      simp only [e1, e4]
      go_wp2
      exact ⟨y, by simp [e1, e4], HN⟩
    · cases ho
  case fin =>
    intro v a' w3 hv hall hI
    obtain ⟨y, rfl, HI⟩ := hI
    have hv : v.length = 8 := hv
    obtain ⟨aa, ka, ba, ab, kb, bb, ⟨e4, e5⟩, hbl, ⟨ha, hb⟩, hra, hrb⟩ := Tw.fin HI.out (of_all hall (by omega)) (of_all hall (by omega))
    simp only at ha hb hra hrb
    rw [HNN.out.1] at ha hra
    rw [HNN.out.2] at hb hrb
    have HX3 : Hid (Bx2 w (.cells #[.int .i64 fw, .slice a1 n1 c1, .int .i64 fr, .int .i64 fc] 26 (0, 0)) (.cells #[.int .i64 gw, .slice a2 n2 c2, .int .i64 gr, .int .i64 gc] 26 (0, 0)) w3) := Bx2.next HX1.out hbl
    have HPA := PA.out w3 _ _ HX3.out.1 hra hrb
    obtain ⟨⟨x0, x1, x2, x3⟩, -⟩ := box4 HX3.out.2.1
    obtain ⟨⟨y0, y1, y2, y3⟩, -⟩ := box4 HX3.out.2.2
    obtain ⟨⟨s0, s1, s2, s3⟩, -⟩ := box4 ha
    obtain ⟨⟨t0, t1, t2, t3⟩, -⟩ := box4 hb
    replace x0 := cell_rgP x0
    replace x1 := cell_rgP x1
    replace x2 := cell_rgP x2
    replace x3 := cell_rgP x3
    replace y0 := cell_rgP y0
    replace y1 := cell_rgP y1
    replace y2 := cell_rgP y2
    replace y3 := cell_rgP y3
    replace s0 := cell_rgP s0
    replace s1 := cell_rgP s1
    replace s2 := cell_rgP s2
    replace s3 := cell_rgP s3
    replace t0 := cell_rgP t0
    replace t1 := cell_rgP t1
    replace t2 := cell_rgP t2
    replace t3 := cell_rgP t3
    have k1 := call_rgP (W := w3) fun X hX => (HPA X hX).1
    have k2 := call_rgP (W := w3) fun X hX => RF.out X (HX3.out.1.trans (hX.mono HX3.out.1.size))
    have k3 := call_rgP (W := w3) fun X hX => (HPA X hX).2.2.1
    have k4 := call_rgP (W := w3) fun X hX => NF.out X (HX3.out.1.trans (hX.mono HX3.out.1.size))
    have k5 := call_rgP (W := w3) fun X hX => (HPA X hX).2.2.2.1
    have k6 := call_rgP (W := w3) fun X hX => NG.out X (HX3.out.1.trans (hX.mono HX3.out.1.size))
    have k7 := call_rgP (W := w3) fun X hX => (HPA X hX).2.1
    have k8 := call_rgP (W := w3) fun X hX => RG.out X (HX3.out.1.trans (hX.mono HX3.out.1.size))
    have k9 := call_rgP (W := w3) fun X hX => (HPA X hX).2.2.2.2.1
    have k10 := call_rgP (W := w3) fun X hX => (HPA X hX).2.2.2.2.2
    have HF0 : Hid (∀ dq osq, Below w.heap.size w (Go.Sort.grow (redrawn w3 dq) osq)) := fun dq osq => HX3.out.1.trans ((below_regrown _ dq osq).mono HX3.out.1.size)
    clear HPA ha hb hra hrb hbl HI hall hv C1 C2 RF RG NF NG PA HX1 HX3
    simp only [e4, e5]
    generalize y 0 = z0
    generalize y 1 = z1
    generalize y 2 = z2
    generalize y 3 = z3
    clear e4 e5
    go_wp2
    refine wp_region_quiet_below HM.out (by kernel_rfl) ?_
    iterate 1 (go_big_quiet_step (fail))
    go_big_quiet_step (exact k1 _ _)
    iterate 1 (go_big_quiet_step (fail))
    go_big_quiet_step (exact k2 _ _)
    iterate 4 (go_big_quiet_step (fail))
    go_big_quiet_step (exact k3 _ _)
    iterate 2 (go_big_quiet_step (fail))
    go_big_quiet_step (exact k4 _ _)
    iterate 5 (go_big_quiet_step (fail))
    go_big_quiet_step (exact k5 _ _)
    iterate 2 (go_big_quiet_step (fail))
    go_big_quiet_step (exact k6 _ _)
    iterate 4 (go_big_quiet_step (fail))
    go_big_quiet_step (exact k7 _ _)
    iterate 1 (go_big_quiet_step (fail))
    go_big_quiet_step (exact k8 _ _)
    iterate 5 (go_big_quiet_step (fail))
    go_big_quiet_step (exact k9 _ _)
    iterate 4 (go_big_quiet_step (fail))
    go_big_quiet_step (exact k10 _ _)
    repeat (go_big_quiet_step (fail))
    refine wpQuiet_nil ?_
    intro _ hw'
    obtain ⟨⟨dq, osq⟩, hw''⟩ := hw'
    subst hw''
    have HF : Hid (Below w.heap.size w _) := HF0.out dq osq
    dsimp only
    generalize Go.Sort.grow (redrawn w3 dq) osq = wz at HF ⊢
    clear k1 k2 k3 k4 k5 k6 k7 k8 k9 k10 x0 x1 x2 x3 y0 y1 y2 y3 s0 s1 s2 s3 t0 t1 t2 t3
    go_wp2
    go_ret
    exact ⟨rfl, HF.out⟩
theorem fs_w {f : Fm} (h : fwt f ≤ 1048576) : Fs f ∧ Fr f := by
  have q1 := fwt_len f
  refine ⟨⟨by omega, fun l hl => ?_⟩, ⟨by omega, fun l hl => ?_⟩⟩
  · have q2 := fwt_mem hl
    have q3 := rwt_len l
    refine ⟨by omega, fun c hc => ?_⟩
    have q4 := rwt_mem hc
    unfold maxLen
    omega
  · have q2 := fwt_mem hl
    have q3 := rwt_len l
    refine ⟨by omega, fun c hc => ?_⟩
    have q4 := rwt_mem hc
    omega
theorem walk_of {H : Type} {d1 d2 : DataW H} (v1 : Value) (f : Fm) (v2 : Value) (g : Fm) (w : World) (hT : Pw w) (h1 : RdFm w v1 f) (hx : fwt f ≤ Rows.uptoBulk d1 ∧ (-9223372036854775808 ≤ f.w ∧ f.w ≤ 9223372036854775807) ∧ (-9223372036854775808 ≤ f.r ∧ f.r ≤ 9223372036854775807) ∧ (-9223372036854775808 ≤ f.c ∧ f.c ≤ 9223372036854775807)) (h2 : RdFm w v2 g) (hy : fwt g ≤ Rows.uptoBulk d2 ∧ (-9223372036854775808 ≤ g.w ∧ g.w ≤ 9223372036854775807) ∧ (-9223372036854775808 ≤ g.r ∧ g.r ≤ 9223372036854775807) ∧ (-9223372036854775808 ≤ g.c ∧ g.c ≤ 9223372036854775807)) (hk : Rows.uptoSmall H ([d1, d2] ++ []) = true) :
    Calls Tryd.prog 4 #[v1, v2] w fun e w' => e = .returned (.bool true) ∧ Below w.heap.size w w' := by
  have h : Rows.uptoBulkAll ([d1, d2] ++ []) ≤ 1048576 := of_decide_eq_true hk
  simp only [List.append_nil, Rows.uptoBulkAll] at h
  have s1 := fs_w (f := f) (by omega)
  have s2 := fs_w (f := g) (by omega)
  exact walk (by kernel_rfl) v1 v2 f g s1.1 s2.1 s1.2 s2.2 (by omega) (by omega) w hT h1 h2
end Go.Proofs.YtcgnfjcbafmbgaaDoor.paintPaints
