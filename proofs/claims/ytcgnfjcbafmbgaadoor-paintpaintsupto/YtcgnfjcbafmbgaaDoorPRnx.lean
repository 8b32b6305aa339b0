/-
  The document's own layer 21: Next: the same bytes. Conditions: those of Fr; the frame's texts hold together at most 2^40.
-/
import Derived.Test.YtcgnfjcbafmbgaaDoorPRfl
import Derived.Test.YtcgnfjcbafmbgaaDoorPRsr
namespace Go.Proofs.YtcgnfjcbafmbgaaDoor
open Go.RowKit Go.Shelf Bod Wid
set_option maxRecDepth 100000 in
set_option maxHeartbeats 4000000 in
theorem rnext_any (v1 v2 : Value) (g f : Fm) (hg : Fr g) (hf : Fr f) (hz : fwt f ≤ 1099511627776) (w : World) (h1 : RdFm w v1 g) (h2 : RdFm w v2 f) :
    Calls Tryd.prog 18 #[v1, v2] w fun e w' => e = .returned (.string ⟨(nextL g f).toArray⟩) ∧ Below w.heap.size w w' := by
  have HM : Hid (Tryd.prog.follows .mixedOrders = true) := by show _ = _; kernel_rfl
  have hno := nextL_no (g := g) (f := f)
  have hyes : (decide (g.w = f.w) && (fitF g && fitF f)) = true → nextL g f = nxtL f.w g.rows 0 f.rows ++ (if f.rows.length < g.rows.length then gotoL f.rows.length 0 ++ [27, 91, 74] else []) ++ gotoL f.r f.c := fun h => by unfold nextL; rw [h]; rfl
  obtain ⟨rv1, rfl, hr1⟩ := id h1
  obtain ⟨sa, sk, rfl, -⟩ := hr1.get
  obtain ⟨rv2, rfl, hr2⟩ := id h2
  obtain ⟨a, k, rfl, -⟩ := hr2.get
  obtain ⟨gw, S, gr, gc⟩ := g
  obtain ⟨fw, R, fr, fc⟩ := f
  simp only at h1 hr1 h2 hr2 hf hg hno hyes hz ⊢
  obtain ⟨n, hn⟩ : ∃ n, R.length = n := ⟨_, rfl⟩
  obtain ⟨sn, hsn⟩ : ∃ n, S.length = n := ⟨_, rfl⟩
  rw [hsn] at h1 hr1 ⊢
  rw [hn] at h2 hr2 ⊢
  have H0 : Hid (Bx2 w (.cells #[.int .i64 gw, .slice sa sn sk, .int .i64 gr, .int .i64 gc] 26 (0, 0)) (.cells #[.int .i64 fw, .slice a n k, .int .i64 fr, .int .i64 fc] 26 (0, 0)) ((w.alloc (.cells #[.int .i64 gw, .slice sa sn sk, .int .i64 gr, .int .i64 gc] 26)).alloc (.cells #[.int .i64 fw, .slice a n k, .int .i64 fr, .int .i64 fc] 26))) := box_two _ _
  have CFG : Hid (∀ X, Below w.heap.size w X → Calls Tryd.prog 11 #[.agg #[.int .i64 gw, .slice sa sn sk, .int .i64 gr, .int .i64 gc]] X fun e w' => e = .returned (.bool (fitF ⟨gw, S, gr, gc⟩)) ∧ Hid (Below X.heap.size X w')) := fun X hX => rfit_any _ ⟨gw, S, gr, gc⟩ hg X (h1.below (Nat.le_refl _) hX)
  have CFF : Hid (∀ X, Below w.heap.size w X → Calls Tryd.prog 11 #[.agg #[.int .i64 fw, .slice a n k, .int .i64 fr, .int .i64 fc]] X fun e w' => e = .returned (.bool (fitF ⟨fw, R, fr, fc⟩)) ∧ Hid (Below X.heap.size X w')) := fun X hX => rfit_any _ ⟨fw, R, fr, fc⟩ hf X (h2.below (Nat.le_refl _) hX)
  have CFU : Hid (∀ X, Below w.heap.size w X → Calls Tryd.prog 16 #[.agg #[.int .i64 fw, .slice a n k, .int .i64 fr, .int .i64 fc]] X fun e w' => e = .returned (.string ⟨(fullL ⟨fw, R, fr, fc⟩).toArray⟩) ∧ Hid (Below X.heap.size X w')) := fun X hX => rfull_any _ ⟨fw, R, fr, fc⟩ hf hz X (h2.below (Nat.le_refl _) hX)
  obtain ⟨out, hout⟩ : ∃ out, nextL ⟨gw, S, gr, gc⟩ ⟨fw, R, fr, fc⟩ = out := ⟨_, rfl⟩
  obtain ⟨fu, hfu⟩ : ∃ fu, fullL ⟨fw, R, fr, fc⟩ = fu := ⟨_, rfl⟩
  obtain ⟨b1, hb1⟩ : ∃ b1, fitF ⟨gw, S, gr, gc⟩ = b1 := ⟨_, rfl⟩
  obtain ⟨b2, hb2⟩ : ∃ b2, fitF ⟨fw, R, fr, fc⟩ = b2 := ⟨_, rfl⟩
  rw [hout, hb1, hb2] at hyes
  rw [hout, hb1, hb2, hfu] at hno
  rw [hb1] at CFG
  rw [hb2] at CFF
  rw [hfu] at CFU
  rw [hout]
  have HRS : Hid (∀ w1, Below w.heap.size w w1 → RwL w1 sa S ∧ RwL w1 a R) := fun w1 hb => ⟨hr1.later hb, hr2.later hb⟩
  have HN : Hid ((R.length = n ∧ S.length = sn) ∧ (n ≤ 2147483648 ∧ sn ≤ 2147483648) ∧ (∀ l ∈ R, l.length ≤ 2147483648) ∧ (∀ j, (nxtL fw S 0 (R.take j)).length ≤ 53876069761024) ∧ (∀ l ∈ R, (rowL l).length ≤ 1099511627776) ∧ ∀ l ∈ S, l.length ≤ 2147483648) := by
    refine ⟨⟨hn, hsn⟩, ⟨by rw [← hn]; exact hf.1, by rw [← hsn]; exact hg.1⟩, fun l hl => (hf.2 l hl).1, fun j => ?_, fun l hl => ?_, fun l hl => (hg.2 l hl).1⟩
    · have h1 := nxtL_len fw S 0 (R.take j)
      have h2 := take_wt R j
      unfold fwt at hz
      simp only at hz
      omega
    · have h1 := rowL_wt l
      have h2 := fwt_mem (f := ⟨fw, R, fr, fc⟩) hl
      omega
  clear hout hfu hb1 hb2 h1 h2 hr1 hr2 hf hg hz hn hsn
  by_cases he : gw = fw
  · subst he
    rw [decide_eq_true rfl, Bool.true_and] at hyes hno
    cases b1 with
    | false =>
      obtain rfl := hno rfl
      clear hyes hno HRS HN CFF
      go_enter Tryd.func18, Tryd.ntmps18
      go_wp2_with (first
        | (go_at_call 11; refine (CFG.out _ H0.out.1).mono ?_; clear CFG; rintro e w1 ⟨rfl, HB1⟩; have HX1 := Bx2.next H0.out HB1.out; obtain ⟨⟨x0, x1, x2, x3⟩, -⟩ := box4 HX1.2.2; replace HX1 : Hid (Bx2 w _ _ w1) := HX1)
        | (go_at_call 16; refine (CFU.out _ HX1.out.1).mono ?_; clear CFU; rintro e w2 ⟨rfl, HB2⟩))
      go_ret
      exact ⟨rfl, (Bx2.next HX1.out HB2.out).1⟩
    | true =>
      cases b2 with
      | false =>
        obtain rfl := hno rfl
        clear hyes hno HRS HN
        go_enter Tryd.func18, Tryd.ntmps18
        go_wp2_with (first
          | (go_at_call 11; refine (CFG.out _ H0.out.1).mono ?_; clear CFG; rintro e w1 ⟨rfl, HB1⟩; have HX1 := Bx2.next H0.out HB1.out; obtain ⟨⟨x0, x1, x2, x3⟩, -⟩ := box4 HX1.2.2; replace HX1 : Hid (Bx2 w _ _ w1) := HX1)
          | (go_at_call 11; refine (CFF.out _ HX1.out.1).mono ?_; clear CFF x0 x1 x2 x3; rintro e w2 ⟨rfl, HB2⟩; have HX2 := Bx2.next HX1.out HB2.out; obtain ⟨⟨x0, x1, x2, x3⟩, -⟩ := box4 HX2.2.2; replace HX2 : Hid (Bx2 w _ _ w2) := HX2)
          | (go_at_call 16; refine (CFU.out _ HX2.out.1).mono ?_; clear CFU; rintro e w3 ⟨rfl, HB3⟩))
        go_ret
        exact ⟨rfl, (Bx2.next HX2.out HB3.out).1⟩
      | true =>
        have HO : Hid (out = nxtL gw S 0 R ++ (if R.length < S.length then gotoL R.length 0 ++ [27, 91, 74] else []) ++ gotoL fr fc) := hyes rfl
        clear hyes hno CFU
        go_enter Tryd.func18, Tryd.ntmps18
        go_upto_region 3 with (first
          | (go_at_call 11; refine (CFG.out _ H0.out.1).mono ?_; clear CFG; rintro e w1 ⟨rfl, HB1⟩; have HX1 := Bx2.next H0.out HB1.out; obtain ⟨⟨x0, x1, x2, x3⟩, -⟩ := box4 HX1.2.2; replace HX1 : Hid (Bx2 w _ _ w1) := HX1)
          | (go_at_call 11; refine (CFF.out _ HX1.out.1).mono ?_; clear CFF x0 x1 x2 x3; rintro e w2 ⟨rfl, HB2⟩; have HX2 : Hid (Bx2 w _ _ w2) := Bx2.next HX1.out HB2.out))
        have HV : Hid (∀ Y, Below w2.heap.size w2 Y → Bx2 w (.cells #[.int .i64 gw, .slice sa sn sk, .int .i64 gr, .int .i64 gc] 26 (0, 0)) (.cells #[.int .i64 gw, .slice a n k, .int .i64 fr, .int .i64 fc] 26 (0, 0)) Y) := fun Y hY => Bx2.next HX2.out hY
        obtain ⟨hrs, hrr⟩ := HRS.out w2 HX2.out.1
        have HS : Hid (RwL w2 sa S) := hrs
        have HR : Hid (RwL w2 a R) := hrr
        clear HX1 HX2 H0 HB1 HB2 HRS hrs hrr
        go_wp2
        go_loopw [5, 6] (fun u t wr => ∃ j : Nat, j ≤ n ∧ t = .int .i64 j ∧ Hid (Ob w2 u (nxtL gw S 0 (R.take j)) wr)) (fun _ t _ => n - (intOf t).toNat)
        case atStart => exact ⟨0, Nat.zero_le _, rfl, by rw [List.take_zero, nxtL]; exact ⟨World.ownsRow_nil _ _ _ _, Below.refl _ _⟩⟩
        case round =>
          obtain ⟨j, hj, rfl, HB⟩ := hrel
          obtain ⟨⟨x0, x1, x2, x3⟩, -⟩ := box4 (HV.out wr HB.out.2).2.2
          obtain ⟨⟨z0, z1, z2, z3⟩, -⟩ := box4 (HV.out wr HB.out.2).2.1
          by_cases hlt : j < n
          · obtain ⟨l, hl⟩ : ∃ l, R[j]? = some l := ⟨R[j]'(by rw [HN.out.1.1]; exact hlt), List.getElem?_eq_getElem _⟩
            obtain ⟨g, o, b, m, rfl, hcell, hrd⟩ := HR.out j l hl
            have y0 := hcell wr HB.out.2
            have hlt' : (j : Int) < (n : Int) := by omega
            have HLT : Hid (j < n ∧ n ≤ 2147483648) := ⟨hlt, HN.out.2.1.1⟩
            have HT : Hid (nxtL gw S 0 (R.take (j + 1)) = nxtL gw S 0 (R.take j) ++ nxtP gw S j l) := nxtL_take hl
            have hmem := List.mem_of_getElem? hl
            have hln := HN.out.2.2.1 l hmem
            have hrz := HN.out.2.2.2.2.1 l hmem
            have hoz := HN.out.2.2.2.1 j
            have hgz := gotoL_len j 0
            obtain ⟨q, hq⟩ : ∃ q, l.length = q := ⟨_, rfl⟩
            have HC : Hid (∀ W, Below w2.heap.size w2 W → W.cell? ⟨w.heap.size + 1, 1, none⟩ = some (.slice (some ⟨g, o, none⟩) n k) ∧ W.cell? ⟨g, o + j, none⟩ = some (.slice b q m) ∧ W.cell? ⟨w.heap.size + 1, 0, none⟩ = some (.int .i64 gw)) := fun W hW => by
              obtain ⟨⟨e0, e1, -, -⟩, -⟩ := box4 (HV.out W hW).2.2
              have := hcell W hW
              rw [hq] at this
              exact ⟨e1, this, e0⟩
            rw [hq] at y0 hrd
            have q0 := cell_rgP x0
            have q1 := cell_rgP x1
            have q2 := cell_rgP y0
            have p1 := cell_rgP z1
            have HF0 : Hid (∀ dq osq, Below wr.heap.size wr (Go.Sort.grow (redrawn wr dq) osq)) := fun dq osq => below_regrown _ dq osq
            have CG : Hid (∀ W, Calls Tryd.prog 13 #[.agg #[.int .i64 j, .int .i64 0]] W fun e w' => e = .returned (.string ⟨(gotoL j 0).toArray⟩) ∧ Hid (Below W.heap.size W w')) := fun W => rgoto_any j 0 W
            have CR : Hid (∀ W, Below w2.heap.size w2 W → Calls Tryd.prog 9 #[.slice b q m] W fun e w' => e = .returned (.string ⟨(rowL l).toArray⟩) ∧ Hid (Below W.heap.size W w')) := fun W hW => rrw_any _ l hln (by omega) W (hrd.below (Nat.le_refl _) hW)
            cases hk : kepP S j l with
            | true =>
              obtain ⟨mm, hmm⟩ : ∃ mm, S[j]? = some mm := by
                cases e : S[j]? with
                | none => unfold kepP at hk; rw [e] at hk; cases hk
                | some mm => exact ⟨mm, rfl⟩
              have hj2 : j < sn := by have := (List.getElem?_eq_some_iff.1 hmm).1; have := HN.out.1.2; omega
              have hj3 : (j : Int) < (sn : Int) := by omega
              obtain ⟨g2, o2, b2, m2, rfl, hcell2, hrd2⟩ := HS.out j mm hmm
              have y1 := hcell2 wr HB.out.2
              have hk2 : rowE l mm = true := by rw [← kepP_at hmm]; exact hk
              have hmn := HN.out.2.2.2.2.2 mm (List.mem_of_getElem? hmm)
              obtain ⟨qs, hqs⟩ : ∃ q, mm.length = q := ⟨_, rfl⟩
              rw [hqs] at y1 hrd2
              have p2 := cell_rgP y1
              have k1 := call_rgP (W := wr) (f := 33) (args := #[.slice b q m, .slice b2 qs m2]) (v := .bool true) fun X hX => by
                have := rsw_any l mm hln hmn X (hrd.below (Nat.le_refl _) (HB.out.2.trans (hX.mono HB.out.2.size))) (hrd2.below (Nat.le_refl _) (HB.out.2.trans (hX.mono HB.out.2.size)))
                rw [hk2] at this
                exact this
              have HE : Hid (∀ u W, Ob w2 u (nxtL gw S 0 (R.take j)) W → Ob w2 u (nxtL gw S 0 (R.take (j + 1))) W) := fun u W hW => by
                rw [HT.out, nxtP, hk, if_pos rfl, List.append_nil]
                exact hW
              clear hcell hrd hmem hq hl hlt HT hcell2 hrd2 hk hk2 hmm hqs HS HR CG CR hgz hoz hrz hln hmn y0 y1 x0 x2 x3 z0 z2 z3
              go_wp2
              clear x1 z1
              refine wp_region_quiet_below HM.out (by kernel_rfl) ?_
              iterate 16 (go_big_quiet_step (fail))
              go_big_quiet_step (exact k1 _ _)
              repeat (go_big_quiet_step (fail))
              refine wpQuiet_nil ?_
              intro _ hw'
              obtain ⟨⟨dq, osq⟩, hw''⟩ := hw'
              subst hw''
              have HF : Hid (Below wr.heap.size wr _) := HF0.out dq osq
              dsimp only
              generalize Go.Sort.grow (redrawn wr dq) osq = wz at HF ⊢
              clear q0 q1 q2 p1 p2 k1
              go_wp2
              exact ⟨⟨j + 1, by have := HLT.out; omega, by first | rw [w64t (by have := HLT.out; omega)] | (simp; done), HE.out _ _ (HB.out.next HF.out)⟩, by have := HLT.out; first | (rw [w64t (by omega)]; simp [intOf]; omega) | (simp [intOf]; omega)⟩
            | false =>
              obtain ⟨lo, hlo⟩ : ∃ lo, nxtL gw S 0 (R.take j) = lo := ⟨_, rfl⟩
              obtain ⟨lg, hlg⟩ : ∃ lg, gotoL j 0 = lg := ⟨_, rfl⟩
              obtain ⟨lr, hlr⟩ : ∃ lr, rowL l = lr := ⟨_, rfl⟩
              have HE1 : Hid ((q : Int) < gw → ∀ u W, Ob w2 u (lo ++ lg ++ lr ++ [27, 91, 75]) W → Ob w2 u (nxtL gw S 0 (R.take (j + 1))) W) := fun hc u W hW => by
                rw [HT.out, nxtP, hk, if_neg (by simp), hq, if_pos hc, hlo, hlg, hlr]
                simpa only [List.append_assoc] using hW
              have HE2 : Hid (¬ (q : Int) < gw → ∀ u W, Ob w2 u (lo ++ lg ++ lr) W → Ob w2 u (nxtL gw S 0 (R.take (j + 1))) W) := fun hc u W hW => by
                rw [HT.out, nxtP, hk, if_neg (by simp), hq, if_neg hc, List.append_nil, hlo, hlg, hlr]
                simpa only [List.append_assoc] using hW
              rw [hlo] at HB hoz
              rw [hlg] at CG hgz
              rw [hlr] at CR hrz
              have HZ : Hid (lo.length + lg.length ≤ 140737488355328 ∧ (lo ++ lg).length + lr.length ≤ 140737488355328 ∧ (lo ++ lg ++ lr).length + 3 ≤ 140737488355328) := by
                show _ ∧ _ ∧ _
                simp only [List.length_append]
                refine ⟨?_, ?_, ?_⟩ <;> omega
              by_cases hj2 : j < sn
              · have hj3 : (j : Int) < (sn : Int) := by omega
                obtain ⟨mm, hmm⟩ : ∃ mm, S[j]? = some mm := ⟨S[j]'(by rw [HN.out.1.2]; exact hj2), List.getElem?_eq_getElem _⟩
                obtain ⟨g2, o2, b2, m2, rfl, hcell2, hrd2⟩ := HS.out j mm hmm
                have y1 := hcell2 wr HB.out.2
                have hk2 : rowE l mm = false := by rw [← kepP_at hmm]; exact hk
                have hmn := HN.out.2.2.2.2.2 mm (List.mem_of_getElem? hmm)
                obtain ⟨qs, hqs⟩ : ∃ q, mm.length = q := ⟨_, rfl⟩
                rw [hqs] at y1 hrd2
                have p2 := cell_rgP y1
                have k1 := call_rgP (W := wr) (f := 33) (args := #[.slice b q m, .slice b2 qs m2]) (v := .bool false) fun X hX => by
                  have := rsw_any l mm hln hmn X (hrd.below (Nat.le_refl _) (HB.out.2.trans (hX.mono HB.out.2.size))) (hrd2.below (Nat.le_refl _) (HB.out.2.trans (hX.mono HB.out.2.size)))
                  rw [hk2] at this
                  exact this
                clear hcell hrd hmem hq hl hlt HT hcell2 hrd2 hk hk2 hmm hqs HS HR hlo hlg hlr hgz hoz hrz hln hmn y0 y1 x0 x2 x3 z0 z2 z3
                go_wp2
                clear x1 z1
                refine wp_region_quiet_below HM.out (by kernel_rfl) ?_
                iterate 16 (go_big_quiet_step (fail))
                go_big_quiet_step (exact k1 _ _)
                repeat (go_big_quiet_step (fail))
                refine wpQuiet_nil ?_
                intro _ hw'
                obtain ⟨⟨dq, osq⟩, hw''⟩ := hw'
                subst hw''
                have HF : Hid (Below wr.heap.size wr _) := HF0.out dq osq
                dsimp only
                generalize Go.Sort.grow (redrawn wr dq) osq = wz at HF ⊢
                have HOz : Hid (Ob w2 _ lo wz) := HB.out.next HF.out
                clear q0 q1 q2 p1 p2 k1
                clear HF0 HF
                go_wp2_with (first
                  | (go_at_call 13; refine (CG.out _).mono ?_; clear CG; rintro e w3 ⟨rfl, HB3⟩; have HO3 : Hid (Ob w2 _ lo w3) := HOz.out.next HB3.out; obtain ⟨v4, w4, hrun, hO4⟩ := HO3.out.app lg HZ.out.1; have HO4 : Hid (Ob w2 v4 (lo ++ lg) w4) := hO4; clear hO4)
                  | (at_builtin; refine Lib.wpList_append_run _ rfl _ _ 42 9 rfl _ _ rfl rfl v4 w4 hrun ?_; clear hrun; obtain ⟨x1, y0, -⟩ := HC.out w4 HO4.out.2)
                  | (go_at_call 9; refine (CR.out _ HO4.out.2).mono ?_; clear CR x1 y0; rintro e w5 ⟨rfl, HB5⟩; have HO5 : Hid (Ob w2 _ (lo ++ lg) w5) := HO4.out.next HB5.out; obtain ⟨v6, w6, hrun6, hO6⟩ := HO5.out.app lr HZ.out.2.1; have HO6 : Hid (Ob w2 v6 (lo ++ lg ++ lr) w6) := hO6; clear hO6)
                  | (at_builtin; refine Lib.wpList_append_run _ rfl _ _ 42 9 rfl _ _ rfl rfl v6 w6 hrun6 ?_; clear hrun6; obtain ⟨x1, y0, x0⟩ := HC.out w6 HO6.out.2))
                have q0 := cell_rgP x0
                have q1 := cell_rgP x1
                have q2 := cell_rgP y0
                have HF6 : Hid (∀ dq osq, Below w6.heap.size w6 (Go.Sort.grow (redrawn w6 dq) osq)) := fun dq osq => below_regrown _ dq osq
                clear x0 x1 y0
                by_cases hqw : (q : Int) < gw
                · refine wp_region_quiet_below HM.out (by kernel_rfl) ?_
                  repeat (go_big_quiet_step (fail))
                  refine wpQuiet_nil ?_
                  intro _ hw'
                  obtain ⟨⟨dr, osr⟩, hw''⟩ := hw'
                  subst hw''
                  have HF7 : Hid (Below w6.heap.size w6 _) := HF6.out dr osr
                  dsimp only
                  generalize Go.Sort.grow (redrawn w6 dr) osr = wy at HF7 ⊢
                  have HO7 : Hid (Ob w2 v6 (lo ++ lg ++ lr) wy) := HO6.out.next HF7.out
                  clear q0 q1 q2
                  obtain ⟨v8, w8, hrun8, hO8⟩ := HO7.out.app [27, 91, 75] HZ.out.2.2
                  have HO8 : Hid (Ob w2 v8 (lo ++ lg ++ lr ++ [27, 91, 75]) w8) := hO8
                  clear hO8
                  go_wp2_with (at_builtin; refine Lib.wpList_append_run _ rfl _ _ 42 9 rfl _ _ rfl rfl v8 w8 hrun8 ?_; clear hrun8)
                  exact ⟨⟨j + 1, by have := HLT.out; omega, by first | rw [w64t (by have := HLT.out; omega)] | (simp; done), HE1.out hqw _ _ HO8.out⟩, by have := HLT.out; first | (rw [w64t (by omega)]; simp [intOf]; omega) | (simp [intOf]; omega)⟩
                · refine wp_region_quiet_below HM.out (by kernel_rfl) ?_
                  repeat (go_big_quiet_step (fail))
                  refine wpQuiet_nil ?_
                  intro _ hw'
                  obtain ⟨⟨dr, osr⟩, hw''⟩ := hw'
                  subst hw''
                  have HF7 : Hid (Below w6.heap.size w6 _) := HF6.out dr osr
                  dsimp only
                  generalize Go.Sort.grow (redrawn w6 dr) osr = wy at HF7 ⊢
                  have HO7 : Hid (Ob w2 v6 (lo ++ lg ++ lr) wy) := HO6.out.next HF7.out
                  clear q0 q1 q2
                  go_wp2
                  exact ⟨⟨j + 1, by have := HLT.out; omega, by first | rw [w64t (by have := HLT.out; omega)] | (simp; done), HE2.out (by omega) _ _ HO7.out⟩, by have := HLT.out; first | (rw [w64t (by omega)]; simp [intOf]; omega) | (simp [intOf]; omega)⟩
              · have hj3 : ¬ (j : Int) < (sn : Int) := by omega
                clear hcell hrd hmem hq hl hlt HT hk HS HR hlo hlg hlr hgz hoz hrz hln y0 x0 x2 x3 z0 z2 z3
                go_wp2
                clear x1 z1
                refine wp_region_quiet_below HM.out (by kernel_rfl) ?_
                repeat (go_big_quiet_step (fail))
                refine wpQuiet_nil ?_
                intro _ hw'
                obtain ⟨⟨dq, osq⟩, hw''⟩ := hw'
                subst hw''
                have HF : Hid (Below wr.heap.size wr _) := HF0.out dq osq
                dsimp only
                generalize Go.Sort.grow (redrawn wr dq) osq = wz at HF ⊢
                have HOz : Hid (Ob w2 _ lo wz) := HB.out.next HF.out
                clear q0 q1 q2 p1 
                clear HF0 HF
                go_wp2_with (first
                  | (go_at_call 13; refine (CG.out _).mono ?_; clear CG; rintro e w3 ⟨rfl, HB3⟩; have HO3 : Hid (Ob w2 _ lo w3) := HOz.out.next HB3.out; obtain ⟨v4, w4, hrun, hO4⟩ := HO3.out.app lg HZ.out.1; have HO4 : Hid (Ob w2 v4 (lo ++ lg) w4) := hO4; clear hO4)
                  | (at_builtin; refine Lib.wpList_append_run _ rfl _ _ 42 9 rfl _ _ rfl rfl v4 w4 hrun ?_; clear hrun; obtain ⟨x1, y0, -⟩ := HC.out w4 HO4.out.2)
                  | (go_at_call 9; refine (CR.out _ HO4.out.2).mono ?_; clear CR x1 y0; rintro e w5 ⟨rfl, HB5⟩; have HO5 : Hid (Ob w2 _ (lo ++ lg) w5) := HO4.out.next HB5.out; obtain ⟨v6, w6, hrun6, hO6⟩ := HO5.out.app lr HZ.out.2.1; have HO6 : Hid (Ob w2 v6 (lo ++ lg ++ lr) w6) := hO6; clear hO6)
                  | (at_builtin; refine Lib.wpList_append_run _ rfl _ _ 42 9 rfl _ _ rfl rfl v6 w6 hrun6 ?_; clear hrun6; obtain ⟨x1, y0, x0⟩ := HC.out w6 HO6.out.2))
                have q0 := cell_rgP x0
                have q1 := cell_rgP x1
                have q2 := cell_rgP y0
                have HF6 : Hid (∀ dq osq, Below w6.heap.size w6 (Go.Sort.grow (redrawn w6 dq) osq)) := fun dq osq => below_regrown _ dq osq
                clear x0 x1 y0
                by_cases hqw : (q : Int) < gw
                · refine wp_region_quiet_below HM.out (by kernel_rfl) ?_
                  repeat (go_big_quiet_step (fail))
                  refine wpQuiet_nil ?_
                  intro _ hw'
                  obtain ⟨⟨dr, osr⟩, hw''⟩ := hw'
                  subst hw''
                  have HF7 : Hid (Below w6.heap.size w6 _) := HF6.out dr osr
                  dsimp only
                  generalize Go.Sort.grow (redrawn w6 dr) osr = wy at HF7 ⊢
                  have HO7 : Hid (Ob w2 v6 (lo ++ lg ++ lr) wy) := HO6.out.next HF7.out
                  clear q0 q1 q2
                  obtain ⟨v8, w8, hrun8, hO8⟩ := HO7.out.app [27, 91, 75] HZ.out.2.2
                  have HO8 : Hid (Ob w2 v8 (lo ++ lg ++ lr ++ [27, 91, 75]) w8) := hO8
                  clear hO8
                  go_wp2_with (at_builtin; refine Lib.wpList_append_run _ rfl _ _ 42 9 rfl _ _ rfl rfl v8 w8 hrun8 ?_; clear hrun8)
                  exact ⟨⟨j + 1, by have := HLT.out; omega, by first | rw [w64t (by have := HLT.out; omega)] | (simp; done), HE1.out hqw _ _ HO8.out⟩, by have := HLT.out; first | (rw [w64t (by omega)]; simp [intOf]; omega) | (simp [intOf]; omega)⟩
                · refine wp_region_quiet_below HM.out (by kernel_rfl) ?_
                  repeat (go_big_quiet_step (fail))
                  refine wpQuiet_nil ?_
                  intro _ hw'
                  obtain ⟨⟨dr, osr⟩, hw''⟩ := hw'
                  subst hw''
                  have HF7 : Hid (Below w6.heap.size w6 _) := HF6.out dr osr
                  dsimp only
                  generalize Go.Sort.grow (redrawn w6 dr) osr = wy at HF7 ⊢
                  have HO7 : Hid (Ob w2 v6 (lo ++ lg ++ lr) wy) := HO6.out.next HF7.out
                  clear q0 q1 q2
                  go_wp2
                  exact ⟨⟨j + 1, by have := HLT.out; omega, by first | rw [w64t (by have := HLT.out; omega)] | (simp; done), HE2.out (by omega) _ _ HO7.out⟩, by have := HLT.out; first | (rw [w64t (by omega)]; simp [intOf]; omega) | (simp [intOf]; omega)⟩
          · obtain rfl : j = n := by omega
            have hf : R.take j = R := List.take_of_length_le (by have := HN.out.1.1; omega)
            have hd : ¬ (j : Int) < (j : Int) := by omega
            have hoz := HN.out.2.2.2.1 j
            have hgz := gotoL_len j 0
            have hez := gotoL_len fr fc
            rw [hf] at HB hoz
            have CG : Hid (∀ W, Calls Tryd.prog 13 #[.agg #[.int .i64 j, .int .i64 0]] W fun e w' => e = .returned (.string ⟨(gotoL j 0).toArray⟩) ∧ Hid (Below W.heap.size W w')) := fun W => rgoto_any j 0 W
            have CE : Hid (∀ W, Calls Tryd.prog 13 #[.agg #[.int .i64 fr, .int .i64 fc]] W fun e w' => e = .returned (.string ⟨(gotoL fr fc).toArray⟩) ∧ Hid (Below W.heap.size W w')) := fun W => rgoto_any fr fc W
            have HOU := HO.out
            rw [HN.out.1.1, HN.out.1.2] at HOU
            obtain ⟨lo, hlo⟩ : ∃ lo, nxtL gw S 0 R = lo := ⟨_, rfl⟩
            obtain ⟨lg, hlg⟩ : ∃ lg, gotoL j 0 = lg := ⟨_, rfl⟩
            obtain ⟨le, hle⟩ : ∃ le, gotoL fr fc = le := ⟨_, rfl⟩
            rw [hlo] at HB hoz HOU
            rw [hlg] at CG hgz HOU
            rw [hle] at CE hez HOU
            have HC : Hid (∀ W, Below w2.heap.size w2 W → (W.cell? ⟨w.heap.size + 1, 2, none⟩ = some (.int .i64 fr) ∧ W.cell? ⟨w.heap.size + 1, 3, none⟩ = some (.int .i64 fc)) ∧ Below w.heap.size w W) := fun W hW => by
              obtain ⟨⟨-, -, e2, e3⟩, -⟩ := box4 (HV.out W hW).2.2
              exact ⟨⟨e2, e3⟩, (HV.out W hW).1⟩
            by_cases hsn : j < sn
            · rw [if_pos hsn] at HOU
              have hs3 : (sn : Int) > (j : Int) := by omega
              have HZ : Hid (lo.length + lg.length ≤ 140737488355328 ∧ (lo ++ lg).length + 3 ≤ 140737488355328 ∧ (lo ++ lg ++ [27, 91, 74]).length + le.length ≤ 140737488355328 ∧ out = lo ++ lg ++ [27, 91, 74] ++ le) := by
                refine ⟨by omega, by simp only [List.length_append]; omega, by simp only [List.length_append, List.length_cons, List.length_nil]; omega, by rw [HOU]; simp only [List.append_assoc]⟩
              clear HOU hsn hlo hlg hle hoz hgz hez hf HS HR HV HO x0 x2 x3 z0 z2 z3
              go_wp2_with (first
                | (go_at_call 13; refine (CG.out _).mono ?_; clear CG x1 z1; rintro e w3 ⟨rfl, HB3⟩; have HO3 : Hid (Ob w2 _ lo w3) := HB.out.next HB3.out; obtain ⟨v4, w4, hrun, hO4⟩ := HO3.out.app lg HZ.out.1; have HO4 : Hid (Ob w2 v4 (lo ++ lg) w4) := hO4; clear hO4)
                | (at_builtin; refine Lib.wpList_append_run _ rfl _ _ 42 9 rfl _ _ rfl rfl v4 w4 hrun ?_; clear hrun; obtain ⟨v5, w5, hrun5, hO5⟩ := HO4.out.app [27, 91, 74] HZ.out.2.1; have HO5 : Hid (Ob w2 v5 (lo ++ lg ++ [27, 91, 74]) w5) := hO5; clear hO5)
                | (at_builtin; refine Lib.wpList_append_run _ rfl _ _ 42 9 rfl _ _ rfl rfl v5 w5 hrun5 ?_; clear hrun5; obtain ⟨⟨x2, x3⟩, -⟩ := HC.out w5 HO5.out.2)
                | (go_at_call 13; refine (CE.out _).mono ?_; clear CE x2 x3; rintro e w6 ⟨rfl, HB6⟩; have HO6 : Hid (Ob w2 _ (lo ++ lg ++ [27, 91, 74]) w6) := HO5.out.next HB6.out; obtain ⟨v7, w7, hrun7, hO7⟩ := HO6.out.app le HZ.out.2.2.1; have HO7 : Hid (Ob w2 v7 (lo ++ lg ++ [27, 91, 74] ++ le) w7) := hO7; clear hO7)
                | (at_builtin; refine Lib.wpList_append_run _ rfl _ _ 42 9 rfl _ _ rfl rfl v7 w7 hrun7 ?_; clear hrun7; have hcv := conv_rowP HO7.out.1 rfl))
              go_ret
              rw [HZ.out.2.2.2, show lo ++ lg ++ [27, 91, 74] ++ le = lo ++ (lg ++ 27 :: 91 :: 74 :: le) by simp]
              exact ⟨rfl, (HC.out _ HO7.out.2).2⟩
            · rw [if_neg hsn, List.append_nil] at HOU
              have hs3 : ¬ (sn : Int) > (j : Int) := by omega
              have HZ : Hid (lo.length + le.length ≤ 140737488355328 ∧ out = lo ++ le) := ⟨by omega, HOU⟩
              clear HOU hsn hlo hlg hle hoz hgz hez hf HS HR HV HO CG x0 z0 z2 z3
              go_wp2_with (first
                | (go_at_call 13; refine (CE.out _).mono ?_; clear CE x1 x2 x3 z1; rintro e w6 ⟨rfl, HB6⟩; have HO6 : Hid (Ob w2 _ lo w6) := HB.out.next HB6.out; obtain ⟨v7, w7, hrun7, hO7⟩ := HO6.out.app le HZ.out.1; have HO7 : Hid (Ob w2 v7 (lo ++ le) w7) := hO7; clear hO7)
                | (at_builtin; refine Lib.wpList_append_run _ rfl _ _ 42 9 rfl _ _ rfl rfl v7 w7 hrun7 ?_; clear hrun7; have hcv := conv_rowP HO7.out.1 rfl))
              go_ret
              rw [HZ.out.2]
              exact ⟨rfl, (HC.out _ HO7.out.2).2⟩
  · have hd : (decide (gw = fw) && (b1 && b2)) = false := by rw [decide_eq_false he]; rfl
    obtain rfl := hno hd
    have e1 : (gw == fw) = false := by simp [he]
    have e2 : decide (gw = fw) = false := by simp [he]
    clear hno hyes HRS HN CFF CFG hd
    go_enter Tryd.func18, Tryd.ntmps18
    go_wp2_with (go_at_call 16; refine (CFU.out _ H0.out.1).mono ?_; clear CFU; rintro e w2 ⟨rfl, HB2⟩)
    go_ret
    exact ⟨rfl, (Bx2.next H0.out HB2.out).1⟩
end Go.Proofs.YtcgnfjcbafmbgaaDoor
