/-
  Package paint, walked: Next. Conditions: the tables lie as their text lays them; frames that fit the machine.
-/
import Derived.Test.YtcgnfjcbafmbgaaDoorPFul
namespace Go.Proofs.YtcgnfjcbafmbgaaDoor
open Go.RowKit Go.Shelf Bod Wid
theorem box_two {w : World} (o0 o1 : Obj) : Below w.heap.size w ((w.alloc o0).alloc o1) ∧ ((w.alloc o0).alloc o1).heap[w.heap.size]? = some o0 ∧ ((w.alloc o0).alloc o1).heap[w.heap.size + 1]? = some o1 := by
  refine ⟨((Below.refl _ w).alloc (Nat.le_refl _) _).alloc (by simp) _, ?_, ?_⟩
  · exact (Below.heap_alloc _ _ _ (by simp)).trans (World.alloc_heap_new w o0)
  · have := World.alloc_heap_new (w.alloc o0) o1
    simpa using this
/-- the two frames in their boxes -/
def Bx2 (w : World) (o0 o1 : Obj) (X : World) : Prop := Below w.heap.size w X ∧ X.heap[w.heap.size]? = some o0 ∧ X.heap[w.heap.size + 1]? = some o1
theorem Bx2.next {w X Y : World} {o0 o1 : Obj} (h : Bx2 w o0 o1 X) (hb : Below X.heap.size X Y) : Bx2 w o0 o1 Y :=
  ⟨h.1.trans (hb.mono h.1.size), (hb.block _ (Array.getElem?_eq_some_iff.1 h.2.1).1).trans h.2.1, (hb.block _ (Array.getElem?_eq_some_iff.1 h.2.2).1).trans h.2.2⟩
/-- the rows of a frame in all later worlds -/
def RwL (w1 : World) (a : Option Addr) (R : List (List Cel)) : Prop := ∀ (i : Nat) (l : List Cel), R[i]? = some l → ∃ g o b m, a = some ⟨g, o, none⟩ ∧ (∀ Y, Below w1.heap.size w1 Y → Y.cell? ⟨g, o + i, none⟩ = some (.slice b l.length m)) ∧ RdCe w1 (.slice b l.length m) l
theorem RdRw.later {w w1 : World} {a : Option Addr} {n k : Nat} {R : List (List Cel)} (h : RdRw w (.slice a n k) R) (h1 : Below w.heap.size w w1) : RwL w1 a R := fun i l hi => by
  obtain ⟨a', k', e, hc⟩ := h.get
  injection e with e1 e2 e3
  subst e1
  obtain ⟨g, o, b, m, e, hg, hcell, hrd⟩ := hc i l hi
  have c1 := (h1.cell (p := ⟨g, o + i, none⟩) hg).trans hcell
  exact ⟨g, o, b, m, e, fun Y hY => (hY.cell (p := ⟨g, o + i, none⟩) (World.block_lt_of_cell? w1 _ c1)).trans c1, hrd.below (Nat.le_refl _) h1⟩
theorem kepP_no {S : List (List Cel)} {i : Nat} {l : List Cel} (h : S.length ≤ i) : kepP S i l = false := by unfold kepP; rw [List.getElem?_eq_none h]
theorem kepP_at {S : List (List Cel)} {i : Nat} {l m : List Cel} (h : S[i]? = some m) : kepP S i l = rowE l m := by unfold kepP; rw [h]
theorem nextL_no {g f : Fm} (h : (decide (g.w = f.w) && (fitF g && fitF f)) = false) : nextL g f = fullL f := by unfold nextL; rw [h]; rfl
set_option maxRecDepth 100000 in
set_option maxHeartbeats 4000000 in
theorem pnxt_any (v1 v2 : Value) (g f : Fm) (hg : Fs g) (hf : Fs f) (hz : fwt f ≤ 1099511627776) (w : World) (hw : Pw w) (h1 : RdFm w v1 g) (h2 : RdFm w v2 f) :
    Calls Tryd.prog 17 #[v1, v2] w fun e w' => e = .returned (.string ⟨(nextL g f).toArray⟩) ∧ Below w.heap.size w w' := by
  have hno := nextL_no (g := g) (f := f)
  have hyes : (decide (g.w = f.w) && (fitF g && fitF f)) = true → nextL g f = nxtL f.w g.rows 0 f.rows ++ (if f.rows.length < g.rows.length then gotoL f.rows.length 0 ++ [27, 91, 74] else []) ++ gotoL f.r f.c := fun h => by unfold nextL; rw [h]; rfl
  obtain ⟨rv1, rfl, hr1⟩ := id h1
  obtain ⟨sa, sk, rfl, -⟩ := hr1.get
  obtain ⟨rv2, rfl, hr2⟩ := id h2
  obtain ⟨a, k, rfl, -⟩ := hr2.get
  obtain ⟨gw, S, gr, gc⟩ := g
  obtain ⟨fw, R, fr, fc⟩ := f
  simp only at h1 hr1 h2 hr2 hf hg hno hyes hz ⊢
  obtain ⟨n, hn⟩ : ∃ n, R.length = n := ⟨_, rfl⟩
  obtain ⟨sn, hsn⟩ : ∃ n, S.length = n := ⟨_, rfl⟩
  rw [hsn] at h1 hr1 ⊢
  rw [hn] at h2 hr2 ⊢
  have H0 : Hid (Bx2 w (.cells #[.int .i64 gw, .slice sa sn sk, .int .i64 gr, .int .i64 gc] 26 (0, 0)) (.cells #[.int .i64 fw, .slice a n k, .int .i64 fr, .int .i64 fc] 26 (0, 0)) ((w.alloc (.cells #[.int .i64 gw, .slice sa sn sk, .int .i64 gr, .int .i64 gc] 26)).alloc (.cells #[.int .i64 fw, .slice a n k, .int .i64 fr, .int .i64 fc] 26))) := box_two _ _
  have CFG : Hid (∀ X, Below w.heap.size w X → Calls Tryd.prog 10 #[.agg #[.int .i64 gw, .slice sa sn sk, .int .i64 gr, .int .i64 gc]] X fun e w' => e = .returned (.bool (fitF ⟨gw, S, gr, gc⟩)) ∧ Hid (Below X.heap.size X w')) := fun X hX => fit_any _ ⟨gw, S, gr, gc⟩ hg X (tabs_below hw.1 hX) (h1.below (Nat.le_refl _) hX)
  have CFF : Hid (∀ X, Below w.heap.size w X → Calls Tryd.prog 10 #[.agg #[.int .i64 fw, .slice a n k, .int .i64 fr, .int .i64 fc]] X fun e w' => e = .returned (.bool (fitF ⟨fw, R, fr, fc⟩)) ∧ Hid (Below X.heap.size X w')) := fun X hX => fit_any _ ⟨fw, R, fr, fc⟩ hf X (tabs_below hw.1 hX) (h2.below (Nat.le_refl _) hX)
  have CFU : Hid (∀ X, Below w.heap.size w X → Calls Tryd.prog 15 #[.agg #[.int .i64 fw, .slice a n k, .int .i64 fr, .int .i64 fc]] X fun e w' => e = .returned (.string ⟨(fullL ⟨fw, R, fr, fc⟩).toArray⟩) ∧ Hid (Below X.heap.size X w')) := fun X hX => full_any _ ⟨fw, R, fr, fc⟩ hf hz X (hw.below hX) (h2.below (Nat.le_refl _) hX)
  obtain ⟨out, hout⟩ : ∃ out, nextL ⟨gw, S, gr, gc⟩ ⟨fw, R, fr, fc⟩ = out := ⟨_, rfl⟩
  obtain ⟨fu, hfu⟩ : ∃ fu, fullL ⟨fw, R, fr, fc⟩ = fu := ⟨_, rfl⟩
  obtain ⟨b1, hb1⟩ : ∃ b1, fitF ⟨gw, S, gr, gc⟩ = b1 := ⟨_, rfl⟩
  obtain ⟨b2, hb2⟩ : ∃ b2, fitF ⟨fw, R, fr, fc⟩ = b2 := ⟨_, rfl⟩
  rw [hout, hb1, hb2] at hyes
  rw [hout, hb1, hb2, hfu] at hno
  rw [hb1] at CFG
  rw [hb2] at CFF
  rw [hfu] at CFU
  rw [hout]
  have HP : Hid (∀ w1, Below w.heap.size w w1 → Pw w1) := fun w1 h1 => hw.below h1
  have HRS : Hid (∀ w1, Below w.heap.size w w1 → RwL w1 sa S ∧ RwL w1 a R) := fun w1 hb => ⟨hr1.later hb, hr2.later hb⟩
  have HN : Hid ((R.length = n ∧ S.length = sn) ∧ (n ≤ 2147483648 ∧ sn ≤ 2147483648) ∧ (∀ l ∈ R, l.length ≤ 2147483648) ∧ (∀ j, (nxtL fw S 0 (R.take j)).length ≤ 53876069761024) ∧ (∀ l ∈ R, (rowL l).length ≤ 1099511627776) ∧ ∀ l ∈ S, l.length ≤ 2147483648) := by
    refine ⟨⟨hn, hsn⟩, ⟨by rw [← hn]; exact hf.1, by rw [← hsn]; exact hg.1⟩, fun l hl => (hf.2 l hl).1, fun j => ?_, fun l hl => ?_, fun l hl => (hg.2 l hl).1⟩
    · have h1 := nxtL_len fw S 0 (R.take j)
      have h2 := take_wt R j
      unfold fwt at hz
      simp only at hz
      omega
    · have h1 := rowL_wt l
      have h2 := fwt_mem (f := ⟨fw, R, fr, fc⟩) hl
      omega
  clear hout hfu hb1 hb2 h1 h2 hr1 hr2 hf hg hz hw hn hsn
  by_cases he : gw = fw
  · subst he
    rw [decide_eq_true rfl, Bool.true_and] at hyes hno
    cases b1 with
    | false =>
      obtain rfl := hno rfl
      clear hyes hno HRS HP HN CFF
      go_enter Tryd.func17, Tryd.ntmps17
      go_wp2_with (first
        | (go_at_call 10; refine (CFG.out _ H0.out.1).mono ?_; clear CFG; rintro e w1 ⟨rfl, HB1⟩; have HX1 := Bx2.next H0.out HB1.out; obtain ⟨⟨x0, x1, x2, x3⟩, -⟩ := box4 HX1.2.2; replace HX1 : Hid _ := HX1)
        | (go_at_call 15; refine (CFU.out _ HX1.out.1).mono ?_; clear CFU; rintro e w2 ⟨rfl, HB2⟩))
      go_ret
      exact ⟨rfl, (Bx2.next HX1.out HB2.out).1⟩
    | true =>
      cases b2 with
      | false =>
        obtain rfl := hno rfl
        clear hyes hno HRS HP HN
        go_enter Tryd.func17, Tryd.ntmps17
        go_wp2_with (first
          | (go_at_call 10; refine (CFG.out _ H0.out.1).mono ?_; clear CFG; rintro e w1 ⟨rfl, HB1⟩; have HX1 := Bx2.next H0.out HB1.out; obtain ⟨⟨x0, x1, x2, x3⟩, -⟩ := box4 HX1.2.2; replace HX1 : Hid _ := HX1)
          | (go_at_call 10; refine (CFF.out _ HX1.out.1).mono ?_; clear CFF x0 x1 x2 x3; rintro e w2 ⟨rfl, HB2⟩; have HX2 := Bx2.next HX1.out HB2.out; obtain ⟨⟨x0, x1, x2, x3⟩, -⟩ := box4 HX2.2.2; replace HX2 : Hid _ := HX2)
          | (go_at_call 15; refine (CFU.out _ HX2.out.1).mono ?_; clear CFU; rintro e w3 ⟨rfl, HB3⟩))
        go_ret
        exact ⟨rfl, (Bx2.next HX2.out HB3.out).1⟩
      | true =>
        have HO : Hid (out = nxtL gw S 0 R ++ (if R.length < S.length then gotoL R.length 0 ++ [27, 91, 74] else []) ++ gotoL fr fc) := hyes rfl
        clear hyes hno CFU
        go_enter Tryd.func17, Tryd.ntmps17
        go_upto_region 3 with (first
          | (go_at_call 10; refine (CFG.out _ H0.out.1).mono ?_; clear CFG; rintro e w1 ⟨rfl, HB1⟩; have HX1 := Bx2.next H0.out HB1.out; obtain ⟨⟨x0, x1, x2, x3⟩, -⟩ := box4 HX1.2.2; replace HX1 : Hid _ := HX1)
          | (go_at_call 10; refine (CFF.out _ HX1.out.1).mono ?_; clear CFF x0 x1 x2 x3; rintro e w2 ⟨rfl, HB2⟩; have HX2 := Bx2.next HX1.out HB2.out; replace HX2 : Hid _ := HX2))
        have HS0 : Hid (Bs w2.heap.size w2 [] (w2.alloc (.cells #[.pointer none, .slice none 0 0] 44))) := Bs.new w2
        have HV : Hid (∀ Y, Below w2.heap.size w2 Y → Bx2 w (.cells #[.int .i64 gw, .slice sa sn sk, .int .i64 gr, .int .i64 gc] 26 (0, 0)) (.cells #[.int .i64 gw, .slice a n k, .int .i64 fr, .int .i64 fc] 26 (0, 0)) Y) := fun Y hY => Bx2.next HX2.out hY
        have HPW : Hid (Pw w2) := HP.out _ HX2.out.1
        obtain ⟨hrs, hrr⟩ := HRS.out w2 HX2.out.1
        have HS : Hid (RwL w2 sa S) := hrs
        have HR : Hid (RwL w2 a R) := hrr
        clear HP HX1 HX2 H0 HB1 HB2 HRS hrs hrr
        obtain ⟨⟨x0, x1, x2, x3⟩, -⟩ := box4 (HV.out _ HS0.out.bel).2.2
        go_wp2
        clear x0 x1 x2 x3
        go_loopw [28] (fun t wr => ∃ j : Nat, j ≤ n ∧ t = .int .i64 j ∧ Hid (Bs w2.heap.size w2 (nxtL gw S 0 (R.take j)) wr)) (fun t _ => n - (intOf t).toNat)
        case atStart => exact ⟨0, Nat.zero_le _, rfl, by rw [List.take_zero, nxtL]; exact HS0⟩
        case round =>
          clear HS0
          obtain ⟨j, hj, rfl, HB⟩ := hrel
          by_cases hlt : j < n
          · obtain ⟨l, hl⟩ : ∃ l, R[j]? = some l := ⟨R[j]'(by rw [HN.out.1.1]; exact hlt), List.getElem?_eq_getElem _⟩
            obtain ⟨g, o, b, m, rfl, hcell, hrd⟩ := HR.out j l hl
            have y0 := hcell wr HB.out.bel
            have hlt' : (j : Int) < (n : Int) := by omega
            have HLT : Hid (j < n ∧ n ≤ 2147483648) := ⟨hlt, HN.out.2.1.1⟩
            have HT : Hid (nxtL gw S 0 (R.take (j + 1)) = nxtL gw S 0 (R.take j) ++ nxtP gw S j l) := nxtL_take hl
            have hmem := List.mem_of_getElem? hl
            have hln := HN.out.2.2.1 l hmem
            have hrz := HN.out.2.2.2.2.1 l hmem
            have hoz := HN.out.2.2.2.1 j
            have hgz := gotoL_len j 0
            obtain ⟨q, hq⟩ : ∃ q, l.length = q := ⟨_, rfl⟩
            rw [hq] at y0 hrd
            obtain ⟨⟨z0, z1, z2, z3⟩, -⟩ := box4 (HV.out _ HB.out.bel).2.1
            -- what is written for the row
            have CB : Hid (∀ W, Below wr.heap.size wr W → Calls Tryd.prog 31 #[.pointer (some ⟨w2.heap.size, 0, none⟩), .int .i64 j] W fun e W' => (∃ u, e = .returned u) ∧ Hid (Bs w2.heap.size w2 (nxtL gw S 0 (R.take j) ++ gotoL j 0) W')) := fun W hW => begin_any j (by omega) W HPW.out (HB.out.next hW)
            have CWr : Hid (∀ W, Bs w2.heap.size w2 (nxtL gw S 0 (R.take j) ++ gotoL j 0) W → Calls Tryd.prog 22 #[.pointer (some ⟨w2.heap.size, 0, none⟩), .slice b q m] W fun e W' => (∃ u, e = .returned u) ∧ Hid (Bs w2.heap.size w2 (nxtL gw S 0 (R.take j) ++ gotoL j 0 ++ rowL l) W')) := fun W hW => write_any (.slice b q m) l hln (by rw [List.length_append]; omega) W hW hrd
            have CK : Hid (∀ W, Bs w2.heap.size w2 (nxtL gw S 0 (R.take j) ++ gotoL j 0 ++ rowL l) W → Calls Tryd.prog 30 #[.pointer (some ⟨w2.heap.size, 0, none⟩), .string ⟨#[27, 91, 75]⟩] W fun e W' => (∃ u, e = .returned u) ∧ Hid (Bs w2.heap.size w2 (nxtL gw S 0 (R.take j) ++ gotoL j 0 ++ rowL l ++ [27, 91, 75]) W')) := fun W hW => hW.put ⟨#[27, 91, 75]⟩ (by rw [List.length_append, List.length_append]; show _ + 3 ≤ _; omega)
            have HV4 : Hid (∀ W out, Bs w2.heap.size w2 out W → W.cell? ⟨w.heap.size + 1, 0, none⟩ = some (.int .i64 gw)) := fun W out hW => by
              obtain ⟨⟨x0, -, -, -⟩, -⟩ := box4 (HV.out _ hW.bel).2.2
              exact x0
            cases hk : kepP S j l with
            | true =>
              obtain ⟨mm, hmm⟩ : ∃ mm, S[j]? = some mm := by
                cases e : S[j]? with
                | none => unfold kepP at hk; rw [e] at hk; cases hk
                | some mm => exact ⟨mm, rfl⟩
              have hj2 : j < sn := by have := (List.getElem?_eq_some_iff.1 hmm).1; have := HN.out.1.2; omega
              have hj3 : (j : Int) < (sn : Int) := by omega
              obtain ⟨g2, o2, b2, m2, rfl, hcell2, hrd2⟩ := HS.out j mm hmm
              have y1 := hcell2 wr HB.out.bel
              have hk2 : rowE l mm = true := by rw [← kepP_at hmm]; exact hk
              have hmn := HN.out.2.2.2.2.2 mm (List.mem_of_getElem? hmm)
              obtain ⟨q2, hq2⟩ : ∃ q, mm.length = q := ⟨_, rfl⟩
              rw [hq2] at y1 hrd2
              have CE : Hid (Calls Tryd.prog 32 #[.slice b q m, .slice b2 q2 m2] wr fun e w' => e = .returned (.bool true) ∧ Hid (Below wr.heap.size wr w')) := by
                have := seqf_any l mm hln hmn wr (hrd.below (Nat.le_refl _) HB.out.bel) (hrd2.below (Nat.le_refl _) HB.out.bel)
                rw [hk2] at this
                exact this
              have HE : Hid (∀ W, Bs w2.heap.size w2 (nxtL gw S 0 (R.take j)) W → Bs w2.heap.size w2 (nxtL gw S 0 (R.take (j + 1))) W) := fun W hW => by
                rw [HT.out, nxtP, hk, if_pos rfl, List.append_nil]
                exact hW
              clear hcell hrd hmem hq hl hlt HT hcell2 hrd2 hk hk2 hmm hq2 HS HR CB CWr CK HV4 hj2 hgz hoz hrz hln hmn
              go_wp2_with (go_at_call 32; refine CE.out.mono ?_; clear CE z0 z1 z2 z3; rintro e w3 ⟨rfl, HB3⟩)
              have HH := HE.out _ (HB.out.next HB3.out)
              exact ⟨⟨j + 1, by have := HLT.out; omega, by first | rw [w64t (by have := HLT.out; omega)] | (simp; done), HH⟩, by have := HLT.out; first | (rw [w64t (by omega)]; simp [intOf]; omega) | (simp [intOf]; omega)⟩
            | false =>
              have HE1 : Hid ((q : Int) < gw → ∀ W, Bs w2.heap.size w2 (nxtL gw S 0 (R.take j) ++ gotoL j 0 ++ rowL l ++ [27, 91, 75]) W → Bs w2.heap.size w2 (nxtL gw S 0 (R.take (j + 1))) W) := fun hc W hW => by
                rw [HT.out, nxtP, hk, if_neg (by simp), hq, if_pos hc]
                simpa only [List.append_assoc] using hW
              have HE2 : Hid (¬ (q : Int) < gw → ∀ W, Bs w2.heap.size w2 (nxtL gw S 0 (R.take j) ++ gotoL j 0 ++ rowL l) W → Bs w2.heap.size w2 (nxtL gw S 0 (R.take (j + 1))) W) := fun hc W hW => by
                rw [HT.out, nxtP, hk, if_neg (by simp), hq, if_neg hc, List.append_nil]
                simpa only [List.append_assoc] using hW
              by_cases hj2 : j < sn
              · have hj3 : (j : Int) < (sn : Int) := by omega
                obtain ⟨mm, hmm⟩ : ∃ mm, S[j]? = some mm := ⟨S[j]'(by rw [HN.out.1.2]; exact hj2), List.getElem?_eq_getElem _⟩
                obtain ⟨g2, o2, b2, m2, rfl, hcell2, hrd2⟩ := HS.out j mm hmm
                have y1 := hcell2 wr HB.out.bel
                have hk2 : rowE l mm = false := by rw [← kepP_at hmm]; exact hk
                have hmn := HN.out.2.2.2.2.2 mm (List.mem_of_getElem? hmm)
                obtain ⟨q2, hq2⟩ : ∃ q, mm.length = q := ⟨_, rfl⟩
                rw [hq2] at y1 hrd2
                have CE : Hid (Calls Tryd.prog 32 #[.slice b q m, .slice b2 q2 m2] wr fun e w' => e = .returned (.bool false) ∧ Hid (Below wr.heap.size wr w')) := by
                  have := seqf_any l mm hln hmn wr (hrd.below (Nat.le_refl _) HB.out.bel) (hrd2.below (Nat.le_refl _) HB.out.bel)
                  rw [hk2] at this
                  exact this
                clear hcell hrd hmem hq hl hlt HT hcell2 hrd2 hk hk2 hmm hq2 HS HR hj2 hgz hoz hrz hln hmn
                by_cases hc : (q : Int) < gw
                · go_wp2_with (first
                    | (go_at_call 32; refine CE.out.mono ?_; clear CE z0 z1 z2 z3; rintro e w3 ⟨rfl, HB3⟩)
                    | (go_at_call 31; refine (CB.out _ HB3.out).mono ?_; clear CB; rintro e w4 ⟨⟨u, rfl⟩, HB4⟩)
                    | (go_at_call 22; refine (CWr.out _ HB4.out).mono ?_; clear CWr; rintro e w5 ⟨⟨u2, rfl⟩, HB5⟩; have x0 := HV4.out _ _ HB5.out)
                    | (go_at_call 30; refine (CK.out _ HB5.out).mono ?_; clear CK x0; rintro e w6 ⟨⟨u3, rfl⟩, HB6⟩))
                  have HH := HE1.out hc _ HB6.out
                  exact ⟨⟨j + 1, by have := HLT.out; omega, by first | rw [w64t (by have := HLT.out; omega)] | (simp; done), HH⟩, by have := HLT.out; first | (rw [w64t (by omega)]; simp [intOf]; omega) | (simp [intOf]; omega)⟩
                · have hc2 : decide ((q : Int) < gw) = false := decide_eq_false hc
                  clear CK
                  go_wp2_with (first
                    | (go_at_call 32; refine CE.out.mono ?_; clear CE z0 z1 z2 z3; rintro e w3 ⟨rfl, HB3⟩)
                    | (go_at_call 31; refine (CB.out _ HB3.out).mono ?_; clear CB; rintro e w4 ⟨⟨u, rfl⟩, HB4⟩)
                    | (go_at_call 22; refine (CWr.out _ HB4.out).mono ?_; clear CWr; rintro e w5 ⟨⟨u2, rfl⟩, HB5⟩; have x0 := HV4.out _ _ HB5.out))
                  have HH := HE2.out hc _ HB5.out
                  exact ⟨⟨j + 1, by have := HLT.out; omega, by first | rw [w64t (by have := HLT.out; omega)] | (simp; done), HH⟩, by have := HLT.out; first | (rw [w64t (by omega)]; simp [intOf]; omega) | (simp [intOf]; omega)⟩
              · have hj3 : ¬ (j : Int) < (sn : Int) := by omega
                have hj4 : decide (j < sn) = false := decide_eq_false hj2
                have HB3 : Hid (Below wr.heap.size wr wr) := Below.refl _ wr
                clear hcell hrd hmem hq hl hlt HT hk HS HR hgz hoz hrz hln
                by_cases hc : (q : Int) < gw
                · go_wp2_with (first
                    | (go_at_call 31; refine (CB.out _ HB3.out).mono ?_; clear CB z0 z1 z2 z3; rintro e w4 ⟨⟨u, rfl⟩, HB4⟩)
                    | (go_at_call 22; refine (CWr.out _ HB4.out).mono ?_; clear CWr; rintro e w5 ⟨⟨u2, rfl⟩, HB5⟩; have x0 := HV4.out _ _ HB5.out)
                    | (go_at_call 30; refine (CK.out _ HB5.out).mono ?_; clear CK x0; rintro e w6 ⟨⟨u3, rfl⟩, HB6⟩))
                  have HH := HE1.out hc _ HB6.out
                  exact ⟨⟨j + 1, by have := HLT.out; omega, by first | rw [w64t (by have := HLT.out; omega)] | (simp; done), HH⟩, by have := HLT.out; first | (rw [w64t (by omega)]; simp [intOf]; omega) | (simp [intOf]; omega)⟩
                · have hc2 : decide ((q : Int) < gw) = false := decide_eq_false hc
                  clear CK
                  go_wp2_with (first
                    | (go_at_call 31; refine (CB.out _ HB3.out).mono ?_; clear CB z0 z1 z2 z3; rintro e w4 ⟨⟨u, rfl⟩, HB4⟩)
                    | (go_at_call 22; refine (CWr.out _ HB4.out).mono ?_; clear CWr; rintro e w5 ⟨⟨u2, rfl⟩, HB5⟩; have x0 := HV4.out _ _ HB5.out))
                  have HH := HE2.out hc _ HB5.out
                  exact ⟨⟨j + 1, by have := HLT.out; omega, by first | rw [w64t (by have := HLT.out; omega)] | (simp; done), HH⟩, by have := HLT.out; first | (rw [w64t (by omega)]; simp [intOf]; omega) | (simp [intOf]; omega)⟩
          · obtain rfl : j = n := by omega
            have hf : R.take j = R := List.take_of_length_le (by have := HN.out.1; omega)
            have hd : ¬ (j : Int) < (j : Int) := by omega
            rw [hf] at HB
            have hz := HN.out.2.2.2.1 j
            rw [hf] at hz
            have hg1 := gotoL_len j 0
            obtain ⟨tl, htl⟩ : ∃ tl, (if R.length < S.length then gotoL R.length 0 ++ [27, 91, 74] else []) = tl := ⟨_, rfl⟩
            have CG : Hid (∀ W, Below w2.heap.size w2 W → Calls Tryd.prog 12 #[.agg #[.int .i64 fr, .int .i64 fc]] W fun e w' => e = .returned (.string ⟨(gotoL fr fc).toArray⟩) ∧ Hid (Below W.heap.size W w')) := fun W hW => goto_any fr fc W (HPW.out.below hW)
            have htz : tl.length ≤ 49 := by
              rw [← htl]
              have := gotoL_len R.length 0
              split
              · rw [List.length_append]; simp only [List.length_cons, List.length_nil]; omega
              · simp
            have CP : Hid (∀ W, Bs w2.heap.size w2 (nxtL gw S 0 R ++ tl) W → Calls Tryd.prog 30 #[.pointer (some ⟨w2.heap.size, 0, none⟩), .string ⟨(gotoL fr fc).toArray⟩] W fun e W' => (∃ u, e = .returned u) ∧ Hid (Bs w2.heap.size w2 (nxtL gw S 0 R ++ tl ++ gotoL fr fc) W')) := fun W hW => by
              have := hW.put ⟨(gotoL fr fc).toArray⟩ (by have := gotoL_len fr fc; rw [List.length_append]; show _ + (gotoL fr fc).toArray.size ≤ _; simp only [List.size_toArray]; omega)
              simpa using this
            have CB : Hid (∀ W, Bs w2.heap.size w2 (nxtL gw S 0 R) W → Calls Tryd.prog 31 #[.pointer (some ⟨w2.heap.size, 0, none⟩), .int .i64 j] W fun e W' => (∃ u, e = .returned u) ∧ Hid (Bs w2.heap.size w2 (nxtL gw S 0 R ++ gotoL j 0) W')) := fun W hW => begin_any j (by omega) W HPW.out hW
            have CK : Hid (∀ W, Bs w2.heap.size w2 (nxtL gw S 0 R ++ gotoL j 0) W → Calls Tryd.prog 30 #[.pointer (some ⟨w2.heap.size, 0, none⟩), .string ⟨#[27, 91, 74]⟩] W fun e W' => (∃ u, e = .returned u) ∧ Hid (Bs w2.heap.size w2 (nxtL gw S 0 R ++ gotoL j 0 ++ [27, 91, 74]) W')) := fun W hW => hW.put ⟨#[27, 91, 74]⟩ (by rw [List.length_append]; show _ + 3 ≤ _; omega)
            obtain ⟨⟨z0, z1, z2, z3⟩, -⟩ := box4 (HV.out _ HB.out.bel).2.1
            obtain ⟨⟨x0, x1, x2, x3⟩, -⟩ := box4 (HV.out _ HB.out.bel).2.2
            have HO2 : Hid (out = nxtL gw S 0 R ++ tl ++ gotoL fr fc) := by rw [← htl]; exact HO.out
            have hRn := HN.out.1.1
            have hSn := HN.out.1.2
            clear hz hf HS HR
            by_cases hl : j < sn
            · have hl2 : (j : Int) < (sn : Int) := by omega
              have hl3 : (sn : Int) > (j : Int) := by omega
              have HE : Hid (∀ W, Bs w2.heap.size w2 (nxtL gw S 0 R ++ gotoL j 0 ++ [27, 91, 74]) W → Bs w2.heap.size w2 (nxtL gw S 0 R ++ tl) W) := fun W hW => by
                rw [← htl, if_pos (by omega), hRn]
                simpa only [List.append_assoc] using hW
              clear hRn hSn hg1 htz htl HO
              go_wp2_with (first
                | (go_at_call 31; refine (CB.out _ HB.out).mono ?_; clear CB z0 z1 z2 z3 x0 x1 x2 x3; rintro e w4 ⟨⟨u, rfl⟩, HB4⟩)
                | (go_at_call 30; refine (CK.out _ HB4.out).mono ?_; clear CK; rintro e w5 ⟨⟨u2, rfl⟩, HB5⟩; have HB6 : Hid _ := HE.out _ HB5.out; obtain ⟨⟨x0, x1, x2, x3⟩, -⟩ := box4 (HV.out _ HB5.out.bel).2.2)
                | (go_at_call 12; refine (CG.out _ HB5.out.bel).mono ?_; clear CG x0 x1 x2 x3; rintro e w7 ⟨rfl, HB7⟩)
                | (go_at_call 30; refine (CP.out _ (Bs.next HB6.out HB7.out)).mono ?_; clear CP; rintro e w8 ⟨⟨u3, rfl⟩, HB8⟩)
                | (go_at_call 23; refine HB8.out.str.mono ?_; rintro e w9 ⟨rfl, HB9⟩))
              go_ret
              rw [HO2.out]
              exact ⟨by first | rfl | simp, (HV.out _ HB9).1⟩
            · have hl2 : ¬ (j : Int) < (sn : Int) := by omega
              have hl3 : ¬ (sn : Int) > (j : Int) := by omega
              have HB6 : Hid (Bs w2.heap.size w2 (nxtL gw S 0 R ++ tl) wr) := by
                rw [← htl, if_neg (by omega), List.append_nil]
                exact HB.out
              clear hRn hSn hg1 htz CB CK htl HO
              go_wp2_with (first
                | (go_at_call 12; refine (CG.out _ HB.out.bel).mono ?_; clear CG z0 z1 z2 z3 x0 x1 x2 x3; rintro e w7 ⟨rfl, HB7⟩)
                | (go_at_call 30; refine (CP.out _ (Bs.next HB6.out HB7.out)).mono ?_; clear CP; rintro e w8 ⟨⟨u3, rfl⟩, HB8⟩)
                | (go_at_call 23; refine HB8.out.str.mono ?_; rintro e w9 ⟨rfl, HB9⟩))
              go_ret
              rw [HO2.out]
              exact ⟨by first | rfl | simp, (HV.out _ HB9).1⟩
  · rw [decide_eq_false he, Bool.false_and] at hyes hno
    obtain rfl := hno rfl
    clear hyes hno HRS HP HN CFF CFG
    go_enter Tryd.func17, Tryd.ntmps17
    go_wp2_with (go_at_call 15; refine (CFU.out _ H0.out.1).mono ?_; clear CFU; rintro e w1 ⟨rfl, HB1⟩)
    go_ret
    exact ⟨rfl, (Bx2.next H0.out HB1.out).1⟩
end Go.Proofs.YtcgnfjcbafmbgaaDoor
