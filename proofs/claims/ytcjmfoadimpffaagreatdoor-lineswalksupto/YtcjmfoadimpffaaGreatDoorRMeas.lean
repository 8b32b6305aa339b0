/-
  Package rope's measured and Measure. Conditions: the two tables of unicode/utf8 lie as their text lays them; the text holds at most 1099511627776 bytes.
-/
import Derived.Test.YtcjmfoadimpffaaGreatDoorRRep
namespace Go.Proofs.YtcjmfoadimpffaaGreatDoor
open Go.RowKit Go.Shelf Bod Wid

theorem slc_range {s : ByteArray} {i j : Nat} (h : i ≤ j) (k : j ≤ s.size) : rangeOf s i j = s.extract i j := by
  unfold rangeOf
  rw [if_neg (by omega)]
  congr 1 <;> omega
/-- the box of the answer lies as it was laid -/
def Bx7 (w W : World) : Prop := W.heap[w.heap.size]? = some (.cells (scs sm0) 96 (0, 0)) ∧ Below w.heap.size w W
theorem Bx7.below {w W X : World} (h : Bx7 w W) (hb : Below W.heap.size W X) : Bx7 w X := ⟨(hb.block _ (Array.getElem?_eq_some_iff.1 h.1).1).trans h.1, Below.on h.2 hb⟩
set_option maxRecDepth 100000 in
set_option maxHeartbeats 1000000 in
theorem measured_any : ∀ (k : Nat) {t : Tr} {w : World} {v : Value} {f g : Int}, t.lv.length ≤ k → At w t v → t.text.size ≤ B40 → Ev w →
    (-35184372088832 ≤ f ∧ f ≤ 35184372088832) → (-35184372088832 ≤ g ∧ g ≤ 35184372088832) →
    Calls Tryz.prog 201 #[v, .int .i64 f, .int .i64 g] w fun e W' => e = .returned (sv (smr (slc t.text f g))) ∧ Below w.heap.size w W'
  | 0, t, _, _, _, _, hk, _, _, _, _, _ => by have := lv_pos t; omega
  | k + 1, t, w, v, f, g, hk, h, hs, hE, hf, hg => by
    unfold B40 at hs
    obtain ⟨W0, hW0⟩ : ∃ W0, w.alloc (.cells #[.int .i64 0, .int .i64 0, .int .i64 0, .int .i64 0, .int .i64 0, .string ⟨#[]⟩, .string ⟨#[]⟩] 96) = W0 := ⟨_, rfl⟩
    have b0 : Bx7 w W0 := by rw [← hW0]; exact ⟨World.alloc_heap_new w _, (Below.refl _ w).alloc (Nat.le_refl _) _⟩
    obtain ⟨T, a, fS, fP, fT, pv, rfl, ⟨m1, m2⟩, ⟨m3, m4⟩, ⟨m5, m6⟩, S1, P1, X1, hpv⟩ := h.nd
    obtain ⟨n, hn⟩ : ∃ n, t.text.size = n := ⟨_, rfl⟩
    obtain ⟨m, hm⟩ : ∃ m, smr t.text = m := ⟨_, rfl⟩
    have hby : m.by' = (n : Int) := by rw [← hm, ← hn]; rfl
    obtain ⟨m0, u1, u2, u3, u4, u5, u6⟩ := m
    have hby : m0 = (n : Int) := hby
    subst hby
    rw [hm] at S1
    obtain ⟨f', hf'⟩ : ∃ f' : Int, max f 0 = f' := ⟨_, rfl⟩
    obtain ⟨g', hg'⟩ : ∃ g' : Int, min g (n : Int) = g' := ⟨_, rfl⟩
    have S2 : Hid (Calls Tryz.prog fS #[.pointer (some a)] W0 fun e W' => e = .returned (sv ⟨n, u1, u2, u3, u4, u5, u6⟩) ∧ Hid (Bx7 w (W'.alloc (.cells #[.int .i64 n, .int .i64 u1, .int .i64 u2, .int .i64 u3, .int .i64 u4, .string u5, .string u6] 96)).drew)) := (S1.out W0 b0.2).mono fun e W' ⟨h1, h2⟩ => ⟨h1, (b0.below h2).below ((Below.refl _ W').alloc (Nat.le_refl _) _).drew⟩
    have P2 : Hid (∀ W, Hid (Bx7 w W) → Calls Tryz.prog fP #[.pointer (some a)] W fun e W' => e = .returned pv ∧ Hid (Bx7 w W')) := fun W hW => (P1.out W hW.out.2).mono fun e W' ⟨h1, h2⟩ => ⟨h1, hW.out.below h2⟩
    by_cases c : g' ≤ f'
    · have e0 : slc t.text f g = noB := slc_nil (by omega)
      rw [e0]
      have M1 : Hid (∀ W, Hid (Bx7 w W) → Calls Tryz.prog 120 #[.string ⟨#[]⟩] W fun e W' => e = .returned (sv (smr noB)) ∧ Hid (Bx7 w W')) := fun W hW => (measure_any noB (by rw [noB_size]; omega) W (hE.below hW.out.2).t (hE.below hW.out.2).l0 (hE.below hW.out.2).l1).mono fun e W' ⟨h1, h2⟩ => ⟨h1, hW.out.below h2⟩
      generalize smr noB = M at M1 ⊢
      clear h hs hE S1 P1 X1 hpv hn hm e0 P2 hk b0
      go_enter Tryz.func201, Tryz.ntmps201
      go_wp2_with (go_at_fn fS; refine S2.out.mono ?_; clear S2 hW0; rintro e w1 ⟨rfl, h1⟩)
      go_region
      go_wp2_with (go_at_call 120; refine (M1.out _ h1).mono ?_; clear M1 h1; rintro e w2 ⟨rfl, h⟩; obtain ⟨⟨z0, z1, z2, z3, z4, z5, z6⟩, f0, f1, f2, f3, f4, f5, f6⟩ := box7 h.out.1; have hl : w.heap.size < w2.heap.size := (Array.getElem?_eq_some_iff.1 h.out.1).1)
      exact bodyPost_ret (v := sv M) (by simp [results, Tryz.results201, go_sem, z0, z1, z2, z3, z4, z5, z6]) rfl ⟨rfl, set7_below h.out.2 _ _ _ _ _ _ _⟩
    · by_cases c2 : g' - f' = (n : Int)
      · have e0 : slc t.text f g = t.text := by
          unfold slc
          rw [hf', hn, hg', show f'.toNat = 0 by omega, show g'.toNat = t.text.size by omega, ext_all]
        rw [e0, hm]
        have S2 : Hid (Calls Tryz.prog fS #[.pointer (some a)] W0 fun e W' => e = .returned (sv ⟨n, u1, u2, u3, u4, u5, u6⟩) ∧ Hid (Bx7 w W')) := (S1.out W0 b0.2).mono fun e W' ⟨h1, h2⟩ => ⟨h1, b0.below h2⟩
        have c3 : f' < g' := by omega
        have b3 : 0 ≤ f' ∧ f' ≤ 35184372088832 := by omega
        have b4 : g' ≤ 35184372088832 := by omega
        clear h hs hE S1 P1 X1 hpv hn hm e0 P2 hk b0
        go_enter Tryz.func201, Tryz.ntmps201
        go_wp2_with (go_at_fn fS; refine S2.out.mono ?_; clear S2 hW0; rintro e w1 ⟨rfl, h1⟩; obtain ⟨⟨z0, z1, z2, z3, z4, z5, z6⟩, f0, f1, f2, f3, f4, f5, f6⟩ := box7 h1.out.1; have hl : w.heap.size < w1.heap.size := (Array.getElem?_eq_some_iff.1 h1.out.1).1)
        go_region
        go_wp2
        have hB := set7_below h1.out.2 (.int .i64 n) (.int .i64 u1) (.int .i64 u2) (.int .i64 u3) (.int .i64 u4) (.string u5) (.string u6)
        have hX := set7_box h1.out.1 (.int .i64 n) (.int .i64 u1) (.int .i64 u2) (.int .i64 u3) (.int .i64 u4) (.string u5) (.string u6)
        have hB2 := (hB.alloc hB.size (.cells #[.int .i64 n, .int .i64 u1, .int .i64 u2, .int .i64 u3, .int .i64 u4, .string u5, .string u6] 96)).drew
        have hY := (((Below.refl _ _).alloc (Nat.le_refl _) (.cells #[.int .i64 n, .int .i64 u1, .int .i64 u2, .int .i64 u3, .int .i64 u4, .string u5, .string u6] 96)).drew.block _ (Array.getElem?_eq_some_iff.1 hX).1).trans hX
        clear hB hX z0 z1 z2 z3 z4 z5 z6 f0 f1 f2 f3 f4 f5 f6
        generalize World.drew _ = V at hB2 hY ⊢
        obtain ⟨⟨z0, z1, z2, z3, z4, z5, z6⟩, -⟩ := box7 hY
        exact bodyPost_ret (v := sv ⟨n, u1, u2, u3, u4, u5, u6⟩) (by simp [results, Tryz.results201, go_sem, z0, z1, z2, z3, z4, z5, z6]) rfl ⟨rfl, hB2⟩
      · have c3 : ¬ g' ≤ f' := c
        have b3 : 0 ≤ f' ∧ f' ≤ 35184372088832 := by omega
        have b4 : g' ≤ 35184372088832 := by omega
        match t, hk, h, hs, hn, hm, hpv, X1 with
        | .leaf s, hk, h, hs, hn, hm, hpv, X1 =>
          have hpv : pv = _ := hpv
          subst hpv
          have hn : s.size = n := hn
          obtain ⟨i, hi1⟩ : ∃ i : Nat, f'.toNat = i := ⟨_, rfl⟩
          obtain ⟨j, hj1⟩ : ∃ j : Nat, g'.toNat = j := ⟨_, rfl⟩
          have e1 : f' = (i : Int) := by omega
          have e2 : g' = (j : Int) := by omega
          subst e1
          subst e2
          have e0 : slc s f g = rangeOf s i j := by unfold slc; rw [hf', hn, hg', slc_range (by omega) (by omega)]; rfl
          have X2 : Hid (∀ W, Hid (Bx7 w W) → Calls Tryz.prog fT #[.pointer (some a)] W fun e W' => e = .returned (.string s) ∧ Hid (Bx7 w W')) := fun W hW => (X1.out W hW.out.2).mono fun e W' ⟨h1, h2⟩ => ⟨h1, hW.out.below h2⟩
          have hs' : s.size ≤ 1099511627776 := hs
          have M1 : Hid (∀ W, Hid (Bx7 w W) → Calls Tryz.prog 202 #[.string s, .int .i64 i, .int .i64 j] W fun e W' => e = .returned (sv (smr (slc s f g))) ∧ Hid (Bx7 w W')) := fun W hW => by
            rw [e0]
            exact (mrange_any s i j (by omega) (by omega) (by omega) W (hE.below hW.out.2).t (hE.below hW.out.2).l0 (hE.below hW.out.2).l1).mono fun e W' ⟨h1, h2⟩ => ⟨h1, hW.out.below h2⟩
          show Calls _ _ _ _ fun e W' => e = .returned (sv (smr (slc s f g))) ∧ Below w.heap.size w W'
          generalize smr (slc s f g) = M at M1 ⊢
          clear h hs hs' hE S1 P1 X1 hm e0 hi1 hj1 hk b0 hn
          go_enter Tryz.func201, Tryz.ntmps201
          go_wp2_with (go_at_fn fS; refine S2.out.mono ?_; clear S2 hW0; rintro e w1 ⟨rfl, h1⟩)
          go_region
          go_wp2_with (first | (go_at_fn fP; refine (P2.out _ h1).mono ?_; clear P2 h1; rintro e w2 ⟨rfl, h1⟩) | (go_at_fn fT; refine (X2.out _ h1).mono ?_; clear X2 h1; rintro e w3 ⟨rfl, h1⟩) | (go_at_call 202; refine (M1.out _ h1).mono ?_; clear M1 h1; rintro e w4 ⟨rfl, h⟩; obtain ⟨⟨z0, z1, z2, z3, z4, z5, z6⟩, f0, f1, f2, f3, f4, f5, f6⟩ := box7 h.out.1; have hl : w.heap.size < w4.heap.size := (Array.getElem?_eq_some_iff.1 h.out.1).1))
          exact bodyPost_ret (v := sv M) (by simp [results, Tryz.results201, go_sem, z0, z1, z2, z3, z4, z5, z6]) rfl ⟨rfl, set7_below h.out.2 _ _ _ _ _ _ _⟩
        | .knot l r, hk, h, hs, hn, hm, hpv, X1 =>
          have hkl : l.lv.length + r.lv.length ≤ k + 1 := by rw [← List.length_append]; exact hk
          have hk1 := lv_pos l
          have hk2 := lv_pos r
          obtain ⟨x1, x2, rfl, a1, a2⟩ := hpv
          have hn : (l.text ++ r.text).size = n := hn
          have hs' : (l.text ++ r.text).size ≤ 1099511627776 := hs
          rw [size_app] at hn hs'
          obtain ⟨U, d, gS, gP, gT, _, rfl, ⟨m7, m8⟩, -, -, S3, -, -, -⟩ := a1.nd
          obtain ⟨nl, hnl⟩ : ∃ n, l.text.size = n := ⟨_, rfl⟩
          obtain ⟨ml, hml⟩ : ∃ m, smr l.text = m := ⟨_, rfl⟩
          have y2 := fby (m := ml) (n := nl) (by rw [← hml, ← hnl]; rfl)
          have S4 : Hid (∀ W, Hid (Bx7 w W) → Calls Tryz.prog gS #[.pointer (some d)] W fun e W' => e = .returned (sv ml) ∧ Hid (Bx7 w W')) := fun W hW => (S3.out W hW.out.2).mono fun e W' ⟨h1, h2⟩ => ⟨by rw [h1, hml], hW.out.below h2⟩
          obtain ⟨sl, hsl⟩ : ∃ x, slc l.text f' g' = x := ⟨_, rfl⟩
          obtain ⟨sr, hsr⟩ : ∃ x, slc r.text (f' - nl) (g' - nl) = x := ⟨_, rfl⟩
          have e0 : slc (Tr.knot l r).text f g = sl ++ sr := by
            have : slc (Tr.knot l r).text f g = slc (l.text ++ r.text) f' g' := by
              show slc (l.text ++ r.text) f g = _
              unfold slc
              rw [size_app, hn, hf', hg']
              congr 1 <;> omega
            rw [this, slc_app _ _ _ _ (by omega) (by omega), hnl, hsl, hsr]
          have zl : sl.size ≤ l.text.size := by rw [← hsl]; unfold slc; rw [size_extract _ _ _ (by omega)]; omega
          have zr : sr.size ≤ r.text.size := by rw [← hsr]; unfold slc; rw [size_extract _ _ _ (by omega)]; omega
          obtain ⟨ma, hma⟩ : ∃ m, smr sl = m := ⟨_, rfl⟩
          obtain ⟨mb, hmb⟩ : ∃ m, smr sr = m := ⟨_, rfl⟩
          have K1 : Hid (∀ W, Hid (Bx7 w W) → Calls Tryz.prog 201 #[.iface U (.pointer (some d)), .int .i64 f', .int .i64 g'] W fun e W' => e = .returned (sv ma) ∧ Hid (Bx7 w W')) := fun W hW =>
            (measured_any k (by omega) (a1.below hW.out.2) (by unfold B40; omega) (hE.below hW.out.2) (by omega) (by omega)).mono fun e W' ⟨h1, h2⟩ => ⟨by rw [h1, hsl, hma], hW.out.below h2⟩
          have K2 : Hid (∀ W, Hid (Bx7 w W) → Calls Tryz.prog 201 #[x2, .int .i64 (f' - nl), .int .i64 (g' - nl)] W fun e W' => e = .returned (sv mb) ∧ Hid (Bx7 w W')) := fun W hW =>
            (measured_any k (by omega) (a2.below hW.out.2) (by unfold B40; omega) (hE.below hW.out.2) (by omega) (by omega)).mono fun e W' ⟨h1, h2⟩ => ⟨by rw [h1, hsr, hmb], hW.out.below h2⟩
          have J1 : Hid (∀ W, Hid (Bx7 w W) → Calls Tryz.prog 155 #[.slice (some ⟨W.heap.size, 0, none⟩) 2 2] (W.alloc (.cells (scs2 ma mb) 96)) fun e W' => e = .returned (sv (smr (sl ++ sr))) ∧ Hid (Bx7 w W')) := fun W hW => by
            have hb := hW.out.below ((Below.refl _ W).alloc (Nat.le_refl _) (.cells (scs2 ma mb) 96))
            rw [← hma, ← hmb] at hb ⊢
            have := mjoin_any [sl, sr] _ _ (two_sums W sl sr) (by rw [cat_two, size_app]; omega) (by simp) (hE.below hb.2).t (hE.below hb.2).l0 (hE.below hb.2).l1
            rw [cat_two] at this
            exact this.mono fun e W' ⟨h1, h2⟩ => ⟨h1, hb.below h2⟩
          have b1 : nl ≤ 1099511627776 := by omega
          show Calls _ _ _ _ fun e W' => e = .returned (sv (smr (slc (Tr.knot l r).text f g))) ∧ Below w.heap.size w W'
          rw [e0]
          generalize smr (sl ++ sr) = M at J1 ⊢
          clear h hs hE S1 P1 X1 hm e0 hs' S3 zl zr a1 a2 hml hnl hkl hk1 hk2 hk b0 hn hsl hsr hma hmb
          go_enter Tryz.func201, Tryz.ntmps201
          go_wp2_with (go_at_fn fS; refine S2.out.mono ?_; clear S2 hW0; rintro e w1 ⟨rfl, h1⟩)
          go_region
          go_wp2_with (first | (go_at_fn fP; refine (P2.out _ h1).mono ?_; clear P2 h1; rintro e w2 ⟨rfl, h1⟩) | (go_at_fn gS; refine (S4.out _ h1).mono ?_; clear S4 h1; rintro e w3 ⟨rfl, h1⟩) | (go_at_call 201; refine (K1.out _ h1).mono ?_; clear K1 h1; rintro e w4 ⟨rfl, h1⟩) | (go_at_call 201; refine (K2.out _ h1).mono ?_; clear K2 h1; rintro e w5 ⟨rfl, h1⟩) | (go_at_call 155; refine (J1.out _ h1).mono ?_; clear J1 h1; rintro e w6 ⟨rfl, h⟩; obtain ⟨⟨z0, z1, z2, z3, z4, z5, z6⟩, f0, f1, f2, f3, f4, f5, f6⟩ := box7 h.out.1; have hl : w.heap.size < w6.heap.size := (Array.getElem?_eq_some_iff.1 h.out.1).1))
          exact bodyPost_ret (v := sv M) (by simp [results, Tryz.results201, go_sem, z0, z1, z2, z3, z4, z5, z6]) rfl ⟨rfl, set7_below h.out.2 _ _ _ _ _ _ _⟩
/-- the summary that Measure answers, and its error -/
def msR (s : ByteArray) (f g : Int) : Sum × Int := if wthn s.size f g then (smr (s.extract f.toNat g.toNat), 0) else (sm0, 1)
set_option maxRecDepth 100000 in
set_option maxHeartbeats 1000000 in
theorem rmeas_any {w : World} {t : Tr} {v : Value} (h : Rp w t v) (hs : t.text.size ≤ B40) (f g : Int) (hE : Ev w) : Calls Tryz.prog 197 #[v, .int .i64 f, .int .i64 g] w fun e W' => e = .returned (.tuple #[sv (msR t.text f g).1, .int .i64 (msR t.text f g).2]) ∧ Below w.heap.size w W' := by
  obtain ⟨W0, hW0⟩ : ∃ W0, w.alloc (.cells #[.int .i64 0, .int .i64 0, .int .i64 0, .int .i64 0, .int .i64 0, .string ⟨#[]⟩, .string ⟨#[]⟩] 96) = W0 := ⟨_, rfl⟩
  have b0 : Bx7 w W0 := by rw [← hW0]; exact ⟨World.alloc_heap_new w _, (Below.refl _ w).alloc (Nat.le_refl _) _⟩
  have K1 : Hid (Calls Tryz.prog 44 #[v] W0 fun e W' => ∃ v, e = .returned v ∧ Hid (At W' t v ∧ Bx7 w W')) := (rtree_any (h.below b0.2)).mono fun e W' ⟨v, h1, h2, h3⟩ => ⟨v, h1, h2, b0.below h3⟩
  have K2 : Hid (∀ W v, Hid (At W t v ∧ Bx7 w W) → Calls Tryz.prog 200 #[v, .int .i64 f, .int .i64 g] W fun e W' => e = .returned (.bool (wthn t.text.size f g)) ∧ Hid (At W' t v ∧ Bx7 w W')) := fun W v ⟨h1, hW⟩ => (rwithin_any h1 f g).mono fun e W' ⟨k1, k2⟩ => ⟨k1, h1.below k2, hW.below k2⟩
  unfold msR
  cases hw : wthn t.text.size f g with
  | false =>
    rw [hw] at K2
    simp only [Bool.false_eq_true, if_false]
    clear h hs hw hE b0
    go_enter Tryz.func197, Tryz.ntmps197
    go_wp2_with (first | (go_at_call 44; refine K1.out.mono ?_; clear K1 hW0; rintro e w1 ⟨v1, rfl, h1⟩) | (go_at_call 200; refine (K2.out _ _ h1).mono ?_; clear K2 h1; rintro e w2 ⟨rfl, h1⟩; obtain ⟨⟨z0, z1, z2, z3, z4, z5, z6⟩, f0, f1, f2, f3, f4, f5, f6⟩ := box7 h1.out.2.1; have hl : w.heap.size < w2.heap.size := (Array.getElem?_eq_some_iff.1 h1.out.2.1).1))
    exact bodyPost_ret (v := .tuple #[sv sm0, .int .i64 1]) (by simp [results, Tryz.results197, go_sem, z0, z1, z2, z3, z4, z5, z6, sm0]) rfl ⟨rfl, set7_below h1.out.2.2 _ _ _ _ _ _ _⟩
  | true =>
    rw [hw] at K2
    simp only [if_true]
    have hw' := hw
    simp [wthn] at hw'
    obtain ⟨⟨c1, c2⟩, c3⟩ := hw'
    unfold B40 at hs
    obtain ⟨i, hi⟩ : ∃ i : Nat, f.toNat = i := ⟨_, rfl⟩
    obtain ⟨j, hj⟩ : ∃ j : Nat, g.toNat = j := ⟨_, rfl⟩
    have e1 : f = (i : Int) := by omega
    have e2 : g = (j : Int) := by omega
    rw [hi, hj]
    subst e1
    subst e2
    have K3 : Hid (∀ W v, Hid (At W t v ∧ Bx7 w W) → Calls Tryz.prog 201 #[v, .int .i64 i, .int .i64 j] W fun e W' => e = .returned (sv (smr (t.text.extract i j))) ∧ Hid (Bx7 w W')) := fun W v ⟨h1, hW⟩ => (measured_any _ (Nat.le_refl _) h1 (by unfold B40; omega) (hE.below hW.2) (by omega) (by omega)).mono fun e W' ⟨k1, k2⟩ => ⟨by rw [k1, slc_in (by omega)], hW.below k2⟩
    generalize smr (t.text.extract i j) = M at K3 ⊢
    clear h hs hw hE b0 hi hj c1 c2 c3
    go_enter Tryz.func197, Tryz.ntmps197
    go_wp2_with (first | (go_at_call 44; refine K1.out.mono ?_; clear K1 hW0; rintro e w1 ⟨v1, rfl, h1⟩) | (go_at_call 200; refine (K2.out _ _ h1).mono ?_; clear K2 h1; rintro e w2 ⟨rfl, h1⟩) | (go_at_call 201; refine (K3.out _ _ h1).mono ?_; clear K3 h1; rintro e w3 ⟨rfl, h1⟩; obtain ⟨⟨z0, z1, z2, z3, z4, z5, z6⟩, f0, f1, f2, f3, f4, f5, f6⟩ := box7 h1.out.1; have hl : w.heap.size < w3.heap.size := (Array.getElem?_eq_some_iff.1 h1.out.1).1))
    exact bodyPost_ret (v := .tuple #[sv M, .int .i64 0]) (by simp [results, Tryz.results197, go_sem, z0, z1, z2, z3, z4, z5, z6]) rfl ⟨rfl, set7_below h1.out.2 _ _ _ _ _ _ _⟩
end Go.Proofs.YtcjmfoadimpffaaGreatDoor
