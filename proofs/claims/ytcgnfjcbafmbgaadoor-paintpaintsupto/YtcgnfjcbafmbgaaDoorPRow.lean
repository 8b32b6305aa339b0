/-
  The document's own layer 21: row: the same rows fit. Conditions: no more than 2^31 in a text and in a row.
-/
import Derived.Test.YtcgnfjcbafmbgaaDoorPRef
namespace Go.Proofs.YtcgnfjcbafmbgaaDoor
open Go.RowKit Go.Shelf Bod Wid
set_option maxRecDepth 100000 in
set_option maxHeartbeats 4000000 in
theorem rrow_any (v : Value) (l : List Cel) (W0 : Int) (hn : l.length ≤ 2147483648) (hs : ∀ c ∈ l, c.tx.size ≤ 2147483648) (w : World) (h : RdCe w v l) :
    Calls Tryd.prog 26 #[v, .int .i64 W0] w fun e w' => e = .returned (.bool (fitR W0 l)) ∧ Below w.heap.size w w' := by
  have hfr := fitR_eq W0 l
  obtain ⟨a, k, rfl, hc⟩ := h.get
  obtain ⟨n, hln⟩ : ∃ n, l.length = n := ⟨_, rfl⟩
  have HL : Hid (l.length = n ∧ n ≤ 2147483648 ∧ ∀ c ∈ l, c.tx.size ≤ 2147483648) := ⟨hln, by omega, hs⟩
  have HC : Hid (∀ (j : Nat) c, l[j]? = some c → ∀ Y, Below w.heap.size w Y → ∃ g o, a = some ⟨g, o, none⟩ ∧ Y.cell? ⟨g, o + j * 2, none⟩ = some (.string c.tx) ∧ Y.cell? ⟨g, o + j * 2 + 1, none⟩ = some (.int .i64 c.sp)) := fun j c hj Y hY => by
    obtain ⟨g, o, e, c0, c1⟩ := hc j c hj
    exact ⟨g, o, e, (hY.cell (p := ⟨g, o + j * 2, none⟩) (World.block_lt_of_cell? w _ c0)).trans c0, (hY.cell (p := ⟨g, o + j * 2 + 1, none⟩) (World.block_lt_of_cell? w _ c1)).trans c1⟩
  rw [hln] at hfr ⊢
  clear hc h hn hs
  by_cases hW : (n : Int) ≤ W0
  · have hgt : ¬ ((n : Int) > W0) := by omega
    rw [decide_eq_true hW, Bool.true_and] at hfr
    have HFR : Hid (fitR W0 l = (okL false l && lastT l)) := hfr
    clear hfr
    go_enter Tryd.func26, Tryd.ntmps26
    go_wp2
    go_loopw [5] (fun t wr => ∃ i : Nat, i ≤ n ∧ t = .int .i64 i ∧ Hid (Below w.heap.size w wr ∧ okL (pvW l i) (l.drop i) = okL false l)) (fun t _ => n - (intOf t).toNat)
    case atStart => exact ⟨0, Nat.zero_le _, rfl, Below.refl _ w, rfl⟩
    case round =>
      obtain ⟨i, hi, rfl, HB⟩ := hrel
      by_cases hlt : i < n
      · obtain ⟨c, hcl⟩ : ∃ c, l[i]? = some c := ⟨l[i]'(by rw [HL.out.1]; exact hlt), List.getElem?_eq_getElem _⟩
        obtain ⟨g, o, rfl, x0, x1⟩ := HC.out i c hcl wr HB.out.1
        have hlt' : (i : Int) < (n : Int) := by omega
        have HLT : Hid (i < n ∧ n ≤ 2147483648) := ⟨hlt, HL.out.2.1⟩
        have hat := okL_at hcl
        have HFF : Hid (cellOk (pvW l i) c l[i + 1]? = false → fitR W0 l = false) := fun hx => by
          rw [HFR.out, ← HB.out.2, hat, hx]; rfl
        have HOK : Hid (cellOk (pvW l i) c l[i + 1]? = true → okL (pvW l (i + 1)) (l.drop (i + 1)) = okL false l) := fun hx => by
          rw [← HB.out.2, hat, hx, Bool.true_and]
        have hts := HL.out.2.2 c (List.mem_of_getElem? hcl)
        obtain ⟨t, z⟩ := c
        simp only at x0 x1 hts HFF HOK
        have HX : Hid (Below w.heap.size w (wr.alloc (.cells #[.string t, .int .i64 z] 40))) := HB.out.1.alloc HB.out.1.size _
        obtain ⟨kk, hkk⟩ : ∃ kk, tkN t = kk := ⟨_, rfl⟩
        have CT : Hid (∀ X, Below w.heap.size w X → Calls Tryd.prog 38 #[.string t] X fun e w' => e = .returned (.int .i64 (kk : Nat)) ∧ Hid (Below X.heap.size X w')) := fun X _ => by rw [← hkk]; exact takes_any t hts X
        have hk3 : kk = 0 ∨ kk = 1 ∨ kk = 2 := by
          rw [← hkk]; unfold tkN
          split
          · exact .inr (.inl rfl)
          · split
            · exact .inr (.inr rfl)
            · exact .inl rfl
        obtain ⟨tk1, tk2⟩ := tkN_B t
        rw [hkk] at tk1 tk2
        have HO : Hid (∀ j c, l[j]? = some c → ∀ Y, Below w.heap.size w Y → Y.cell? ⟨g, o + j * 2, none⟩ = some (.string c.tx) ∧ Y.cell? ⟨g, o + j * 2 + 1, none⟩ = some (.int .i64 c.sp)) := fun j c hj Y hY => by
          obtain ⟨g', o', e, c0, c1⟩ := HC.out j c hj Y hY
          injection e with e
          injection e with e1 e2
          subst e1 e2
          exact ⟨c0, c1⟩
        clear hat hkk hts HC hlt
        by_cases z1 : z = 1
        · subst z1
          rcases hk3 with rfl | rfl | rfl
          · have hb : isB t 0 = false := by cases e : isB t 0 with | false => rfl | true => exact absurd (tk1.2 e) (by decide)
            have hff : fitR W0 l = false := HFF.out (by simp [cellOk, hb])
            clear tk1 tk2 HFF HOK HFR HL
            try clear hb
            go_wp2_with (go_at_call 38; refine (CT.out _ HX.out).mono ?_; rintro e w2 ⟨rfl, HB2⟩; have HX2 : Hid (Below w.heap.size w w2) := HX.out.trans (HB2.out.mono HX.out.size); skip)
            go_ret
            rw [hff]
            exact ⟨rfl, HX2.out⟩
          · have hb : isB t 0 = true := tk1.1 rfl
            have hok := HOK.out (by simp [cellOk, hb])
            clear tk1 tk2 HFF HOK HFR HL
            try clear hb
            go_wp2_with (go_at_call 38; refine (CT.out _ HX.out).mono ?_; rintro e w2 ⟨rfl, HB2⟩; have HX2 : Hid (Below w.heap.size w w2) := HX.out.trans (HB2.out.mono HX.out.size); skip)
            have HH : Hid (Below w.heap.size w _ ∧ okL (pvW l (i + 1)) (l.drop (i + 1)) = okL false l) := ⟨HX2.out, hok⟩
            exact ⟨⟨i + 1, by have := HLT.out; omega, by first | rw [w64t (by have := HLT.out; omega)] | (simp; done), HH⟩, by have := HLT.out; first | (rw [w64t (by omega)]; simp [intOf]; omega) | (simp [intOf]; omega)⟩
          · have hb : isB t 0 = false := by cases e : isB t 0 with | false => rfl | true => exact absurd (tk1.2 e) (by decide)
            have hff : fitR W0 l = false := HFF.out (by simp [cellOk, hb])
            clear tk1 tk2 HFF HOK HFR HL
            try clear hb
            go_wp2_with (go_at_call 38; refine (CT.out _ HX.out).mono ?_; rintro e w2 ⟨rfl, HB2⟩; have HX2 : Hid (Below w.heap.size w w2) := HX.out.trans (HB2.out.mono HX.out.size); skip)
            go_ret
            rw [hff]
            exact ⟨rfl, HX2.out⟩
        · have e1 : (z == 1) = false := by simp [z1]
          by_cases z2 : z = 2
          · subst z2
            rcases hk3 with rfl | rfl | rfl
            · have hb : isB t 4 = false := by cases e : isB t 4 with | false => rfl | true => exact absurd (tk2.2 e) (by decide)
              have hff : fitR W0 l = false := HFF.out (by simp [cellOk, hb])
              clear tk1 tk2 HFF HOK HFR HL
              try clear hb
              go_wp2_with (go_at_call 38; refine (CT.out _ HX.out).mono ?_; rintro e w2 ⟨rfl, HB2⟩; have HX2 : Hid (Below w.heap.size w w2) := HX.out.trans (HB2.out.mono HX.out.size); skip)
              go_ret
              rw [hff]
              exact ⟨rfl, HX2.out⟩
            · have hb : isB t 4 = false := by cases e : isB t 4 with | false => rfl | true => exact absurd (tk2.2 e) (by decide)
              have hff : fitR W0 l = false := HFF.out (by simp [cellOk, hb])
              clear tk1 tk2 HFF HOK HFR HL
              try clear hb
              go_wp2_with (go_at_call 38; refine (CT.out _ HX.out).mono ?_; rintro e w2 ⟨rfl, HB2⟩; have HX2 : Hid (Below w.heap.size w w2) := HX.out.trans (HB2.out.mono HX.out.size); skip)
              go_ret
              rw [hff]
              exact ⟨rfl, HX2.out⟩
            · have hb : isB t 4 = true := tk2.1 rfl
              by_cases hin : i + 1 = n
              · have hnx : l[i + 1]? = none := List.getElem?_eq_none (by have := HL.out.1; omega)
                have m1 : wrap64 ((i : Int) + 1) = (n : Int) := by rw [w64t (by have := HLT.out; omega)]; omega
                clear hin
                have hff : fitR W0 l = false := HFF.out (by rw [hnx]; simp [cellOk])
                clear tk1 tk2 HFF HOK HFR HL
                try clear hb
                go_wp2_with (go_at_call 38; refine (CT.out _ HX.out).mono ?_; rintro e w2 ⟨rfl, HB2⟩; have HX2 : Hid (Below w.heap.size w w2) := HX.out.trans (HB2.out.mono HX.out.size); skip)
                go_ret
                rw [hff]
                exact ⟨rfl, HX2.out⟩
              · obtain ⟨d, hd⟩ : ∃ d, l[i + 1]? = some d := ⟨l[i + 1]'(by have := HL.out.1; have := HLT.out; omega), List.getElem?_eq_getElem _⟩
                obtain ⟨i1, hi1⟩ : ∃ i1, i + 1 = i1 := ⟨_, rfl⟩
                have m1 : wrap64 ((i : Int) + 1) = (i1 : Int) := by rw [w64t (by have := HLT.out; omega)]; omega
                have m2 : ((i1 : Int) == (n : Int)) = false := by simp; omega
                have m5 : i1 < n := by have := HLT.out; omega
                have m6 : (i1 : Int) < (n : Int) := by omega
                have m7 : (0 : Int) ≤ (i1 : Int) := by omega
                have HI1 : Hid (i + 1 = i1) := hi1
                have HD : Hid (∀ Y, Below w.heap.size w Y → Y.cell? ⟨g, o + i1 * 2 + 1, none⟩ = some (.int .i64 d.sp)) := fun Y hY => by rw [← HI1.out]; exact (HO.out (i + 1) d hd Y hY).2
                clear hin hi1
                by_cases hd0 : d.sp = 0
                · rw [hd0] at HD
                  have hok := HOK.out (by rw [hd]; simp [cellOk, hb, hd0])
                  clear tk1 tk2 HFF HOK HFR HL
                  try clear hb
                  go_wp2_with (go_at_call 38; refine (CT.out _ HX.out).mono ?_; rintro e w2 ⟨rfl, HB2⟩; have HX2 : Hid (Below w.heap.size w w2) := HX.out.trans (HB2.out.mono HX.out.size); have d1 := HD.out _ HX2.out)
                  have HH : Hid (Below w.heap.size w _ ∧ okL (pvW l (i + 1)) (l.drop (i + 1)) = okL false l) := ⟨HX2.out, hok⟩
                  exact ⟨⟨i1, by have := m5; omega, by first | rfl | rw [m1], by rw [← HI1.out]; exact HH⟩, by have := HI1.out; first | (rw [m1]; simp [intOf]; omega) | (simp [intOf]; omega)⟩
                · have m8 : (d.sp == 0) = false := by simp [hd0]
                  have hff : fitR W0 l = false := HFF.out (by rw [hd]; simp [cellOk, hd0])
                  clear tk1 tk2 HFF HOK HFR HL
                  try clear hb
                  go_wp2_with (go_at_call 38; refine (CT.out _ HX.out).mono ?_; rintro e w2 ⟨rfl, HB2⟩; have HX2 : Hid (Below w.heap.size w w2) := HX.out.trans (HB2.out.mono HX.out.size); have d1 := HD.out _ HX2.out)
                  go_ret
                  rw [hff]
                  exact ⟨rfl, HX2.out⟩
          · have e2 : (z == 2) = false := by simp [z2]
            by_cases z0 : z = 0
            · subst z0
              by_cases ht : t = ⟨#[]⟩
              · subst ht
                have te : (⟨#[]⟩ : ByteArray).toList.isEmpty = true := by kernel_rfl
                by_cases hi0 : i = 0
                · subst hi0
                  have hff : fitR W0 l = false := HFF.out (by simp [cellOk, pvW])
                  clear tk1 tk2 HFF HOK HFR HL
                  simp only [Nat.zero_mul, Nat.add_zero] at x0 x1
                  have n0 : 0 < n := HLT.out.1
                  have n1 : (0 : Int) < (n : Int) := by omega
                  have n2 : decide (0 < n) = true := by simp; omega
                  clear hlt' hi
                  go_wp2
                  go_ret
                  rw [hff]
                  exact ⟨rfl, HX.out⟩
                · obtain ⟨j, hj⟩ : ∃ j, j + 1 = i := ⟨i - 1, by omega⟩
                  obtain ⟨d, hd⟩ : ∃ d, l[j]? = some d := ⟨l[j]'(by have := HL.out.1; have := HLT.out; omega), List.getElem?_eq_getElem _⟩
                  have hpv : pvW l i = decide (d.sp = 2) := by rw [← hj]; show (match l[j]? with | some c => decide (c.sp = 2) | none => false) = _; rw [hd]
                  have m1 : IntKind.i64.wrap ((i : Int) - 1) = (j : Int) := by rw [IntKind.wrap_i64]; have := HLT.out; omega
                  have m2 : ((i : Int) == 0) = false := by simp; omega
                  have m3 : (j : Int) < (n : Int) := by have := HLT.out; omega
                  have m4 : j < n := by have := HLT.out; omega
                  have m5 : (0 : Int) ≤ (j : Int) := by omega
                  have d1 := (HO.out j d hd _ HX.out).2
                  clear hj hi0
                  by_cases hd2 : d.sp = 2
                  · rw [hd2] at d1
                    have hok := HOK.out (by rw [hpv]; simp [cellOk, hd2])
                    clear tk1 tk2 HFF HOK HFR HL hd2 hpv hd
                    go_wp2
                    have HH : Hid (Below w.heap.size w _ ∧ okL (pvW l (i + 1)) (l.drop (i + 1)) = okL false l) := ⟨HX.out, hok⟩
                    exact ⟨⟨i + 1, by have := HLT.out; omega, by first | rw [w64t (by have := HLT.out; omega)] | (simp; done), HH⟩, by have := HLT.out; first | (rw [w64t (by omega)]; simp [intOf]; omega) | (simp [intOf]; omega)⟩
                  · have m6 : (d.sp == 2) = false := by simp [hd2]
                    have hff : fitR W0 l = false := HFF.out (by rw [hpv]; simp [cellOk, hd2])
                    clear tk1 tk2 HFF HOK HFR HL
                    generalize d.sp = ds at d1 m6
                    clear hd2 hpv hd
                    go_wp2
                    go_ret
                    rw [hff]
                    exact ⟨rfl, HX.out⟩
              · have te : t.toList.isEmpty = false := by
                  cases e : t.toList.isEmpty with
                  | false => rfl
                  | true => exact absurd (tl_same.1 ((List.isEmpty_iff.1 e).trans (by kernel_rfl : ([] : List UInt8) = (⟨#[]⟩ : ByteArray).toList))) ht
                have hff : fitR W0 l = false := HFF.out (by simp [cellOk, ht])
                clear tk1 tk2 HFF HOK HFR HL
                go_wp2
                go_ret
                rw [hff]
                exact ⟨rfl, HX.out⟩
            · have e3 : (z == 0) = false := by simp [z0]
              have hff : fitR W0 l = false := HFF.out (by simp [cellOk, z0, z1, z2])
              clear tk1 tk2 HFF HOK HFR HL
              try clear hb
              go_wp2
              go_ret
              rw [hff]
              exact ⟨rfl, HX.out⟩
      · obtain rfl : i = n := by omega
        have hd : ¬ (i : Int) < (i : Int) := by omega
        have hok : okL false l = true := by rw [← HB.out.2, List.drop_eq_nil_of_le (by have := HL.out.1; omega)]; cases pvW l i <;> rfl
        have hff : fitR W0 l = lastT l := by rw [HFR.out, hok, Bool.true_and]
        by_cases hi0 : i = 0
        · subst hi0
          have hl0 : l = [] := List.length_eq_zero_iff.1 HL.out.1
          have hff2 : fitR W0 l = true := by rw [hff, hl0]; rfl
          have hff3 : fitR W0 [] = true := by rw [← hl0]; exact hff2
          clear hff HC hok HFR
          go_wp2
          go_ret
          first | rw [hff2] | rw [hff3] | skip
          exact ⟨rfl, HB.out.1⟩
        · obtain ⟨j, hj⟩ : ∃ j, j + 1 = i := ⟨i - 1, by omega⟩
          obtain ⟨c, hcl⟩ : ∃ c, l[j]? = some c := ⟨l[j]'(by have := HL.out.1; omega), List.getElem?_eq_getElem _⟩
          obtain ⟨g, o, rfl, x0, x1⟩ := HC.out j c hcl wr HB.out.1
          have hla : lastT l = !decide (c.tx = ⟨#[32]⟩) := by unfold lastT; rw [List.getLast?_eq_getElem?, HL.out.1, ← hj, Nat.add_sub_cancel, hcl]
          have m1 : IntKind.i64.wrap ((i : Int) - 1) = (j : Int) := by rw [IntKind.wrap_i64]; have := HL.out; omega
          have m2 : ((i : Int) == 0) = false := by simp; omega
          have m3 : (j : Int) < (i : Int) := by omega
          have m4 : j < i := by omega
          have m5 : (0 : Int) ≤ (j : Int) := by omega
          rw [hla] at hff
          generalize c.tx = t at x0 hff
          clear hj hi0 HC hok HFR hla hcl
          go_wp2
          go_ret
          first | rw [hff] | skip
          have hbb : (!(t.toList == [32])) = (!decide (t = ⟨#[32]⟩)) := by
            have e0 : (⟨#[32]⟩ : ByteArray).toList = [32] := by kernel_rfl
            by_cases ht : t = ⟨#[32]⟩
            · subst ht
              rw [e0]; simp
            · have : t.toList ≠ [32] := fun h => ht (tl_same.1 (h.trans e0.symm))
              simp [ht, this]
          rw [hbb]
          exact ⟨rfl, HB.out.1⟩
  · rw [decide_eq_false hW, Bool.false_and] at hfr
    have hgt : (n : Int) > W0 := by omega
    rw [hfr]
    clear HL HC hfr
    go_enter Tryd.func26, Tryd.ntmps26
    go_wp2
    go_ret
    exact ⟨rfl, Below.refl _ _⟩
end Go.Proofs.YtcgnfjcbafmbgaaDoor
