/-
  The document's own layer 21: Fit: the same frames fit. Conditions: no more than 2^31 in a text, in a row and of rows.
-/
import Derived.Test.YtcgnfjcbafmbgaaDoorPRow
import Derived.Test.YtcgnfjcbafmbgaaDoorPGo
namespace Go.Proofs.YtcgnfjcbafmbgaaDoor
open Go.RowKit Go.Shelf Bod Wid
/-- a frame that fits the machine, its texts of at most 2^31 -/
def Fr (f : Fm) : Prop := f.rows.length ≤ 2147483648 ∧ ∀ l ∈ f.rows, l.length ≤ 2147483648 ∧ ∀ c ∈ l, c.tx.size ≤ 2147483648
theorem fitF_of (fw : Int) (R : List (List Cel)) (fr fc : Int) (n : Nat) (hn : R.length = n) : fitF ⟨fw, R, fr, fc⟩ = (decide (fw ≤ 65535) && ((decide (0 ≤ fr) && decide (fr < n)) && ((decide (0 ≤ fc) && decide (fc < fw)) && R.all (fitR fw)))) := by rw [← hn]; rfl
theorem fitF_no {fw : Int} {R : List (List Cel)} {fr fc : Int} {n : Nat} (hn : R.length = n) (h : fw < 1 ∨ fw > 65535 ∨ n = 0 ∨ fr < 0 ∨ (n : Int) ≤ fr ∨ fc < 0 ∨ fw ≤ fc ∨ R.all (fitR fw) = false) : fitF ⟨fw, R, fr, fc⟩ = false := by
  rw [fitF_of fw R fr fc n hn]
  cases ha : R.all (fitR fw) with
  | false => simp
  | true =>
    rw [ha] at h
    simp only [Bool.and_true]
    rw [Bool.eq_false_iff]
    intro hh
    simp only [Bool.and_eq_true, decide_eq_true_eq] at hh
    simp only [Bool.true_eq_false, or_false] at h
    omega
theorem fitF_yes {fw : Int} {R : List (List Cel)} {fr fc : Int} {n : Nat} (hn : R.length = n) (h1 : fw ≤ 65535) (h2 : 0 ≤ fr) (h3 : fr < n) (h4 : 0 ≤ fc) (h5 : fc < fw) (h6 : R.all (fitR fw) = true) : fitF ⟨fw, R, fr, fc⟩ = true := by
  rw [fitF_of fw R fr fc n hn]
  simp [h1, h2, h3, h4, h5, h6]
set_option maxRecDepth 100000 in
set_option maxHeartbeats 2000000 in
theorem rfit_any (v : Value) (f : Fm) (hf : Fr f) (w : World) (h : RdFm w v f) :
    Calls Tryd.prog 11 #[v] w fun e w' => e = .returned (.bool (fitF f)) ∧ Below w.heap.size w w' := by
  have HM : Hid (Tryd.prog.follows .mixedOrders = true) := by show _ = _; kernel_rfl
  obtain ⟨rv, rfl, h⟩ := h
  obtain ⟨a, k, rfl, hc⟩ := h.get
  obtain ⟨fw, R, fr, fc⟩ := f
  simp only at h hc hf ⊢
  obtain ⟨n, hn⟩ : ∃ n, R.length = n := ⟨_, rfl⟩
  have HN0 : Hid (R.length = n) := hn
  have H0 : Hid (Below w.heap.size w (w.alloc (.cells #[.int .i64 fw, .slice a n k, .int .i64 fr, .int .i64 fc] 26)) ∧ (w.alloc (.cells #[.int .i64 fw, .slice a n k, .int .i64 fr, .int .i64 fc] 26)).heap[w.heap.size]? = some (.cells #[.int .i64 fw, .slice a n k, .int .i64 fr, .int .i64 fc] 26 (0, 0))) := ⟨(Below.refl _ w).alloc (Nat.le_refl _) _, World.alloc_heap_new _ _⟩
  have HR : Hid (∀ (i : Nat) (l : List Cel), R[i]? = some l → ∀ Y, Below w.heap.size w Y → ∃ g o b m, a = some ⟨g, o, none⟩ ∧ Y.cell? ⟨g, o + i, none⟩ = some (.slice b l.length m) ∧ ∀ Z, Below w.heap.size w Z → Calls Tryd.prog 26 #[.slice b l.length m, .int .i64 fw] Z fun e w' => e = .returned (.bool (fitR fw l)) ∧ Below Z.heap.size Z w') := fun i l hi Y hY => by
    obtain ⟨g, o, b, m, e, hg, hcell, hr⟩ := hc i l hi
    refine ⟨g, o, b, m, e, (hY.cell (p := ⟨g, o + i, none⟩) hg).trans hcell, fun Z hZ => ?_⟩
    have hl := hf.2 l (List.mem_of_getElem? hi)
    exact rrow_any _ l fw hl.1 hl.2 Z (hr.below (Nat.le_refl _) hZ)
  have HN : Hid (R.length = n ∧ n ≤ 2147483648) := ⟨hn, by rw [← hn]; exact hf.1⟩
  have HX : Hid (∀ X Y : World, Below w.heap.size w X ∧ X.heap[w.heap.size]? = some (.cells #[.int .i64 fw, .slice a n k, .int .i64 fr, .int .i64 fc] 26 (0, 0)) → Below X.heap.size X Y → Below w.heap.size w Y ∧ Y.heap[w.heap.size]? = some (.cells #[.int .i64 fw, .slice a n k, .int .i64 fr, .int .i64 fc] 26 (0, 0))) := fun X Y hX hY => ⟨hX.1.trans (hY.mono hX.1.size), (hY.block _ (Array.getElem?_eq_some_iff.1 hX.2).1).trans hX.2⟩
  rw [hn]
  clear h hc hf hn
  by_cases hw1 : fw < 1
  · rw [fitF_no HN0.out (.inl hw1)]
    clear HR HX HN HN0
    go_enter Tryd.func11, Tryd.ntmps11
    go_wp2
    go_ret
    exact ⟨rfl, H0.out.1⟩
  by_cases hw2 : fw > 65535
  · rw [fitF_no HN0.out (.inr (.inl hw2))]
    clear HR HX HN HN0
    go_enter Tryd.func11, Tryd.ntmps11
    go_wp2
    go_ret
    exact ⟨rfl, H0.out.1⟩
  by_cases hn0 : n = 0
  · rw [fitF_no HN0.out (.inr (.inr (.inl hn0)))]
    subst hn0
    clear HR HX HN HN0
    go_enter Tryd.func11, Tryd.ntmps11
    go_wp2
    go_ret
    exact ⟨rfl, H0.out.1⟩
  have hn1 : ((n : Int) == 0) = false := by simp; omega
  have HW : Hid (¬ fw > 65535) := hw2
  go_enter Tryd.func11, Tryd.ntmps11
  go_wp2
  clear hw1 hw2 hn0 hn1
  go_loopw [3] (fun t wr => ∃ j : Nat, j ≤ n ∧ t = .int .i64 j ∧ Hid ((Below w.heap.size w wr ∧ wr.heap[w.heap.size]? = some (.cells #[.int .i64 fw, .slice a n k, .int .i64 fr, .int .i64 fc] 26 (0, 0))) ∧ ∀ i x, i < j → R[i]? = some x → fitR fw x = true)) (fun t _ => n - (intOf t).toNat)
  case atStart => exact ⟨0, Nat.zero_le _, rfl, H0.out, fun i x h => absurd h (Nat.not_lt_zero _)⟩
  case round =>
    obtain ⟨j, hj, rfl, HB⟩ := hrel
    by_cases hlt : j < n
    · obtain ⟨l, hl⟩ : ∃ l, R[j]? = some l := ⟨R[j]'(by rw [HN.out.1]; exact hlt), List.getElem?_eq_getElem _⟩
      obtain ⟨g, o, b, m, rfl, y0, hcall⟩ := HR.out j l hl wr HB.out.1.1
      obtain ⟨⟨x0, x1, x2, x3⟩, -⟩ := box4 HB.out.1.2
      have hlt' : (j : Int) < (n : Int) := by omega
      have HLT : Hid (j < n ∧ n ≤ 2147483648) := ⟨hlt, HN.out.2⟩
      have HL : Hid (R[j]? = some l) := hl
      obtain ⟨q, hq⟩ : ∃ q, l.length = q := ⟨_, rfl⟩
      rw [hq] at y0 hcall
      have r0 := cell_rgP x0
      have r1 := cell_rgP x1
      have r2 := cell_rgP y0
      have HF0 : Hid (∀ dq osq, Below wr.heap.size wr (Go.Sort.grow (redrawn wr dq) osq)) := fun dq osq => below_regrown _ dq osq
      cases hs : fitR fw l with
      | true =>
        have k1 := call_rgP (W := wr) (f := 26) (args := #[.slice b q m, .int .i64 fw]) (v := .bool true) fun X hX => by rw [hs] at hcall; exact hcall X (HB.out.1.1.trans (hX.mono HB.out.1.1.size))
        have HE : Hid (∀ i x, i < j + 1 → R[i]? = some x → fitR fw x = true) := fun i x hi hx => by
          by_cases hij : i < j
          · exact HB.out.2 i x hij hx
          · obtain rfl : i = j := by omega
            obtain rfl : l = x := Option.some.inj (HL.out.symm.trans hx)
            exact hs
        clear hcall hl hq hlt HR hs x2 x3 y0
        go_wp2
        clear x0 x1
        refine wp_region_quiet_below HM.out (by kernel_rfl) ?_
        iterate 7 (go_big_quiet_step (fail))
        go_big_quiet_step (exact k1 _ _)
        repeat (go_big_quiet_step (fail))
        refine wpQuiet_nil ?_
        intro _ hw'
        obtain ⟨⟨dq, osq⟩, hw''⟩ := hw'
        subst hw''
        have HF : Hid _ := HX.out _ _ HB.out.1 (HF0.out dq osq)
        dsimp only
        generalize Go.Sort.grow (redrawn wr dq) osq = wz at HF ⊢
        clear r0 r1 r2 k1
        go_wp2
        exact ⟨⟨j + 1, by have := HLT.out; omega, by first | rw [w64t (by have := HLT.out; omega)] | (simp; done), HF.out, HE.out⟩, by have := HLT.out; first | (rw [w64t (by omega)]; simp [intOf]; omega) | (simp [intOf]; omega)⟩
      | false =>
        have k1 := call_rgP (W := wr) (f := 26) (args := #[.slice b q m, .int .i64 fw]) (v := .bool false) fun X hX => by rw [hs] at hcall; exact hcall X (HB.out.1.1.trans (hX.mono HB.out.1.1.size))
        have hff := fitF_no HN0.out (fw := fw) (fr := fr) (fc := fc) (.inr (.inr (.inr (.inr (.inr (.inr (.inr (all_at hl hs))))))))
        clear hcall hl hq hlt HR hs x2 x3 y0
        go_wp2
        clear x0 x1
        refine wp_region_quiet_below HM.out (by kernel_rfl) ?_
        iterate 7 (go_big_quiet_step (fail))
        go_big_quiet_step (exact k1 _ _)
        repeat (go_big_quiet_step (fail))
        refine wpQuiet_nil ?_
        intro _ hw'
        obtain ⟨⟨dq, osq⟩, hw''⟩ := hw'
        subst hw''
        have HF : Hid _ := HX.out _ _ HB.out.1 (HF0.out dq osq)
        dsimp only
        generalize Go.Sort.grow (redrawn wr dq) osq = wz at HF ⊢
        clear r0 r1 r2 k1
        go_wp2
        go_ret
        rw [hff]
        exact ⟨rfl, HF.out.1⟩
    · have hall : R.all (fitR fw) = true := all_of fun i x hx => HB.out.2 i x (by have := (List.getElem?_eq_some_iff.1 hx).1; have := HN.out.1; omega) hx
      obtain rfl : j = n := by omega
      have hd : ¬ (j : Int) < (j : Int) := by omega
      obtain ⟨⟨x0, x1, x2, x3⟩, -⟩ := box4 HB.out.1.2
      clear HR hlt
      by_cases g1 : fr ≥ 0
      · by_cases g2 : fr < (j : Int)
        · by_cases g3 : fc ≥ 0
          · by_cases g4 : fc < fw
            · have hff := fitF_yes HN0.out (by have := HW.out; omega) g1 g2 g3 g4 hall
              clear hall
              go_wp2
              go_ret
              try rw [hff]
              exact ⟨rfl, HB.out.1.1⟩
            · have hff := fitF_no HN0.out (fw := fw) (fr := fr) (fc := fc) (.inr (.inr (.inr (.inr (.inr (.inr (.inl (by omega))))))))
              clear hall
              go_wp2
              go_ret
              try rw [hff]
              exact ⟨rfl, HB.out.1.1⟩
          · have hff := fitF_no HN0.out (fw := fw) (fr := fr) (fc := fc) (.inr (.inr (.inr (.inr (.inr (.inl (by omega)))))))
            clear hall
            go_wp2
            go_ret
            try rw [hff]
            exact ⟨rfl, HB.out.1.1⟩
        · have hff := fitF_no HN0.out (fw := fw) (fr := fr) (fc := fc) (.inr (.inr (.inr (.inr (.inl (by omega))))))
          clear hall
          go_wp2
          go_ret
          try rw [hff]
          exact ⟨rfl, HB.out.1.1⟩
      · have hff := fitF_no HN0.out (fw := fw) (fr := fr) (fc := fc) (.inr (.inr (.inr (.inl (by omega)))))
        clear hall
        go_wp2
        go_ret
        try rw [hff]
        exact ⟨rfl, HB.out.1.1⟩
end Go.Proofs.YtcgnfjcbafmbgaaDoor
