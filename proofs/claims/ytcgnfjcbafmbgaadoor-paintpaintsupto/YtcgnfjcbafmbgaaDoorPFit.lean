/-
  Package paint, walked: Fit. Conditions: the tables of unicode/utf8 lie as their text lays them; texts and rows of at most 2^31.
-/
import Derived.Test.YtcgnfjcbafmbgaaDoorPIs
namespace Go.Proofs.YtcgnfjcbafmbgaaDoor
open Go.RowKit Go.Shelf Bod Wid
/-- a frame that fits the machine, its texts too -/
def Fs (f : Fm) : Prop := f.rows.length ≤ 2147483648 ∧ ∀ l ∈ f.rows, l.length ≤ 2147483648 ∧ ∀ c ∈ l, c.tx.size ≤ maxLen
theorem all_at {α : Type} {p : α → Bool} {l : List α} {k : Nat} {x : α} (h : l[k]? = some x) (hp : p x = false) : l.all p = false := by
  cases e : l.all p with
  | false => rfl
  | true => rw [List.all_eq_true.1 e x (List.mem_of_getElem? h)] at hp; cases hp
theorem all_of {α : Type} {p : α → Bool} {l : List α} (h : ∀ (j : Nat) x, l[j]? = some x → p x = true) : l.all p = true := by
  rw [List.all_eq_true]
  intro x hx
  obtain ⟨j, hj⟩ := List.mem_iff_getElem?.1 hx
  exact h j x hj
set_option maxRecDepth 100000 in
set_option maxHeartbeats 1000000 in
theorem fit_any (v : Value) (f : Fm) (hf : Fs f) (w : World) (hT : Lib.Utf8Tabs 1 2 w) (h : RdFm w v f) :
    Calls Tryd.prog 10 #[v] w fun e w' => e = .returned (.bool (fitF f)) ∧ Below w.heap.size w w' := by
  obtain ⟨rv, rfl, h⟩ := h
  obtain ⟨a, k, rfl, hc⟩ := h.get
  obtain ⟨fw, R, fr, fc⟩ := f
  simp only at h hc hf ⊢
  obtain ⟨n, hn⟩ : ∃ n, R.length = n := ⟨_, rfl⟩
  have hff : fitF ⟨fw, R, fr, fc⟩ = (decide (fw ≤ 65535) && ((decide (0 ≤ fr) && decide (fr < n)) && ((decide (0 ≤ fc) && decide (fc < fw)) && R.all (fitR fw)))) := by rw [← hn]; rfl
  have H0 : Hid (Below w.heap.size w (w.alloc (.cells #[.int .i64 fw, .slice a n k, .int .i64 fr, .int .i64 fc] 26)) ∧ (w.alloc (.cells #[.int .i64 fw, .slice a n k, .int .i64 fr, .int .i64 fc] 26)).heap[w.heap.size]? = some (.cells #[.int .i64 fw, .slice a n k, .int .i64 fr, .int .i64 fc] 26 (0, 0))) := ⟨(Below.refl _ w).alloc (Nat.le_refl _) _, World.alloc_heap_new _ _⟩
  have HR : Hid (∀ (i : Nat) (l : List Cel), R[i]? = some l → ∀ Y, Below w.heap.size w Y → ∃ g o b m, a = some ⟨g, o, none⟩ ∧ Y.cell? ⟨g, o + i, none⟩ = some (.slice b l.length m) ∧ ∀ Z, Below w.heap.size w Z → Calls Tryd.prog 25 #[.slice b l.length m, .int .i64 fw] Z fun e w' => e = .returned (.bool (fitR fw l)) ∧ Below Z.heap.size Z w') := fun i l hi Y hY => by
    obtain ⟨g, o, b, m, e, hg, hcell, hr⟩ := hc i l hi
    refine ⟨g, o, b, m, e, (hY.cell (p := ⟨g, o + i, none⟩) hg).trans hcell, fun Z hZ => ?_⟩
    have hl := hf.2 l (List.mem_of_getElem? hi)
    exact frow_any _ l fw hl.1 hl.2 Z (tabs_below hT hZ) (hr.below (Nat.le_refl _) hZ)
  have HN : Hid (R.length = n ∧ n ≤ 2147483648) := ⟨hn, by rw [← hn]; exact hf.1⟩
  have HX : Hid (∀ X Y : World, Below w.heap.size w X ∧ X.heap[w.heap.size]? = some (.cells #[.int .i64 fw, .slice a n k, .int .i64 fr, .int .i64 fc] 26 (0, 0)) → Below X.heap.size X Y → Below w.heap.size w Y ∧ Y.heap[w.heap.size]? = some (.cells #[.int .i64 fw, .slice a n k, .int .i64 fr, .int .i64 fc] 26 (0, 0))) := fun X Y hX hY => ⟨hX.1.trans (hY.mono hX.1.size), (hY.block _ (Array.getElem?_eq_some_iff.1 hX.2).1).trans hX.2⟩
  have HW : Hid (∀ (x y : Int) X, Calls Tryd.prog 24 #[.int .i64 x, .int .i64 y] X fun e w' => e = .returned (.bool (decide (0 ≤ x) && decide (x < y))) ∧ Hid (Below X.heap.size X w')) := fun x y X => wthn_any x y X
  rw [hn]
  clear h hc hf hn hT
  by_cases hw : fw ≤ 65535
  · rw [decide_eq_true hw, Bool.true_and] at hff
    have hw2 : ¬ fw > 65535 := by omega
    cases hr : (decide (0 ≤ fr) && decide (fr < n)) with
    | false =>
      rw [hr, Bool.false_and] at hff
      have HW1 : Hid (∀ X, Calls Tryd.prog 24 #[.int .i64 fr, .int .i64 n] X fun e w' => e = .returned (.bool false) ∧ Hid (Below X.heap.size X w')) := fun X => by have := HW.out fr n X; rw [hr] at this; exact this
      rw [hff]
      clear HR HW hff hr HN
      go_enter Tryd.func10, Tryd.ntmps10
      go_wp2_with (go_at_call 24; refine (HW1.out _).mono ?_; rintro e w1 ⟨rfl, HB1⟩)
      go_ret
      exact ⟨rfl, (HX.out _ _ H0.out HB1.out).1⟩
    | true =>
      rw [hr, Bool.true_and] at hff
      have HW1 : Hid (∀ X, Calls Tryd.prog 24 #[.int .i64 fr, .int .i64 n] X fun e w' => e = .returned (.bool true) ∧ Hid (Below X.heap.size X w')) := fun X => by have := HW.out fr n X; rw [hr] at this; exact this
      clear hr
      cases hd : (decide (0 ≤ fc) && decide (fc < fw)) with
      | false =>
        rw [hd, Bool.false_and] at hff
        have HW2 : Hid (∀ X, Calls Tryd.prog 24 #[.int .i64 fc, .int .i64 fw] X fun e w' => e = .returned (.bool false) ∧ Hid (Below X.heap.size X w')) := fun X => by have := HW.out fc fw X; rw [hd] at this; exact this
        rw [hff]
        clear HR HW hff hd HN
        go_enter Tryd.func10, Tryd.ntmps10
        go_wp2_with (first
          | (go_at_call 24; refine (HW1.out _).mono ?_; clear HW1; rintro e w1 ⟨rfl, HB1⟩; have HX1 := HX.out _ _ H0.out HB1.out; obtain ⟨⟨x0, x1, x2, x3⟩, -⟩ := box4 HX1.2; replace HX1 : Hid _ := HX1)
          | (go_at_call 24; refine (HW2.out _).mono ?_; clear x0 x1 x2 x3; rintro e w2 ⟨rfl, HB2⟩; have HX2 := HX.out _ _ HX1.out HB2.out))
        go_ret
        exact ⟨rfl, HX2.1⟩
      | true =>
        rw [hd, Bool.true_and] at hff
        have HW2 : Hid (∀ X, Calls Tryd.prog 24 #[.int .i64 fc, .int .i64 fw] X fun e w' => e = .returned (.bool true) ∧ Hid (Below X.heap.size X w')) := fun X => by have := HW.out fc fw X; rw [hd] at this; exact this
        clear hd HW
        rw [hff]
        clear hff
        go_enter Tryd.func10, Tryd.ntmps10
        go_wp2_with (first
          | (go_at_call 24; refine (HW1.out _).mono ?_; clear HW1; rintro e w1 ⟨rfl, HB1⟩; have HX1 := HX.out _ _ H0.out HB1.out; obtain ⟨⟨x0, x1, x2, x3⟩, -⟩ := box4 HX1.2; replace HX1 : Hid _ := HX1)
          | (go_at_call 24; refine (HW2.out _).mono ?_; clear HW2 x0 x1 x2 x3; rintro e w2 ⟨rfl, HB2⟩; have HX2 := HX.out _ _ HX1.out HB2.out; obtain ⟨⟨x0, x1, x2, x3⟩, -⟩ := box4 HX2.2; replace HX2 : Hid _ := HX2))
        clear x0 x1 x2 x3
        go_loopw [30] (fun t wr => ∃ j : Nat, j ≤ n ∧ t = .int .i64 j ∧ Hid ((Below w.heap.size w wr ∧ wr.heap[w.heap.size]? = some (.cells #[.int .i64 fw, .slice a n k, .int .i64 fr, .int .i64 fc] 26 (0, 0))) ∧ ∀ i x, i < j → R[i]? = some x → fitR fw x = true)) (fun t _ => n - (intOf t).toNat)
        case atStart => exact ⟨0, Nat.zero_le _, rfl, HX2.out, fun i x h => absurd h (Nat.not_lt_zero _)⟩
        case round =>
          obtain ⟨j, hj, rfl, HB⟩ := hrel
          by_cases hlt : j < n
          · obtain ⟨l, hl⟩ : ∃ l, R[j]? = some l := ⟨R[j]'(by rw [HN.out.1]; exact hlt), List.getElem?_eq_getElem _⟩
            obtain ⟨g, o, b, m, rfl, y0, hcall⟩ := HR.out j l hl wr HB.out.1.1
            obtain ⟨⟨x0, x1, x2, x3⟩, -⟩ := box4 HB.out.1.2
            have hlt' : (j : Int) < (n : Int) := by omega
            have HLT : Hid (j < n ∧ n ≤ 2147483648) := ⟨hlt, HN.out.2⟩
            have HL : Hid (R[j]? = some l) := hl
            obtain ⟨q, hq⟩ : ∃ q, l.length = q := ⟨_, rfl⟩
            rw [hq] at y0 hcall
            cases hs : fitR fw l with
            | true =>
              have HC : Hid (∀ Z, Below w.heap.size w Z → Calls Tryd.prog 25 #[.slice b q m, .int .i64 fw] Z fun e w' => e = .returned (.bool true) ∧ Hid (Below Z.heap.size Z w')) := by rw [hs] at hcall; exact hcall
              have HE : Hid (∀ i x, i < j + 1 → R[i]? = some x → fitR fw x = true) := fun i x hi hx => by
                by_cases hij : i < j
                · exact HB.out.2 i x hij hx
                · obtain rfl : i = j := by omega
                  obtain rfl : l = x := Option.some.inj (HL.out.symm.trans hx)
                  exact hs
              clear hcall hl hq hlt HR hs
              go_wp2_with (go_at_call 25; refine (HC.out _ HB.out.1.1).mono ?_; clear HC x0 x1 x2 x3; rintro e w3 ⟨rfl, HB3⟩)
              exact ⟨⟨j + 1, by have := HLT.out; omega, by first | rw [w64t (by have := HLT.out; omega)] | (simp; done), HX.out _ _ HB.out.1 HB3.out, HE.out⟩, by have := HLT.out; first | (rw [w64t (by omega)]; simp [intOf]; omega) | (simp [intOf]; omega)⟩
            | false =>
              have HC : Hid (∀ Z, Below w.heap.size w Z → Calls Tryd.prog 25 #[.slice b q m, .int .i64 fw] Z fun e w' => e = .returned (.bool false) ∧ Hid (Below Z.heap.size Z w')) := by rw [hs] at hcall; exact hcall
              have hf := all_at hl hs
              clear hcall hl hq hlt HR hs
              go_wp2_with (go_at_call 25; refine (HC.out _ HB.out.1.1).mono ?_; clear HC x0 x1 x2 x3; rintro e w3 ⟨rfl, HB3⟩)
              go_ret
              try rw [hf]
              exact ⟨rfl, (HX.out _ _ HB.out.1 HB3.out).1⟩
          · have hf : R.all (fitR fw) = true := all_of fun i x hx => HB.out.2 i x (by have := (List.getElem?_eq_some_iff.1 hx).1; have := HN.out.1; omega) hx
            have hd : ¬ (j : Int) < (n : Int) := by omega
            clear HR
            go_wp2
            go_ret
            try rw [hf]
            exact ⟨rfl, HB.out.1.1⟩
  · rw [decide_eq_false hw, Bool.false_and] at hff
    have hw2 : fw > 65535 := by omega
    rw [hff]
    clear HR HX HW hff HN
    go_enter Tryd.func10, Tryd.ntmps10
    go_wp2
    go_ret
    exact ⟨rfl, H0.out.1⟩
end Go.Proofs.YtcgnfjcbafmbgaaDoor
