/-
  The document's own Same of layer 20, of any two frames: true just where all that they hold is the same. Conditions: no more than 2^31 rows and cells in a row.
-/
import Derived.Test.YtfjoklbiocniiaaDoorPkI
import Derived.Test.YtfjoklbiocniiaaDoorOSmf
namespace Go.Proofs.YtfjoklbiocniiaaDoor
open Go.RowKit Go.Shelf
theorem box_pair {w : World} (o0 o1 : Obj) : Below w.heap.size w ((w.alloc o0).alloc o1) ∧ ((w.alloc o0).alloc o1).heap[w.heap.size]? = some o0 ∧ ((w.alloc o0).alloc o1).heap[w.heap.size + 1]? = some o1 := by
  obtain ⟨q0, q1⟩ := push2 w.heap o0 o1
  exact ⟨((Below.refl _ w).alloc (Nat.le_refl _) _).alloc (by simp) _, q0, q1⟩
set_option maxRecDepth 100000 in
set_option maxHeartbeats 2000000 in
theorem rsmf_any {v1 v2 : Value} (f g : Fm) (hf : Fsz f) (hg : Fsz g) (w : World) (h1 : RdFm w v1 f) (h2 : RdFm w v2 g) :
    Calls Tryd.prog 9 #[v1, v2] w fun e w' => e = .returned (.bool (fmE f g)) ∧ Below w.heap.size w w' := by
  obtain ⟨r1, rfl, h1⟩ := h1
  obtain ⟨r2, rfl, h2⟩ := h2
  obtain ⟨oa1, ok1, rfl, hc1⟩ := h1.get
  obtain ⟨oa2, ok2, rfl, hc2⟩ := h2.get
  obtain ⟨fw, R, r, c⟩ := f
  obtain ⟨gw, R', r', c'⟩ := g
  simp only at h1 h2 hc1 hc2 ⊢
  obtain ⟨N, hN⟩ : ∃ n, R.length = n := ⟨_, rfl⟩
  obtain ⟨N', hN'⟩ : ∃ n', R'.length = n' := ⟨_, rfl⟩
  have e2 := fmE_eq (f := ⟨fw, R, r, c⟩) (g := ⟨gw, R', r', c'⟩)
  have e3 := fmE_no (f := ⟨fw, R, r, c⟩) (g := ⟨gw, R', r', c'⟩)
  simp only at e2 e3
  obtain ⟨b, hb⟩ : ∃ b, fmE ⟨fw, R, r, c⟩ ⟨gw, R', r', c'⟩ = b := ⟨_, rfl⟩
  rw [hb] at e2 e3
  rw [hb]
  have hne := pl_neq r c r' c'
  have H0 := box_pair (w := w) (.cells #[.int .i64 fw, .slice oa1 N ok1, .int .i64 r, .int .i64 c] 30) (.cells #[.int .i64 gw, .slice oa2 N' ok2, .int .i64 r', .int .i64 c'] 30)
  have HR : Hid (∀ (i : Nat) (l l' : List Cel), R[i]? = some l → R'[i]? = some l' → ∀ Y, Below w.heap.size w Y → ∃ g1 o1 g2 o2 a1 a2 k1 k2, oa1 = some ⟨g1, o1, none⟩ ∧ oa2 = some ⟨g2, o2, none⟩ ∧ Y.cell? ⟨g1, o1 + i, none⟩ = some (.slice a1 l.length k1) ∧ Y.cell? ⟨g2, o2 + i, none⟩ = some (.slice a2 l'.length k2) ∧ ∀ Z, Below w.heap.size w Z → Calls Tryd.prog 24 #[.slice a1 l.length k1, .slice a2 l'.length k2] Z fun e w' => e = .returned (.bool (rowE l l')) ∧ Below Z.heap.size Z w') := fun i l l' hi hi' Y hY => by
    obtain ⟨g1, o1, a1, k1, e1, f1, c1, w1⟩ := hc1 i l hi
    obtain ⟨g2, o2, a2, k2, e2, f2, c2, w2⟩ := hc2 i l' hi'
    refine ⟨g1, o1, g2, o2, a1, a2, k1, k2, e1, e2, (hY.cell (p := ⟨g1, o1 + i, none⟩) f1).trans c1, (hY.cell (p := ⟨g2, o2 + i, none⟩) f2).trans c2, fun Z hZ => ?_⟩
    exact rsrf_any l l' (hf.2 l (List.mem_of_getElem? hi)) (hg.2 l' (List.mem_of_getElem? hi')) Z (w1.below (Nat.le_refl _) hZ) (w2.below (Nat.le_refl _) hZ)
  have HN : Hid (R.length = N ∧ R'.length = N' ∧ N ≤ 2147483648) := ⟨hN, hN', by have := hf.1; simp only at this; omega⟩
  rw [hN, hN']
  clear h1 h2 hc1 hc2 hf hg hb hN hN'
  by_cases hw : fw = gw
  · subst hw
    by_cases hp : r = r' ∧ c = c'
    · obtain ⟨rfl, rfl⟩ := hp
      obtain rfl := e2 ⟨rfl, rfl, rfl⟩
      simp only [decide_true, Bool.and_self, Bool.not_true] at hne
      clear e2 e3
      by_cases hd : N = N'
      · subst hd
        have H1 : Hid (Below w.heap.size w ((w.alloc (.cells #[.int .i64 fw, .slice oa1 N ok1, .int .i64 r, .int .i64 c] 30)).alloc (.cells #[.int .i64 fw, .slice oa2 N ok2, .int .i64 r, .int .i64 c] 30)) ∧ _ ∧ _) := H0
        clear H0
        go_enter Tryd.func9, Tryd.ntmps9
        go_wp2
        generalize ((w.alloc (.cells #[.int .i64 fw, .slice oa1 N ok1, .int .i64 r, .int .i64 c] 30)).alloc (.cells #[.int .i64 fw, .slice oa2 N ok2, .int .i64 r, .int .i64 c] 30)) = W0 at H1 ⊢
        go_loopw [5] (fun t wr => ∃ k : Nat, k ≤ N ∧ t = .int .i64 k ∧ Hid (Below w.heap.size w wr ∧ wr.heap[w.heap.size]? = some (.cells #[.int .i64 fw, .slice oa1 N ok1, .int .i64 r, .int .i64 c] 30 (0, 0)) ∧ wr.heap[w.heap.size + 1]? = some (.cells #[.int .i64 fw, .slice oa2 N ok2, .int .i64 r, .int .i64 c] 30 (0, 0)) ∧ ∀ j x y, j < k → R[j]? = some x → R'[j]? = some y → rowE x y = true)) (fun t _ => N - (intOf t).toNat)
        case atStart => exact ⟨0, Nat.zero_le _, rfl, H1.out.1, H1.out.2.1, H1.out.2.2, fun j x y h => absurd h (Nat.not_lt_zero _)⟩
        case round =>
          clear H1 hne
          obtain ⟨k, hk, rfl, HW⟩ := hrel
          obtain ⟨⟨-, p1, -, -⟩, -⟩ := box4 HW.out.2.1
          obtain ⟨⟨-, q1, -, -⟩, -⟩ := box4 HW.out.2.2.1
          by_cases hlt : k < N
          · obtain ⟨l, hl⟩ : ∃ l, R[k]? = some l := ⟨R[k]'(by rw [HN.out.1]; exact hlt), List.getElem?_eq_getElem _⟩
            obtain ⟨l', hl'⟩ : ∃ l, R'[k]? = some l := ⟨R'[k]'(by rw [HN.out.2.1]; exact hlt), List.getElem?_eq_getElem _⟩
            obtain ⟨g1, o1, g2, o2, a1, a2, k1, k2, rfl, rfl, x0, y0, hc⟩ := HR.out k l l' hl hl' wr HW.out.1
            have HL : Hid (R[k]? = some l ∧ R'[k]? = some l') := ⟨hl, hl'⟩
            have hlt' : (k : Int) < N := by omega
            have HLT : Hid (k < N ∧ N ≤ 2147483648) := ⟨hlt, HN.out.2.2⟩
            have HD : Hid (Below w.heap.size w wr.drew) := ⟨HW.out.1.os, HW.out.1.tape, HW.out.1.output, HW.out.1.size, HW.out.1.block⟩
            obtain ⟨m, hm⟩ : ∃ m, l.length = m := ⟨_, rfl⟩
            obtain ⟨m', hm'⟩ : ∃ m', l'.length = m' := ⟨_, rfl⟩
            rw [hm] at x0 hc
            rw [hm'] at y0 hc
            cases hs : rowE l l' with
            | true =>
              have HC : Hid (∀ Z, Below w.heap.size w Z → Calls Tryd.prog 24 #[.slice a1 m k1, .slice a2 m' k2] Z fun e w' => e = .returned (.bool true) ∧ Hid (Below Z.heap.size Z w')) := by rw [hs] at hc; exact hc
              have HE : Hid (∀ j x y, j < k + 1 → R[j]? = some x → R'[j]? = some y → rowE x y = true) := fun j x y hj hx hy => by
                by_cases hjk : j < k
                · exact HW.out.2.2.2 j x y hjk hx hy
                · obtain rfl : j = k := by omega
                  obtain rfl : l = x := Option.some.inj (HL.out.1.symm.trans hx)
                  obtain rfl : l' = y := Option.some.inj (HL.out.2.symm.trans hy)
                  exact hs
              clear hc hl hl' hm hm' hlt HR hs
              go_wp2
              go_region_held3 (fun w' => w'.cell? ⟨w.heap.size, 1, none⟩ = some (.slice (some ⟨g1, o1, none⟩) N ok1) ∧ w'.cell? ⟨w.heap.size + 1, 1, none⟩ = some (.slice (some ⟨g2, o2, none⟩) N ok2) ∧ w'.cell? ⟨g1, o1 + k, none⟩ = some (.slice a1 m k1) ∧ w'.cell? ⟨g2, o2 + k, none⟩ = some (.slice a2 m' k2)) (first | go_keep | exact ⟨p1, q1, x0, y0⟩) (first | (go_at_call 24; refine (HC.out _ HD.out).mono ?_; clear HC; rintro e w2 ⟨rfl, HB2⟩; replace p1 := (HB2.out.cell (p := ⟨w.heap.size, 1, none⟩) (World.block_lt_of_cell? wr _ p1)).trans p1; replace q1 := (HB2.out.cell (p := ⟨w.heap.size + 1, 1, none⟩) (World.block_lt_of_cell? wr _ q1)).trans q1; replace x0 := (HB2.out.cell (p := ⟨g1, o1 + k, none⟩) (World.block_lt_of_cell? wr _ x0)).trans x0; replace y0 := (HB2.out.cell (p := ⟨g2, o2 + k, none⟩) (World.block_lt_of_cell? wr _ y0)).trans y0) | fail)
              all_goals
                go_wp2
                go_roundw
              all_goals first
                | exact ⟨k + 1, by have := HLT.out; omega, by rw [w64t (by have := HLT.out; omega)], HD.out.trans (HB2.out.mono HD.out.size), (HB2.out.block _ (Array.getElem?_eq_some_iff.1 HW.out.2.1).1).trans HW.out.2.1, (HB2.out.block _ (Array.getElem?_eq_some_iff.1 HW.out.2.2.1).1).trans HW.out.2.2.1, HE.out⟩
                | (have := HLT.out; rw [w64t (by omega)]; simp [intOf]; omega)
            | false =>
              have HC : Hid (∀ Z, Below w.heap.size w Z → Calls Tryd.prog 24 #[.slice a1 m k1, .slice a2 m' k2] Z fun e w' => e = .returned (.bool false) ∧ Hid (Below Z.heap.size Z w')) := by rw [hs] at hc; exact hc
              have hf := rowsE_at hl hl' hs
              clear hc hl hl' hm hm' hlt HR hs
              go_wp2
              go_region_held3 (fun w' => w'.cell? ⟨w.heap.size, 1, none⟩ = some (.slice (some ⟨g1, o1, none⟩) N ok1) ∧ w'.cell? ⟨w.heap.size + 1, 1, none⟩ = some (.slice (some ⟨g2, o2, none⟩) N ok2) ∧ w'.cell? ⟨g1, o1 + k, none⟩ = some (.slice a1 m k1) ∧ w'.cell? ⟨g2, o2 + k, none⟩ = some (.slice a2 m' k2)) (first | go_keep | exact ⟨p1, q1, x0, y0⟩) (first | (go_at_call 24; refine (HC.out _ HD.out).mono ?_; clear HC; rintro e w2 ⟨rfl, HB2⟩; replace p1 := (HB2.out.cell (p := ⟨w.heap.size, 1, none⟩) (World.block_lt_of_cell? wr _ p1)).trans p1; replace q1 := (HB2.out.cell (p := ⟨w.heap.size + 1, 1, none⟩) (World.block_lt_of_cell? wr _ q1)).trans q1; replace x0 := (HB2.out.cell (p := ⟨g1, o1 + k, none⟩) (World.block_lt_of_cell? wr _ x0)).trans x0; replace y0 := (HB2.out.cell (p := ⟨g2, o2 + k, none⟩) (World.block_lt_of_cell? wr _ y0)).trans y0) | fail)
              all_goals
                go_wp2
                go_ret
                try rw [hf]
                exact ⟨rfl, HD.out.trans (HB2.out.mono HD.out.size)⟩
          · have hf : rowsE R R' = true := rowsE_all (HN.out.1.trans HN.out.2.1.symm) fun j x y hx hy => HW.out.2.2.2 j x y (by have := (List.getElem?_eq_some_iff.1 hx).1; have := HN.out.1; omega) hx hy
            have hd : ¬ (k : Int) < N := by omega
            go_wp2
            go_ret
            try rw [hf]
            exact ⟨rfl, HW.out.1⟩
      · have hf := rowsE_len (l := R) (m := R') (by have := HN.out; omega)
        have hl2 : ¬ (N : Int) = N' := by omega
        have hl3 : decide (N = N') = false := by simp [hd]
        clear HR HN
        go_enter Tryd.func9, Tryd.ntmps9
        go_wp2
        go_ret
        try rw [hf]
        exact ⟨rfl, H0.1⟩
    · obtain rfl := e3 (fun h => hp ⟨h.2.1, h.2.2⟩)
      have hb : (!(decide (r = r') && decide (c = c'))) = true := by
        by_cases e1 : r = r' <;> by_cases e2 : c = c' <;> simp [e1, e2]
        exact hp ⟨e1, e2⟩
      simp only [hb] at hne
      clear e2 e3 hp hb HR HN
      go_enter Tryd.func9, Tryd.ntmps9
      go_wp2
      go_ret
      exact ⟨rfl, H0.1⟩
  · obtain rfl := e3 (fun h => hw h.1)
    clear e2 e3 hne HR HN
    go_enter Tryd.func9, Tryd.ntmps9
    go_wp2
    go_ret
    exact ⟨rfl, H0.1⟩
end Go.Proofs.YtfjoklbiocniiaaDoor
