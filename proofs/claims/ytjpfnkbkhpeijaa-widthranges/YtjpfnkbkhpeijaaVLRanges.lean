/-
  The walk of the law WidthRanges: for every number it returns true: Ranges answers the document's ranges, and what is written into one answer is not seen in the next. No conditions.
-/
import Derived.Test.YtjpfnkbkhpeijaaVLaw
namespace Go.Proofs.Ytjpfnkbkhpeijaa.widthRanges
open Go.RowKit Wid

theorem row_below {base e size n : Nat} {v : Value} {xs : List Value} {W W' : World} (h : W.ownsRow base e size v n xs) (hb : Below W.heap.size W W') : W'.ownsRow base e size v n xs :=
  h.kept (row := none) ⟨hb.os, hb.tape, hb.output, hb.size, fun k hk _ => hb.block k hk⟩ (by cases hv : v.ownBlock with
    | none => exact .inl rfl
    | some _ => exact .inr (by simp))
/-- what lies where between the statements: the wanted list, the second answer, and the first, which is written over and lengthened -/
structure St (w : World) (l : List (Int × Int)) (vw vb va : Value) (m : Nat) (W : World) : Prop where
  rw : W.ownsRow w.heap.size 32 2 vw l.length (rcells l)
  rb : W.ownsRow w.heap.size 32 2 vb l.length (rcells l)
  ra : ∃ xs, W.ownsRow w.heap.size 32 2 va m xs
  dj : ∀ g, va.ownBlock = some g → vb.ownBlock ≠ some g ∧ vw.ownBlock ≠ some g
  bel : Below w.heap.size w W
theorem other {v va : Value} (h : ∀ g, va.ownBlock = some g → v.ownBlock ≠ some g) : v.ownBlock = none ∨ v.ownBlock ≠ va.ownBlock := by
  cases hv : v.ownBlock with
  | none => exact .inl rfl
  | some b => exact .inr fun e => h b e.symm hv
theorem St.step {w : World} {l : List (Int × Int)} {vw vb va va' : Value} {m m' : Nat} {W W' : World} {xs : List Value} (h : St w l vw vb va m W) (hg : W.grownBy W' va.ownBlock) (hr : W'.ownsRow w.heap.size 32 2 va' m' xs)
    (hw : va'.ownBlock = va.ownBlock ∨ ∀ g, va'.ownBlock = some g → W.heap.size ≤ g) : St w l vw vb va' m' W' := by
  obtain ⟨xs0, ra⟩ := h.ra
  refine ⟨h.rw.kept hg (other fun g e => (h.dj g e).2), h.rb.kept hg (other fun g e => (h.dj g e).1), ⟨xs, hr⟩, fun g e => ?_, h.bel.grown hg h.bel.size (fun j e => (ra.lt j e).1)⟩
  rcases hw with hw | hw
  · exact h.dj g (hw ▸ e)
  · have := hw g e
    exact ⟨fun q => by have := (h.rb.lt g q).2; omega, fun q => by have := (h.rw.lt g q).2; omega⟩
theorem St.first {w w0 w1 w2 w3 W : World} {l : List (Int × Int)} {vw vb va : Value} (hb0 : Below w.heap.size w w0) (r1 : w1.ownsRow w0.heap.size 32 2 vw l.length (rcells l)) (b1 : Below w0.heap.size w0 w1)
    (r2 : w2.ownsRow w1.heap.size 32 2 va l.length (rcells l)) (b2 : Below w1.heap.size w1 w2) (r3 : w3.ownsRow w2.heap.size 32 2 vb l.length (rcells l)) (b3 : Below w2.heap.size w2 w3) (b4 : Below w3.heap.size w3 W) : St w l vw vb va l.length W := by
  have s0 := hb0.size
  have s1 := b1.size
  have s2 := b2.size
  have b23 := b2.trans (b3.mono s2)
  have b34 := b3.trans (b4.mono b3.size)
  have b24 := b23.trans (b4.mono b23.size)
  have b14 := b1.trans (b24.mono s1)
  refine ⟨row_mono (row_below r1 b24) s0, row_mono (row_below r3 b4) (by omega), ⟨_, row_mono (row_below r2 b34) (by omega)⟩, fun g e => ?_, hb0.trans (b14.mono s0)⟩
  have := r2.lt g e
  exact ⟨fun q => by have := r3.lt g q; omega, fun q => by have := r1.lt g q; omega⟩

theorem grown_two {A C : World} {o : Obj} {row row' : Option Nat} (h : (A.alloc o).grownBy C row') (hr : row' = none ∨ row' = row) : A.grownBy C row := by
  have g := World.grownBy_alloc A o row
  refine ⟨h.os.trans g.os, h.tape.trans g.tape, h.output.trans g.output, Nat.le_trans g.size h.size, fun k hk hne => ?_⟩
  refine (h.block k (Nat.lt_of_lt_of_le hk g.size) ?_).trans (g.block k hk hne)
  rcases hr with rfl | rfl
  · simp
  · exact hne

set_option maxRecDepth 100000 in
set_option maxHeartbeats 4000000 in
theorem walk (k : Int) (w : World) : Calls Try.prog 4 #[.int .i64 k] w fun e w' => e = .returned (.bool true) ∧ Below w.heap.size w w' := by
  have cA := awake_any w
  have hl1 : (rng k).length ≤ 100 := by unfold rng; repeat' split
                                        all_goals decide
  have cW : Hid (∀ W, Calls Try.prog 12 #[.int .i64 k] W (Made W (rng k))) := rranges_any k
  have cR : Hid (∀ W, Calls Try.prog 13 #[.int .i64 k] W (Made W (rng k))) := ranges_any k
  have cC : Hid (∀ W, Below w.heap.size w W → Calls Try.prog 8 #[.int .i32 769] W fun e w' => e = .returned (.int .i64 3) ∧ Below w.heap.size w w') := class_from 769 3 (by decide +kernel)
  obtain ⟨i0, hi, hz0, hz1, hz2⟩ := info_parts infoR
  generalize rng k = l at hl1 cW cR
  have cS : Hid (∀ v1 v2 W, Rg W v1 l → Rg W v2 l → Calls Try.prog 14 #[v1, v2] W fun e w' => e = .returned (.bool true) ∧ Below W.heap.size W w') := fun v1 v2 W h1 h2 => same_any (by omega) h1 h2
  have T1 : Hid True := trivial
  have T2 : Hid True := trivial
  go_enter Try.func4, Try.ntmps4
  go_wp2_with (first | (go_at_call 7; refine cA.mono ?_; clear cA; rintro e w0 ⟨rfl, hb0⟩) | (go_at_call 12; refine (cW.out _).mono ?_; clear cW; rintro e w1 ⟨vw, rfl, r1, b1⟩) | (go_at_call 13; have hq := T1; clear hq T1; refine (cR.out _).mono ?_; rintro e w2 ⟨va, rfl, r2, b2⟩) | (go_at_call 13; refine (cR.out _).mono ?_; rintro e w3 ⟨vb, rfl, r3, b3⟩) | (go_at_call 14; have hq := T2; clear hq T2; refine (cS.out _ _ _ (Rg.of_own (row_below r2 b3)) ((Rg.of_own r1).below (b2.trans (b3.mono b2.size)))).mono ?_; rintro e w4 ⟨rfl, b4⟩) | (go_at_call 14; refine (cS.out _ _ _ (Rg.of_own (row_below r3 b4)) (((Rg.of_own r1).below (b2.trans (b3.mono b2.size))).below b4)).mono ?_; rintro e w5 ⟨rfl, b5⟩))
  have HST : Hid (St w l vw vb va l.length w5) := St.first hb0 r1 b1 r2 b2 r3 b3 (b4.trans (b5.mono b4.size))
  obtain ⟨aa, cap, hva, _⟩ := Rg.of_own r2
  obtain ⟨n, hn⟩ : ∃ n, l.length = n := ⟨_, rfl⟩
  rw [hn] at hva HST hl1
  subst hva
  have HN : Hid (l.length = n) := hn
  clear hb0 r1 b1 r2 b2 r3 b3 b4 b5 hn
  go_loopw [6] (fun t wr => ∃ i : Nat, i ≤ n ∧ t = .int .i64 i ∧ Hid (St w l vw vb (.slice aa n cap) n wr)) (fun t _ => n - (intOf t).toNat)
  case atStart => exact ⟨0, Nat.zero_le _, rfl, HST⟩
  case round =>
    obtain ⟨i, hin, rfl, HS⟩ := hrel
    clear HST
    by_cases hlt : i < n
    · obtain ⟨xs, ra⟩ := HS.out.ra
      obtain ⟨g, rfl⟩ : ∃ g, aa = some ⟨g, 0, none⟩ := by
        rcases ra.2 with ⟨_, h0⟩ | ⟨g, c, _, he, _⟩
        · omega
        · cases he; exact ⟨g, rfl⟩
      have hxl : xs.length = n * 2 := ra.1
      have e1 := ra.cellAt (i * 2) (by omega)
      have e2 := ra.cellAt (i * 2 + 1) (by omega)
      rw [List.getElem?_eq_getElem (by omega)] at e1 e2
      have f1 := ra.frozenAt (i * 2)
      have f2 := ra.frozenAt (i * 2 + 1)
      have HS2 : Hid (St w l vw vb (.slice (some ⟨g, 0, none⟩) n cap) n ((wr.setCell ⟨g, i * 2, none⟩ (.int .i32 (-7))).setCell ⟨g, i * 2 + 1, none⟩ (.int .i32 (-9)))) := by
        obtain ⟨r1, g1⟩ := ra.stored (i * 2) (.int .i32 (-7))
        obtain ⟨r2, g2⟩ := r1.stored (i * 2 + 1) (.int .i32 (-9))
        exact (HS.out.step (va' := .slice (some ⟨g, 0, none⟩) n cap) g1 r1 (.inl rfl)).step g2 r2 (.inl rfl)
      generalize xs[i * 2] = u1 at e1
      generalize xs[i * 2 + 1] = u2 at e2
      clear HS ra hxl
      go_wp2
      go_roundw
      case rel => exact ⟨i + 1, by omega, by go_num, HS2⟩
      case measure => simp [intOf]; omega
    · have hd : decide (i < n) = false := decide_eq_false hlt
      go_wp2
      clear hd
      go_loopw [4, 7] (fun v t wr => ∃ j : Nat, j ≤ 9 ∧ t = .int .i64 j ∧ St w l vw vb v (n + j) wr) (fun _ t _ => 9 - (intOf t).toNat)
      case atStart => exact ⟨0, by omega, rfl, HS.out⟩
      case round =>
        obtain ⟨j, hj9, rfl, hst⟩ := hrel
        have HT : Hid _ := hst
        clear HS
        by_cases hj : j < 9
        · obtain ⟨xs, ra⟩ := hst.ra
          have hwb := hst.bel.size
          clear hst
          have ra2 := ra
          rcases ra2.2 with ⟨rfl, h0⟩ | ⟨g, c, cur, rfl, hbg, hg, hnc, hcm, hcs, htk⟩
          · go_wp2_with (at_builtin; refine wpList_append_grows _ rfl _ _ 28 rfl 32 i0 (.agg #[.int .i32 0, .int .i32 0]) 2 8 Try.underlying28 hi hz0 hz1 hz2 rfl (by decide) none 0 0 [] rfl (fun _ => ⟨rfl, rfl⟩) rfl (fun b e => by cases e) ⟨wr.heap.size, 0, none⟩ 1 1 [.int .i32 (-3), .int .i32 0] rfl rfl (cell_two_new _ _ _ _) (by simp [Value.oneCell']) (by omega) (by unfold maxLen; omega) (by omega) ?_; intro v3 w3 hrow3 hg3)
            refine ⟨⟨j + 1, by omega, by go_num, ?_⟩, by simp [intOf]; omega⟩
            have e1 : n + (j + 1) = 0 + 1 := by omega
            rw [e1]
            exact HT.out.step (grown_two hg3 (.inl rfl)) (row_mono hrow3 (by simp; omega)) (.inr fun g e => by have := (hrow3.lt g e).1; simp at this; omega)
          · by_cases hroom : n + j + 1 ≤ c
            · go_wp2_with (at_builtin; refine wpList_append_fits _ rfl _ _ 28 rfl w.heap.size 32 i0 2 Try.underlying28 hi hz1 g (n + j) c xs rfl (ra.alloc _) ⟨wr.heap.size, 0, none⟩ 1 1 [.int .i32 (-3), .int .i32 0] rfl rfl (cell_two_new _ _ _ _) (by simp [Value.oneCell']) hroom ?_; intro w3 hrow3 hg3)
              exact ⟨⟨j + 1, by omega, by go_num, HT.out.step (grown_two hg3 (.inr rfl)) hrow3 (.inl rfl)⟩, by simp [intOf]; omega⟩
            · go_wp2_with (at_builtin; refine wpList_append_grows _ rfl _ _ 28 rfl 32 i0 (.agg #[.int .i32 0, .int .i32 0]) 2 8 Try.underlying28 hi hz0 hz1 hz2 rfl (by decide) (some ⟨g, 0, none⟩) (n + j) c xs rfl (fun e => by cases e) ra.1 (fun b e => by cases e; exact (ra.alloc _).cells rfl) ⟨wr.heap.size, 0, none⟩ 1 1 [.int .i32 (-3), .int .i32 0] rfl rfl (cell_two_new _ _ _ _) (by simp [Value.oneCell']) (by omega) (by unfold maxLen; omega) (by omega) ?_; intro v3 w3 hrow3 hg3)
              exact ⟨⟨j + 1, by omega, by go_num, HT.out.step (grown_two hg3 (.inl rfl)) (row_mono hrow3 (by simp; omega)) (.inr fun g e => by have := (hrow3.lt g e).1; simp at this; omega)⟩, by simp [intOf]; omega⟩
        · have HW : Hid (Rg wr vw l) := Rg.of_own hst.rw
          have HV : Hid (Rg wr vb l) := Rg.of_own hst.rb
          have HB : Hid (Below w.heap.size w wr) := hst.bel
          have T3 : Hid True := trivial
          clear hst HT
          go_wp2_with (first | (go_at_call 14; have hq := T3; clear hq T3; refine (cS.out _ _ _ HV.out HW.out).mono ?_; rintro e w6 ⟨rfl, b6⟩; have HW2 : Hid (Rg w6 vw l) := HW.out.below b6; have HB2 : Hid (Below w.heap.size w w6) := HB.out.trans (b6.mono HB.out.size); clear b6 HW HB HV) | (go_at_call 13; refine (cR.out _).mono ?_; rintro e w7 ⟨vc, rfl, r7, b7⟩; have HV3 : Hid (Rg w7 vc l) := Rg.of_own r7; have HW3 : Hid (Rg w7 vw l) := HW2.out.below b7; have HB3 : Hid (Below w.heap.size w w7) := HB2.out.trans (b7.mono HB2.out.size); clear r7 b7 HW2 HB2) | (go_at_call 14; refine (cS.out _ _ _ HV3.out HW3.out).mono ?_; rintro e w8 ⟨rfl, b8⟩; have HB4 : Hid (Below w.heap.size w w8) := HB3.out.trans (b8.mono HB3.out.size); clear b8 HV3 HW3 HB3) | (go_at_call 8; refine (cC.out _ HB4.out).mono ?_; rintro e w9 ⟨rfl, b9⟩))
          go_ret
          exact ⟨rfl, b9⟩
theorem walk_of (k : Int) (w : World) (_ : -9223372036854775808 ≤ k ∧ k ≤ 9223372036854775807) : Calls Try.prog 4 #[.int .i64 k] w fun e w' => e = .returned (.bool true) ∧ Below w.heap.size w w' := walk k w
end Go.Proofs.Ytjpfnkbkhpeijaa.widthRanges
