/-
  The walk of the law WordSpans: for every list of texts it returns true: Spans answers as the document's own copy says, and what is written into one answer is not seen in another. Conditions: the texts are so short that their lists can be made; the two tables of unicode/utf8 lie as their text lays them.
-/
import Derived.Test.YtoijjkbnmicadaaDoorWRefE
import Derived.Test.YtoijjkbnmicadaaDoorWLaw
import Derived.Test.YtoijjkbnmicadaaDoorUTexts
namespace Go.Proofs.YtoijjkbnmicadaaDoor.wordSpans
open Go.RowKit Go.Sort Bod Wid

theorem ex_trans {X Y Z : World} {r r' : Option Nat} (h : X.grownBy Y r) (k : Y.grownBy Z r') (hr : r' = none ∨ r' = r ∨ ∃ g, r' = some g ∧ X.heap.size ≤ g) : X.grownBy Z r :=
  ⟨k.os.trans h.os, k.tape.trans h.tape, k.output.trans h.output, Nat.le_trans h.size k.size, fun j hj hne => (k.block j (Nat.lt_of_lt_of_le hj h.size) (fun e => by
    rcases hr with e2 | e2 | ⟨g, e2, hg⟩
    · rw [e2] at e; cases e
    · rw [e2] at e; exact hne e
    · rw [e2] at e; cases e; omega)).trans (h.block j hj hne)⟩
/-- while a is written: the row of a, and all else as it was at X -/
structure AS (X : World) (B : Nat) (va v : Value) (n : Nat) (W : World) : Prop where
  row : ∃ xs, W.ownsRow B 32 2 v n xs
  gr : X.grownBy W va.ownBlock
  own : v.ownBlock = none ∨ v.ownBlock = va.ownBlock ∨ ∃ g, v.ownBlock = some g ∧ X.heap.size ≤ g
theorem AS.slice {X : World} {B : Nat} {va v : Value} {n : Nat} {W : World} (h : AS X B va v n W) : ∃ a cap, v = .slice a n cap := by
  obtain ⟨xs, h⟩ := h.row
  rcases h.2 with ⟨h0, h1⟩ | ⟨g, cap, cur, hv, _⟩
  · exact ⟨_, _, by rw [h0, h1]⟩
  · exact ⟨_, _, hv⟩
theorem AS.set {X : World} {B : Nat} {va v : Value} {n k : Nat} {W : World} {g : Nat} (h : AS X B va v n W) (hg : v.ownBlock = some g) (u u' : Value) : AS X B va v n ((W.setCell ⟨g, k * 2, none⟩ u).setCell ⟨g, k * 2 + 1, none⟩ u') := by
  obtain ⟨⟨xs, hr⟩, h2, h3⟩ := h
  refine ⟨⟨_, row_set (row_set hr hg u) hg u'⟩, ex_trans (ex_trans h2 (gcell W g _ u) ?_) (gcell _ g _ u') ?_, h3⟩
  all_goals
    rw [← hg]
    rcases h3 with e | e | e
    · exact .inl e
    · exact .inr (.inl e)
    · exact .inr (.inr e)
theorem AS.frz {X : World} {B : Nat} {va v : Value} {n k : Nat} {W : World} {g : Nat} (h : AS X B va v n W) (hg : v.ownBlock = some g) (hk : k < n) : W.frozen? ⟨g, k * 2, none⟩ = false ∧ W.frozen? ⟨g, k * 2 + 1, none⟩ = false ∧ (∃ x, W.cell? ⟨g, k * 2, none⟩ = some x) ∧ ∃ x, W.cell? ⟨g, k * 2 + 1, none⟩ = some x := by
  obtain ⟨⟨xs, hr⟩, _, _⟩ := h
  have hl := hr.1
  rcases hr.2 with ⟨h0, _⟩ | ⟨g', cap, cur, hv, hb, hgb, hnc, hcm, hcs, ht⟩
  · rw [h0] at hg; cases hg
  · have e1 : g' = g := by rw [hv] at hg; exact Option.some.inj hg
    subst e1
    have s1 : k * 2 < cur.size := by rw [hcs]; omega
    have s2 : k * 2 + 1 < cur.size := by rw [hcs]; omega
    refine ⟨by simp [World.frozen?, hgb], by simp [World.frozen?, hgb], ⟨cur[k * 2], by simp [World.cell?, hgb, s1]⟩, ⟨cur[k * 2 + 1], by simp [World.cell?, hgb, s2]⟩⟩
theorem AS.push {X : World} {B : Nat} {va v v' : Value} {n : Nat} {W W' : World} {o : Obj} {ys : List Value} (h : AS X B va v n W) (hg : (W.alloc o).grownBy W' v.ownBlock) (hr : W'.ownsRow B 32 2 v' (n + 1) ys) (hob : v'.ownBlock = v.ownBlock ∨ v'.ownBlock = some (W.alloc o).heap.size) : AS X B va v' (n + 1) W' := by
  obtain ⟨_, h2, h3⟩ := h
  refine ⟨⟨_, hr⟩, ex_trans (ex_trans h2 (World.grownBy_alloc W o none) (.inl rfl)) hg h3, ?_⟩
  rcases hob with e | e
  · rw [e]; exact h3
  · exact .inr (.inr ⟨_, e, by have := h2.size; simp; omega⟩)

theorem row_sl {W : World} {B n : Nat} {v : Value} {xs : List Value} (h : W.ownsRow B 32 2 v n xs) : ∃ a cap, v = .slice a n cap := by
  rcases h.2 with ⟨h0, h1⟩ | ⟨g, cap, cur, hv, _⟩
  · exact ⟨_, _, by rw [h0, h1]⟩
  · exact ⟨_, _, hv⟩
theorem row_bel {W W' : World} {B n : Nat} {v : Value} {xs : List Value} (h : W.ownsRow B 32 2 v n xs) (hb : Below W.heap.size W W') : W'.ownsRow B 32 2 v n xs :=
  h.kept ⟨hb.os, hb.tape, hb.output, hb.size, fun k hk _ => hb.block k hk⟩ (row := none) (by cases v.ownBlock <;> simp)
set_option maxRecDepth 100000 in
set_option maxHeartbeats 4000000 in
theorem walk (a0 : Option Addr) (len cap : Nat) (ss : List ByteArray) (w : World) (hS : Texts w a0 len ss) (hlen : len ≤ 1048576) (hsz : ∀ s ∈ ss, s.size ≤ 1048576) (hT : Lib.Utf8Tabs 1 2 w) (hlo0 : 1 < w.heap.size) (hlo1 : 2 < w.heap.size) :
    Calls Tryd.prog 4 #[.slice a0 len cap] w fun e w' => e = .returned (.bool true) ∧ Below w.heap.size w w' := by
  have cA := awake_any w hT hlo0 hlo1
  have TT : Hid (∀ W, Below w.heap.size w W → Lib.Utf8Tabs 1 2 W ∧ 1 < W.heap.size ∧ 2 < W.heap.size) := fun W hb => ⟨tabs_below hT hb, Nat.lt_of_lt_of_le hlo0 hb.size, Nat.lt_of_lt_of_le hlo1 hb.size⟩
  have HS : Hid (Texts w a0 len ss) := hS
  have HZ : Hid (∀ s ∈ ss, s.size ≤ 1048576) := hsz
  obtain ⟨i0, hi, hz0, hz1, hz2⟩ := info_parts info_span
  clear hS hsz hT hlo0 hlo1
  go_enter Tryd.func4, Tryd.ntmps4
  go_wp2_with (go_at_call 9; refine cA.mono ?_; clear cA; rintro e w0 ⟨rfl, hb0⟩)
  go_loopw [3] (fun t wr => ∃ k : Nat, t = .int .i64 k ∧ k ≤ len ∧ Below w.heap.size w wr) (fun t _ => len - (intOf t).toNat)
  case atStart => exact ⟨0, rfl, Nat.zero_le _, hb0⟩
  case round =>
    obtain ⟨k, rfl, hk, hB⟩ := hrel
    clear hb0
    by_cases hlt : k < len
    · obtain ⟨hS1, hS2⟩ := HS.out
      obtain ⟨b, o, rfl, hbl, hcs⟩ := hS2 (by omega)
      obtain ⟨s, hs⟩ : ∃ s, ss.getD k ByteArray.empty = s := ⟨_, rfl⟩
      have hsm : s ∈ ss := by
        rw [← hs, List.getD, List.getElem?_eq_getElem (show k < ss.length by omega)]
        exact List.getElem_mem _
      have hsz := HZ.out s hsm
      have HT1 : Hid (∀ W, Below w.heap.size w W → W.cell? ⟨b, o + k, none⟩ = some (.string s)) := fun W hW => by rw [← hs]; exact (hW.cell (p := ⟨b, o + k, none⟩) hbl).trans (hcs k hlt)
      have hcell := HT1.out wr hB
      have hwl := words_len s
      have cR := rspans_any s (by omega) wr
      have CSp : Hid (∀ W, Below w.heap.size w W → Calls Tryd.prog 17 #[.string s] W fun e W' => ∃ v, e = .returned v ∧ W'.ownsRow W.heap.size 32 2 v (words s).length (spc (words s)) ∧ Below W.heap.size W W') := fun W hW => by
        obtain ⟨t1, t2, t3⟩ := TT.out W hW
        exact spans_any s (by unfold maxLen; omega) (by omega) W t1 t2 t3
      have CSm : Hid (∀ v1 v2 W, Rd2 W v1 (words s) → Rd2 W v2 (words s) → Calls Tryd.prog 18 #[v1, v2] W fun e w' => e = .returned (.bool true) ∧ Below W.heap.size W w') := fun v1 v2 W h1 h2 => same_any (by omega) h1 h2
      generalize words s = ws at cR CSp CSm hwl
      have HB : Hid (Below w.heap.size w wr) := hB
      clear hs hsm hcs hS1 hS2 hB
      go_wp2_with (first | (go_at_call 16; refine cR.mono ?_; clear cR; rintro e w1 ⟨vw, rfl, rw1, hb1⟩; have HB1 : Hid (Below w.heap.size w w1) := HB.out.trans (hb1.mono HB.out.size); have c1 := HT1.out w1 HB1.out; have HW1 : Hid (w1.ownsRow wr.heap.size 32 2 vw ws.length (spc ws)) := rw1; clear rw1 hb1) | (go_at_call 17; guard_target = Calls _ _ _ w1 _; refine (CSp.out w1 HB1.out).mono ?_; rintro e w2 ⟨va, rfl, ra2, hb2⟩; obtain ⟨aa, ca, rfl⟩ := row_sl ra2; have HB2 : Hid (Below w.heap.size w w2) := HB1.out.trans (hb2.mono HB1.out.size); have HK2 : Hid (Below w1.heap.size w1 w2) := hb2; have c2 := HT1.out w2 HB2.out; have HA2 : Hid (w2.ownsRow w1.heap.size 32 2 (.slice aa ws.length ca) ws.length (spc ws)) := ra2; clear ra2 hb2) | (go_at_call 17; guard_target = Calls _ _ _ w2 _; refine (CSp.out w2 HB2.out).mono ?_; rintro e w3 ⟨vb, rfl, rb3, hb3⟩; have HB3 : Hid (Below w.heap.size w w3) := HB2.out.trans (hb3.mono HB2.out.size); have HK3 : Hid (Below w2.heap.size w2 w3) := hb3; have HB3' : Hid (w3.ownsRow w2.heap.size 32 2 vb ws.length (spc ws)) := rb3; clear rb3 hb3) | (go_at_call 18; guard_target = Calls _ _ _ w3 _; refine (CSm.out _ _ w3 (Rd2.of_row (row_bel HA2.out HK3.out)) (Rd2.of_row (row_bel HW1.out (HK2.out.trans (HK3.out.mono HK2.out.size))))).mono ?_; rintro e w4 ⟨rfl, hb4⟩))
      -- all three lists at w4
      have hw4 : Below w1.heap.size w1 w4 := HK2.out.trans ((HK3.out.trans (hb4.mono HK3.out.size)).mono HK2.out.size)
      have A4 : w4.ownsRow w1.heap.size 32 2 (.slice aa ws.length ca) ws.length (spc ws) := row_bel HA2.out (HK3.out.trans (hb4.mono HK3.out.size))
      have B4 : w4.ownsRow w2.heap.size 32 2 vb ws.length (spc ws) := row_bel HB3'.out hb4
      have W4 : w4.ownsRow wr.heap.size 32 2 vw ws.length (spc ws) := row_bel HW1.out hw4
      have hva : ∀ g, (Value.slice aa ws.length ca).ownBlock = some g → w1.heap.size ≤ g ∧ g < w2.heap.size := fun g hg => HA2.out.lt g hg
      have hs1 := HB1.out.size
      have FIN : Hid (∀ W, w4.grownBy W (Value.slice aa ws.length ca).ownBlock → Rd2 W vb ws ∧ Rd2 W vw ws ∧ Below w.heap.size w W) := fun W hg => by
        have hB4 := HB3.out.trans (hb4.mono HB3.out.size)
        refine ⟨Rd2.of_row (B4.kept hg ?_), Rd2.of_row (W4.kept hg ?_), hB4.grown hg hB4.size (fun j e => by have := (hva j e).1; omega)⟩
        · cases hq : vb.ownBlock with
          | none => exact .inl rfl
          | some g => exact .inr fun e => by have h1 := (B4.lt g hq).1; have h2 := (hva g e.symm).2; omega
        · cases hq : vw.ownBlock with
          | none => exact .inl rfl
          | some g => exact .inr fun e => by have h1 := (HW1.out.lt g hq).2; have h2 := (hva g e.symm).1; omega
      have HA0 : Hid (AS w4 w1.heap.size (.slice aa ws.length ca) (.slice aa ws.length ca) ws.length w4) := ⟨⟨_, A4⟩, ⟨rfl, rfl, rfl, Nat.le_refl _, fun _ _ _ => rfl⟩, .inr (.inl rfl)⟩
      have hw14 := hw4.size
      clear hw4 A4 B4 W4 hva HA2 HB3' HW1 HK2 HK3 HB1 HB2 HB3 c1 c2 hb4 HB
      go_loopw [7] (fun t wx => ∃ j : Nat, t = .int .i64 j ∧ j ≤ ws.length ∧ AS w4 w1.heap.size (.slice aa ws.length ca) (.slice aa ws.length ca) ws.length wx) (fun t _ => ws.length - (intOf t).toNat)
      case atStart => exact ⟨0, rfl, Nat.zero_le _, HA0.out⟩
      case round =>
        clear HA0
        obtain ⟨j, rfl, hj, hA⟩ := hrel
        by_cases hjl : j < ws.length
        · obtain ⟨g, ga, hga⟩ : ∃ g, aa = some ⟨g, 0, none⟩ ∧ (Value.slice aa ws.length ca).ownBlock = some g := by
            obtain ⟨⟨xs, hr⟩, _, _⟩ := hA
            rcases hr.2 with ⟨h0, h1⟩ | ⟨g, cap', cur, hv, _⟩
            · omega
            · cases hv; exact ⟨g, rfl, rfl⟩
          subst ga
          obtain ⟨f0, f1, ⟨x0, d0⟩, ⟨x1, d1⟩⟩ := hA.frz hga hjl
          have HA1 := fun u u' => hA.set (k := j) hga u u'
          have HA2 : Hid (∀ u u', AS w4 w1.heap.size (.slice (some ⟨g, 0, none⟩) ws.length ca) (.slice (some ⟨g, 0, none⟩) ws.length ca) ws.length ((wr.setCell ⟨g, j * 2, none⟩ u).setCell ⟨g, j * 2 + 1, none⟩ u')) := HA1
          have hjl' : (j : Int) < ws.length := by omega
          clear HA1 hA hga FIN CSp CSm
          go_wp2
          exact ⟨⟨j + 1, by first | rfl | simp, by omega, HA2.out _ _⟩, by simp [intOf]; omega⟩
        · have hjl' : ¬ ((j : Int) < ws.length) := by omega
          have HA1 : Hid (AS w4 w1.heap.size (.slice aa ws.length ca) (.slice aa ws.length ca) ws.length wr) := hA
          clear hA
          go_wp2
          go_loopw [8, 5] (fun t8 t5 wx => ∃ (i : Nat), t8 = .int .i64 i ∧ i ≤ 9 ∧ AS w4 w1.heap.size (.slice aa ws.length ca) t5 (ws.length + i) wx) (fun t8 _ _ => 9 - (intOf t8).toNat)
          case atStart => exact ⟨0, rfl, by omega, HA1.out⟩
          case round =>
            clear HA1
            obtain ⟨i, rfl, hi9, hA⟩ := hrel
            obtain ⟨a5, c5, rfl⟩ := hA.slice
            by_cases hi10 : i < 9
            · obtain ⟨xs, hrow⟩ := hA.row
              have hml : ws.length + i + 1 ≤ maxLen := by unfold maxLen; omega
              have hbl : (ws.length + i + 1) * 16 ≤ 140737488355328 := by omega
              have HA3 : Hid (AS w4 w1.heap.size (.slice aa ws.length ca) (.slice a5 (ws.length + i) c5) (ws.length + i) wr) := hA
              have hws : w1.heap.size ≤ wr.heap.size := Nat.le_trans hw14 hA.gr.size
              have hi9' : (i : Int) < 9 := by omega
              clear hA FIN CSp CSm
              go_wp2_with (at_builtin; refine wpList_append_own_at _ rfl _ _ 28 rfl w1.heap.size 32 i0 _ 2 16 Tryd.underlying28 hi hz0 hz1 hz2 rfl (by decide) _ _ _ rfl (hrow.alloc _) ⟨wr.heap.size, 0, none⟩ 1 1 [.int .i64 (-2), .int .i64 0] rfl rfl (World.news_of_block (World.alloc_heap_new wr _)) (by simp [Value.oneCell']) hml hbl (by simp; omega) ?_; intro v' w5 hown' hgrow _ hob)
              exact ⟨⟨i + 1, by first | rfl | simp, by omega, HA3.out.push hgrow hown' hob⟩, by simp [intOf]; omega⟩
            · have hi9' : ¬ ((i : Int) < 9) := by omega
              obtain ⟨r1, r2, hBx⟩ := FIN.out wr hA.gr
              have cS1 := CSm.out vb vw wr r1 r2
              have CS2 : Hid (∀ W, Below wr.heap.size wr W → W.cell? ⟨b, o + k, none⟩ = some (.string s) ∧ Calls Tryd.prog 17 #[.string s] W fun e W' => ∃ v, e = .returned v ∧ Rd2 W' v ws ∧ Rd2 W' vw ws ∧ Below w.heap.size w W') := fun W hW => by
                have hB2 := hBx.trans (hW.mono hBx.size)
                refine ⟨HT1.out W hB2, (CSp.out W hB2).mono ?_⟩
                rintro e W' ⟨v, h1, h2, h3⟩
                exact ⟨v, h1, Rd2.of_row h2, (r2.below hW).below h3, hB2.trans (h3.mono hB2.size)⟩
              clear hA FIN CSp r1 r2 HT1
              go_wp2_with (first | (go_at_call 18; refine cS1.mono ?_; clear cS1; rintro e w5 ⟨rfl, hb5⟩; obtain ⟨c5', cS2⟩ := CS2.out w5 hb5; clear CS2 hb5) | (go_at_call 17; refine cS2.mono ?_; clear cS2; rintro e w6 ⟨v6, rfl, r3, r4, hb6⟩; have cS3 := CSm.out v6 vw w6 r3 r4; clear r3 r4 CSm) | (go_at_call 18; refine cS3.mono ?_; clear cS3; rintro e w7 ⟨rfl, hb7⟩))
              exact ⟨⟨k + 1, by first | rfl | simp, by omega, hb6.trans (hb7.mono hb6.size)⟩, by simp [intOf]; omega⟩
    · go_wp2
      go_ret
      exact ⟨rfl, hB⟩
theorem walk_of {H : Type} {d : DataW H} (a0 : Option Addr) (len cap : Nat) (w : World) (hT : Lib.Utf8Tabs 1 2 w) (hlo0 : 1 < w.heap.size) (hlo1 : 2 < w.heap.size) (ss : List ByteArray) (hS : Texts w a0 len ss) (hu : len ≤ Rows.uptoBulk d ∧ ∀ s ∈ ss, s.size ≤ Rows.uptoBulk d) (hk : Rows.uptoSmall H ([d] ++ []) = true) :
    Calls Tryd.prog 4 #[.slice a0 len cap] w fun e w' => e = .returned (.bool true) ∧ Below w.heap.size w w' := by
  have h : Rows.uptoBulkAll ([d] ++ []) ≤ 1048576 := of_decide_eq_true hk
  simp only [List.append_nil, Rows.uptoBulkAll] at h
  exact walk a0 len cap ss w hS (by omega) (fun s hs => by have := hu.2 s hs; omega) hT hlo0 hlo1
end Go.Proofs.YtoijjkbnmicadaaDoor.wordSpans
