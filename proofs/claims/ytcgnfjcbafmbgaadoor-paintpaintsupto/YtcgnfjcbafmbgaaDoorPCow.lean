/-
  The law's own copied, of any frame: the copy lies in blocks that the call has made. Conditions: those of Fs.
-/
import Derived.Test.YtcgnfjcbafmbgaaDoorPCop
namespace Go.Proofs.YtcgnfjcbafmbgaaDoor
open Go.RowKit Go.Shelf Bod Wid
/-- a frame that reads by the blocks from lo to below hi alone -/
def Rds (lo hi : Nat) (v : Value) (f : Fm) (W : World) : Prop := ∀ Z : World, (∀ g, lo ≤ g → g < hi → Z.heap[g]? = W.heap[g]?) → RdFm Z v f
theorem Rds.mv {lo hi : Nat} {v : Value} {f : Fm} {W W' : World} (h : Rds lo hi v f W) (hw : ∀ g, lo ≤ g → g < hi → W'.heap[g]? = W.heap[g]?) : Rds lo hi v f W' := fun Z hZ => h Z fun g h1 h2 => (hZ g h1 h2).trans (hw g h1 h2)
theorem Rds.rd {lo hi : Nat} {v : Value} {f : Fm} {W : World} (h : Rds lo hi v f W) : RdFm W v f := h W fun _ _ _ => rfl
theorem own_mv {W Z : World} {base c n : Nat} {e : TypeId} {v : Value} {xs : List Value} (h : W.ownsRow base e c v n xs) (hz : ∀ g, base ≤ g → g < W.heap.size → Z.heap[g]? = W.heap[g]?) : Z.ownsRow base e c v n xs :=
  ⟨h.1, h.2.imp id fun ⟨g, cap, cur, h1, h2, h3, h4⟩ => ⟨g, cap, cur, h1, h2, (hz g h2 (Array.getElem?_eq_some_iff.1 h3).1).trans h3, h4⟩⟩
set_option maxRecDepth 100000 in
set_option maxHeartbeats 4000000 in
theorem copied_own (hM : Tryd.prog.follows .mixedOrders = true) (v : Value) (f : Fm) (hf : Fs f) (w : World) (h : RdFm w v f) :
    Calls Tryd.prog 14 #[v] w fun e w' => (∃ v', e = .returned v' ∧ Rds w.heap.size w'.heap.size v' f w') ∧ Below w.heap.size w w' := by
  obtain ⟨rv, rfl, h⟩ := h
  obtain ⟨a, k, rfl, hc⟩ := h.get
  obtain ⟨fw, R, fr, fc⟩ := f
  simp only at h hc hf ⊢
  obtain ⟨n, hn⟩ : ∃ n, R.length = n := ⟨_, rfl⟩
  have HM : Hid (Tryd.prog.follows .mixedOrders = true) := hM
  rw [hn]
  go_enter Tryd.func14, Tryd.ntmps14
  go_wp2
  go_loopw [4] (fun t wr => ∃ j : Nat, j ≤ n ∧ t = .int .i64 j ∧ Hid (∃ v, wr.heap[w.heap.size]? = some (.cells #[.int .i64 fw, .slice a n k, .int .i64 fr, .int .i64 fc] 26 (0, 0)) ∧ wr.heap[w.heap.size + 1]? = some (.cells #[.int .i64 0, .slice none 0 0, .int .i64 0, .int .i64 0] 26 (0, 0)) ∧ wr.heap[w.heap.size + 1 + 1]? = some (.cells #[.int .i64 fw, v, .int .i64 fr, .int .i64 fc] 26 (0, 0)) ∧ Cpy w R j v wr)) (fun t _ => n - (intOf t).toNat)
  case atStart =>
    obtain ⟨q0, q1, q2⟩ := push3q w.heap (.cells #[.int .i64 fw, .slice a n k, .int .i64 fr, .int .i64 fc] 26) (.cells #[.int .i64 0, .slice none 0 0, .int .i64 0, .int .i64 0] 26) (.cells #[.int .i64 fw, .slice none 0 0, .int .i64 fr, .int .i64 fc] 26)
    exact ⟨0, Nat.zero_le _, rfl, .slice none 0 0, q0, q1, q2, ⟨(((Below.refl _ w).alloc (Nat.le_refl _) _).alloc (by simp) _).alloc (by simp; omega) _, [], World.ownsRow_nil _ _ _ _, fun i rv l h => by simp at h⟩⟩
  case round =>
    obtain ⟨j, hj, rfl, HB⟩ := hrel
    obtain ⟨v, hf0, hzb, hg0, hcp⟩ := HB.out
    by_cases hlt : j < n
    · obtain ⟨l, hl⟩ : ∃ l, R[j]? = some l := ⟨R[j]'(by rw [hn]; exact hlt), List.getElem?_eq_getElem _⟩
      obtain ⟨g, o, b, m, rfl, hgl, y0, hrd⟩ := hc j l hl
      have hlt' : (j : Int) < (n : Int) := by omega
      obtain ⟨⟨x0, x1, x2, x3⟩, -⟩ := box4 hf0
      obtain ⟨⟨z0, z1, z2, z3⟩, -⟩ := box4 hg0
      replace y0 := (hcp.bel.cell (p := ⟨g, o + j, none⟩) hgl).trans y0
      have HLT : Hid (j < n ∧ n ≤ 2147483648) := ⟨hlt, by rw [← hn]; exact hf.1⟩
      obtain ⟨q, hq⟩ : ∃ q, l.length = q := ⟨_, rfl⟩
      rw [hq] at y0
      obtain ⟨hbel, vs, hown, hrows⟩ := hcp
      obtain ⟨ov, oc, rfl⟩ := own_form hown
      obtain ⟨i0, hi0, hz0, hz1, hz2⟩ := info_parts infoCel
      obtain ⟨i1, hi1, hk0, hk1, hk2⟩ := info_parts infoRow
      have hsz : w.heap.size + 3 ≤ wr.heap.size := (Array.getElem?_eq_some_iff.1 hg0).1
      have hb0 : b = none → q = 0 := fun e => by
        obtain ⟨a', k', e2, hh⟩ := hrd
        injection e2 with e3 e4 e5
        rcases Nat.eq_zero_or_pos q with h0 | h0
        · exact h0
        · obtain ⟨-, g', o', e6, -⟩ := hh (by rintro rfl; simp at hq; omega)
          rw [← e3, e] at e6
          cases e6
      have hnews : ∀ W, Below wr.heap.size wr W → ∀ ad, b = some ad → ∀ j u, (ccL l)[j]? = some u → W.cell? (ad.add j) = some u := fun W hW ad e => by
        subst e
        have hr := (hrd.below (Nat.le_refl _) hbel).below (Nat.le_refl _) hW
        rw [hq] at hr
        rcases Nat.eq_zero_or_pos q with h0 | h0
        · intro j' u hu
          have := (List.getElem?_eq_some_iff.1 hu).1
          rw [ccL_len, hq, h0] at this
          omega
        · obtain ⟨a', k', e2, hh⟩ := id hr
          injection e2 with e3 e4 e5
          obtain ⟨-, g', o', e6, -⟩ := hh (by rintro rfl; simp at hq; omega)
          rw [← e3] at e6
          injection e6 with e6
          subst e6
          exact rd_news hr
      have hlen : (ccL l).length = q * 2 := by rw [ccL_len, hq]
      have hql := (hf.2 l (List.mem_of_getElem? hl)).1
      have hq2 : 0 + q ≤ maxLen := by unfold maxLen; omega
      have hq3 : (0 + q) * 24 ≤ 140737488355328 := by omega
      have hj2 : j + 1 ≤ maxLen := by have := HLT.out; unfold maxLen; omega
      have hj3 : (j + 1) * 24 ≤ 140737488355328 := by have := HLT.out; omega
      have hov : ∀ g, (Value.slice ov j oc).ownBlock = some g → g < wr.heap.size ∧ w.heap.size + 3 ≤ g := fun g e => ⟨(own_blk hown e).2.2, (own_blk hown e).2.1⟩
      have HFC : Hid (∀ W, Far ov j oc wr W → W.cell? ⟨w.heap.size, 1, none⟩ = some (.slice (some ⟨g, o, none⟩) n k) ∧ W.heap[w.heap.size + 1 + 1]? = some (.cells #[.int .i64 fw, .slice ov j oc, .int .i64 fr, .int .i64 fc] 26 (0, 0)) ∧ W.cell? ⟨g, o + j, none⟩ = some (.slice b q m) ∧ W.heap[w.heap.size]? = some (.cells #[.int .i64 fw, .slice (some ⟨g, o, none⟩) n k, .int .i64 fr, .int .i64 fc] 26 (0, 0)) ∧ W.heap[w.heap.size + 1]? = some (.cells #[.int .i64 0, .slice none 0 0, .int .i64 0, .int .i64 0] 26 (0, 0)) ∧ Below w.heap.size w W ∧ w.heap.size + 3 ≤ W.heap.size) := fun W hW => by
        have kp : ∀ g, g < w.heap.size + 3 → W.heap[g]? = wr.heap[g]? := fun g hg => hW.2.2.2.2 g (by omega) (fun e => by have := (hov g e).2; omega)
        have hb1 := (kp w.heap.size (by omega)).trans hf0
        refine ⟨by simp [World.cell?, hb1], (kp _ (by omega)).trans hg0, (World.cell?_of_block (kp g (by omega))).trans y0, hb1, (kp _ (by omega)).trans hzb, ⟨hW.1.trans hbel.os, hW.2.1.trans hbel.tape, hW.2.2.1.trans hbel.output, Nat.le_trans hbel.size hW.2.2.2.1, fun g hg => (kp g (by omega)).trans (hbel.block g hg)⟩, Nat.le_trans hsz hW.2.2.2.1⟩
      have HOV : Hid (wr.ownsRow (w.heap.size + 3) 29 1 (.slice ov j oc) j vs) := hown
      have HRW : Hid (∀ W, Far ov j oc wr W → ∀ (i : Nat) rv l, vs[i]? = some rv → R[i]? = some l → W.ownsRow (w.heap.size + 3) 40 2 rv l.length (ccL l)) := fun W hW i rv l h1 h2 => by
        have hr := hrows i rv l h1 h2
        refine ⟨hr.1, hr.2.imp id fun ⟨g, cap, cur, q1, q2, q3, q4⟩ => ⟨g, cap, cur, q1, q2, (hW.2.2.2.2 g (Array.getElem?_eq_some_iff.1 q3).1 (fun e => ?_)).trans q3, q4⟩⟩
        obtain ⟨cur', hc'⟩ := (own_blk hown e).1
        rw [q3] at hc'
        cases hc'
      obtain ⟨val, HVAL⟩ : ∃ val : Nat → Value, Hid (val 0 = .pointer (some ⟨w.heap.size + 1 + 1, 1, none⟩) ∧ val 1 = .slice ov j oc ∧ val 3 = .pointer (some ⟨w.heap.size, 1, none⟩) ∧ val 4 = .slice (some ⟨g, o, none⟩) n k ∧ val 5 = .int .i64 j ∧ val 6 = .pointer (some ⟨g, o + j, none⟩) ∧ val 7 = .slice b q m ∧ val 11 = .pointer (some ⟨w.heap.size + 1 + 1, 1, none⟩)) := ⟨fun i => if i = 0 then .pointer (some ⟨w.heap.size + 1 + 1, 1, none⟩) else if i = 1 then .slice ov j oc else if i = 3 then .pointer (some ⟨w.heap.size, 1, none⟩) else if i = 4 then .slice (some ⟨g, o, none⟩) n k else if i = 5 then .int .i64 j else if i = 6 then .pointer (some ⟨g, o + j, none⟩) else if i = 7 then .slice b q m else .pointer (some ⟨w.heap.size + 1 + 1, 1, none⟩), rfl, rfl, rfl, rfl, rfl, rfl, rfl, rfl⟩
      go_upto_region 6 with (fail)
      clear hc h x0 x2 x3 z0 z2 z3 hrd
      refine region_inv HM.out (by kernel_rfl) (fun v a' w' => ∃ y : Nat → Value, a' = ⟨#[.agg #[.int .i64 fw, .slice (some ⟨g, o, none⟩) n k, .int .i64 fr, .int .i64 fc], .pointer (some ⟨w.heap.size, 0, none⟩), .pointer (some ⟨w.heap.size + 1, 0, none⟩), .pointer (some ⟨w.heap.size + 1 + 1, 0, none⟩), .int .i64 j, .agg #[.int .i64 fw, .slice (some ⟨g, o, none⟩) n k, .int .i64 fr, .int .i64 fc], .pointer (some ⟨w.heap.size + 1 + 1, 1, none⟩), .int .i64 j, .pointer (some ⟨w.heap.size, 1, none⟩), .slice (some ⟨g, o, none⟩) n k, .int .i64 n, .bool true, u12, u13, y 0, y 1, y 2, y 3, y 4, y 5, y 6, y 7, y 8, y 9, y 10, y 11, undef], []⟩ ∧ Hid (K6 val wr (w.heap.size + 3) ov j oc q l vs (fun z8 z10 W => ∃ Y, Far ov j oc wr Y ∧ Y.ownsRow (w.heap.size + 3) 40 2 z8 q (ccL l) ∧ Y.ownsRow (w.heap.size + 3) 29 1 z10 (j + 1) (vs ++ [z8]) ∧ W = Y.setCell ⟨w.heap.size + 1 + 1, 1, none⟩ z10) (fun k => v.getD k false) y w')) ?start ?step ?fin
      case start =>
        refine ⟨fun i => ([u14, u15, u16, u17, u18, u19, u20, u21, u22, u23, u24, u25] : List Value).getD i undef, by simp, ?_⟩
        exact K6.start (l := l) (fun k => by rw [List.getD_eq_getElem?_getD, List.getElem?_replicate]; split <;> rfl) ⟨rfl, rfl, rfl, Nat.le_refl _, fun _ _ => rfl⟩
      case step =>
        intro i o' v a' w' ho hv hni hop hI
        obtain ⟨y, rfl, HI⟩ := hI
        obtain ⟨hn', hiv⟩ := undone hni
        have hv : v.length = 13 := hv
        have hn : (fun k => v.getD k false) i = false := hn'
        rcases i with _ | _ | _ | _ | _ | _ | _ | _ | _ | _ | _ | _ | _ | i
        · obtain rfl := Option.some.inj ho
          have n12 := HI.out.n12 (i := 0) (by omega) hn
          have HN := HI.out.read (i := 0) (by omega) hn
          rw [← dset_of hiv, HVAL.out.1] at HN
          replace HN : Hid _ := HN
          go_wp2
          exact ⟨updY y 0 (.pointer (some ⟨w.heap.size + 1 + 1, 1, none⟩)), by simp [updY], HN⟩
        · obtain rfl := Option.some.inj ho
          have n12 := HI.out.n12 (i := 1) (by omega) hn
          have e0 := (HI.out.p 0 (by omega) (open_waits hop (by kernel_rfl))).trans HVAL.out.1
          obtain ⟨⟨c0, c1, c2, c3⟩, -⟩ := box4 (HFC.out _ (HI.out.b n12)).2.1
          have HN := HI.out.read (i := 1) (by omega) hn
          rw [← dset_of hiv, HVAL.out.2.1] at HN
          replace HN : Hid _ := HN
          simp only [e0]
          go_wp2
          exact ⟨updY y 1 (.slice ov j oc), by simp [updY, e0], HN⟩
        · obtain rfl := Option.some.inj ho
          have n12 := HI.out.n12 (i := 2) (by omega) hn
          have hws := (HFC.out _ (HI.out.b n12)).2.2.2.2.2.2
          have HN := HI.out.op2 hn (W' := w'.alloc (.cells #[] 40)) (z := .slice (some ⟨w'.heap.size, 0, none⟩) 0 0) ((Below.refl _ w').alloc (Nat.le_refl _) _) (World.ownsRow_lit w' #[] 0 hws (Nat.zero_le _) rfl) (fun g e => by cases e; exact Nat.le_refl _)
          rw [← dset_of hiv] at HN
          replace HN : Hid _ := HN
          go_wp2
          exact ⟨updY y 2 (.slice (some ⟨w'.heap.size, 0, none⟩) 0 0), by simp [updY], HN⟩
        · obtain rfl := Option.some.inj ho
          have n12 := HI.out.n12 (i := 3) (by omega) hn
          have HN := HI.out.read (i := 3) (by omega) hn
          rw [← dset_of hiv, HVAL.out.2.2.1] at HN
          replace HN : Hid _ := HN
          go_wp2
          exact ⟨updY y 3 (.pointer (some ⟨w.heap.size, 1, none⟩)), by simp [updY], HN⟩
        · obtain rfl := Option.some.inj ho
          have n12 := HI.out.n12 (i := 4) (by omega) hn
          have e3 := (HI.out.p 3 (by omega) (open_waits hop (by kernel_rfl))).trans HVAL.out.2.2.1
          have c1 := (HFC.out _ (HI.out.b n12)).1
          have HN := HI.out.read (i := 4) (by omega) hn
          rw [← dset_of hiv, HVAL.out.2.2.2.1] at HN
          replace HN : Hid _ := HN
          simp only [e3]
          go_wp2
          exact ⟨updY y 4 (.slice (some ⟨g, o, none⟩) n k), by simp [updY, e3], HN⟩
        · obtain rfl := Option.some.inj ho
          have n12 := HI.out.n12 (i := 5) (by omega) hn
          have HN := HI.out.read (i := 5) (by omega) hn
          rw [← dset_of hiv, HVAL.out.2.2.2.2.1] at HN
          replace HN : Hid _ := HN
          go_wp2
          exact ⟨updY y 5 (.int .i64 j), by simp [updY], HN⟩
        · obtain rfl := Option.some.inj ho
          have n12 := HI.out.n12 (i := 6) (by omega) hn
          have e4 := (HI.out.p 4 (by omega) (open_waits hop (by kernel_rfl))).trans HVAL.out.2.2.2.1
          have e5 := (HI.out.p 5 (by omega) (open_waits hop (by kernel_rfl))).trans HVAL.out.2.2.2.2.1
          have HN := HI.out.read (i := 6) (by omega) hn
          rw [← dset_of hiv, HVAL.out.2.2.2.2.2.1] at HN
          replace HN : Hid _ := HN
          simp only [e4, e5]
          go_wp2
          exact ⟨updY y 6 (.pointer (some ⟨g, o + j, none⟩)), by simp [updY, e4, e5], HN⟩
        · obtain rfl := Option.some.inj ho
          have n12 := HI.out.n12 (i := 7) (by omega) hn
          have e6 := (HI.out.p 6 (by omega) (open_waits hop (by kernel_rfl))).trans HVAL.out.2.2.2.2.2.1
          have c1 := (HFC.out _ (HI.out.b n12)).2.2.1
          have HN := HI.out.read (i := 7) (by omega) hn
          rw [← dset_of hiv, HVAL.out.2.2.2.2.2.2.1] at HN
          replace HN : Hid _ := HN
          simp only [e6]
          go_wp2
          exact ⟨updY y 7 (.slice b q m), by simp [updY, e6], HN⟩
        · obtain rfl := Option.some.inj ho
          have n12 := HI.out.n12 (i := 8) (by omega) hn
          have d2 : v.getD 2 false = true := open_waits hop (by kernel_rfl)
          have e7 := (HI.out.p 7 (by omega) (open_waits hop (by kernel_rfl))).trans HVAL.out.2.2.2.2.2.2.1
          have n10 : (fun k => v.getD k false) 10 = false := by
            cases e : (fun k => v.getD k false) 10 with
            | false => rfl
            | true => have h8 := HI.out.o9 (HI.out.o10 e); have hn8 : v.getD 8 false = false := hn; have h8 : v.getD 8 false = true := h8; rw [hn8] at h8; cases h8
          have hA := HI.out.a n10
          have hE := HI.out.e d2 hn
          have hws := (HFC.out _ (HI.out.b n12)).2.2.2.2.2.2
          have HSTEP : Hid (∀ a1 c1 w2, w2.ownsRow (w.heap.size + 3) 40 2 (.slice a1 q c1) q (ccL l) → w'.grownBy w2 (y 2).ownBlock → ((Value.slice a1 q c1).ownBlock = (y 2).ownBlock ∨ (Value.slice a1 q c1).ownBlock = some w'.heap.size) → K6 val wr (w.heap.size + 3) ov j oc q l vs (fun z8 z10 W => ∃ Y, Far ov j oc wr Y ∧ Y.ownsRow (w.heap.size + 3) 40 2 z8 q (ccL l) ∧ Y.ownsRow (w.heap.size + 3) 29 1 z10 (j + 1) (vs ++ [z8]) ∧ W = Y.setCell ⟨w.heap.size + 1 + 1, 1, none⟩ z10) (fun k => (v.set 8 true).getD k false) (updY y 8 (.slice a1 q c1)) w2) := fun a1 c1 w2 h1 h2 h3 => by
            have := HI.out.op8 hn d2 h2 h1 h3
            rw [← dset_of hiv] at this
            exact this
          simp only [e7]
          refine wpList_append_row rfl _ _ _ rfl (w.heap.size + 3) 40 i0 _ 2 24 Tryd.underlying29 hi0 hz0 hz1 hz2 rfl (by decide) (y 2) 0 [] rfl hE.1 b q m (ccL l) rfl hlen hb0 (hnews w' hA) ccL_one hq2 hq3 hws ?_
          intro a1 c1 w2 hown2 hg2 hz2'
          rw [Nat.zero_add] at hown2 hz2'
          rw [Nat.zero_add]
          rw [List.nil_append] at hown2
          have HN := HSTEP.out a1 c1 w2 hown2 hg2 hz2'
          replace HN : Hid _ := HN
          go_wp2
          exact ⟨updY y 8 (.slice a1 q c1), by simp [updY, e7], HN⟩
        · obtain rfl := Option.some.inj ho
          have n12 := HI.out.n12 (i := 9) (by omega) hn
          have d8 : v.getD 8 false = true := open_waits hop (by kernel_rfl)
          obtain ⟨r1, -⟩ := HI.out.r d8 n12
          obtain ⟨a8, c8, e8⟩ := own_form r1
          have HN := HI.out.op9 hn d8 (W' := w'.alloc (.cells #[.slice a8 q c8] 29)) (g := w'.heap.size) ((Below.refl _ w').alloc (Nat.le_refl _) _) (Nat.le_refl _) (by rw [e8]; exact World.alloc_heap_new _ _)
          rw [← dset_of hiv] at HN
          replace HN : Hid _ := HN
          clear r1
          simp only [e8]
          go_wp2
          exact ⟨updY y 9 (.slice (some ⟨w'.heap.size, 0, none⟩) 1 1), by simp [updY, e8], HN⟩
        · obtain rfl := Option.some.inj ho
          have n12 := HI.out.n12 (i := 10) (by omega) hn
          have d9 : v.getD 9 false = true := open_waits hop (by kernel_rfl)
          have e1 := (HI.out.p 1 (by omega) (open_waits hop (by kernel_rfl))).trans HVAL.out.2.1
          obtain ⟨g9, -, e9, hb9⟩ := HI.out.s d9 hn
          obtain ⟨r1, -⟩ := HI.out.r (HI.out.o9 d9) n12
          obtain ⟨a8, c8, e8⟩ := own_form r1
          have hA := HI.out.a hn
          have hws := (HFC.out _ (HI.out.b n12)).2.2.2.2.2.2
          have HSTEP : Hid (∀ a1 c1 w2, w2.ownsRow (w.heap.size + 3) 29 1 (.slice a1 (j + 1) c1) (j + 1) (vs ++ [y 8]) → w'.grownBy w2 (Value.slice ov j oc).ownBlock → K6 val wr (w.heap.size + 3) ov j oc q l vs (fun z8 z10 W => ∃ Y, Far ov j oc wr Y ∧ Y.ownsRow (w.heap.size + 3) 40 2 z8 q (ccL l) ∧ Y.ownsRow (w.heap.size + 3) 29 1 z10 (j + 1) (vs ++ [z8]) ∧ W = Y.setCell ⟨w.heap.size + 1 + 1, 1, none⟩ z10) (fun k => (v.set 10 true).getD k false) (updY y 10 (.slice a1 (j + 1) c1)) w2) := fun a1 c1 w2 h1 h2 => by
            have := HI.out.op10 hn d9 (fun g e => (hov g e).1) h2 h1
            rw [← dset_of hiv] at this
            exact this
          simp only [e1, e9]
          refine wpList_append_row rfl _ _ _ rfl (w.heap.size + 3) 29 i1 _ 1 24 Tryd.underlying22 hi1 hk0 hk1 hk2 rfl (by decide) (.slice ov j oc) j vs rfl (own_next HOV.out hA) (some ⟨g9, 0, none⟩) 1 1 [y 8] rfl rfl (fun e => by cases e) (fun ad e => by cases e; exact World.news_of_block hb9) (by intro u hu; rcases List.mem_singleton.1 hu with rfl; rw [e8]; rfl) hj2 hj3 hws ?_
          intro a1 c1 w2 hown2 hg2 _
          have HN := HSTEP.out a1 c1 w2 hown2 hg2
          replace HN : Hid _ := HN
          go_wp2
          exact ⟨updY y 10 (.slice a1 (j + 1) c1), by simp [updY, e1, e9, e8], HN⟩
        · obtain rfl := Option.some.inj ho
          have n12 := HI.out.n12 (i := 11) (by omega) hn
          have HN := HI.out.read (i := 11) (by omega) hn
          rw [← dset_of hiv, HVAL.out.2.2.2.2.2.2.2] at HN
          replace HN : Hid _ := HN
          go_wp2
          exact ⟨updY y 11 (.pointer (some ⟨w.heap.size + 1 + 1, 1, none⟩)), by simp [updY], HN⟩
        · obtain rfl := Option.some.inj ho
          have hall : ∀ i, i < 12 → (fun k => v.getD k false) i = true := by
            intro i hi
            rcases i with _ | _ | _ | _ | _ | _ | _ | _ | _ | _ | _ | _ | i
            · exact open_waits hop (by kernel_rfl)
            · exact open_waits hop (by kernel_rfl)
            · exact open_waits hop (by kernel_rfl)
            · exact open_waits hop (by kernel_rfl)
            · exact open_waits hop (by kernel_rfl)
            · exact open_waits hop (by kernel_rfl)
            · exact open_waits hop (by kernel_rfl)
            · exact open_waits hop (by kernel_rfl)
            · exact open_waits hop (by kernel_rfl)
            · exact open_waits hop (by kernel_rfl)
            · exact open_waits hop (by kernel_rfl)
            · exact open_waits hop (by kernel_rfl)
            · omega
          have e11 := (HI.out.p 11 (by omega) (hall 11 (by omega))).trans HVAL.out.2.2.2.2.2.2.2
          have hu := HI.out.u (hall 10 (by omega)) hn
          obtain ⟨a10, c10, e10⟩ := own_form hu
          have hB := HI.out.b hn
          obtain ⟨⟨c0, c1, c2, c3⟩, f0, f1, f2, f3⟩ := box4 (HFC.out _ hB).2.1
          have HN := HI.out.op12 hall (W' := w'.setCell ⟨w.heap.size + 1 + 1, 1, none⟩ (.slice a10 (j + 1) c10)) ⟨w', hB, (HI.out.r (hall 8 (by omega)) hn).1, hu, by rw [e10]⟩
          rw [← dset_of hiv] at HN
          replace HN : Hid _ := HN
          clear hu c0 c2 c3 f0 f2 f3
          simp only [e11, e10]
          go_wp2
          exact ⟨y, by simp [e11, e10], HN⟩
        · exact absurd ho (by simp)
      case fin =>
        intro v a' w' hv hall hI
        obtain ⟨y, rfl, HI⟩ := hI
        have hv : v.length = 13 := hv
        obtain ⟨Y, hY, hr8, hu, hW⟩ := HI.out.f (of_all hall (by omega))
        obtain ⟨a10, c10, e10⟩ := own_form hu
        obtain ⟨-, hgb, -, hfb, hzb', hbl, hsz'⟩ := HFC.out _ hY
        have HH : Hid (∃ v, w'.heap[w.heap.size]? = some (.cells #[.int .i64 fw, .slice (some ⟨g, o, none⟩) n k, .int .i64 fr, .int .i64 fc] 26 (0, 0)) ∧ w'.heap[w.heap.size + 1]? = some (.cells #[.int .i64 0, .slice none 0 0, .int .i64 0, .int .i64 0] 26 (0, 0)) ∧ w'.heap[w.heap.size + 1 + 1]? = some (.cells #[.int .i64 fw, v, .int .i64 fr, .int .i64 fc] 26 (0, 0)) ∧ Cpy w R (j + 1) v w') := by
          refine ⟨.slice a10 (j + 1) c10, ?_, ?_, ?_, ⟨?_, vs ++ [y 8], ?_, ?_⟩⟩
          · rw [hW, e10]; exact ((gcell Y (w.heap.size + 1 + 1) 1 _).block _ (by omega) (fun e => by have := Option.some.inj e; omega)).trans hfb
          · rw [hW, e10]; exact ((gcell Y (w.heap.size + 1 + 1) 1 _).block _ (by omega) (fun e => by have := Option.some.inj e; omega)).trans hzb'
          · rw [hW, e10]; exact set1 (i := 1) (.slice a10 (j + 1) c10) hgb
          · rw [hW, e10]; exact hbl.setCell (by show w.heap.size ≤ w.heap.size + 1 + 1; omega) _
          · rw [hW]; rw [e10] at hu ⊢; exact own_far hu (gcell Y (w.heap.size + 1 + 1) 1 _) (fun g e1 e2 => by cases e2; have := (own_blk hu e1).2.1; omega)
          · intro i rv l' h1 h2
            have hfar : Y.grownBy w' (some (w.heap.size + 1 + 1)) := by rw [hW]; exact gcell Y (w.heap.size + 1 + 1) 1 _
            have hvl : vs.length = j := by have := hown.1; omega
            by_cases hi : i < j
            · rw [List.getElem?_append_left (by omega)] at h1
              have := HRW.out Y hY i rv l' h1 h2
              exact own_far this hfar (fun g e1 e2 => by cases e2; have := (own_blk this e1).2.1; omega)
            · have hij : i = j := by have := (List.getElem?_eq_some_iff.1 h1).1; simp at this; omega
              subst hij
              rw [List.getElem?_append_right (by omega), hvl, Nat.sub_self] at h1
              obtain rfl : y 8 = rv := by simpa using h1
              obtain rfl : l = l' := Option.some.inj (hl.symm.trans h2)
              rw [hq]
              exact own_far hr8 hfar (fun g e1 e2 => by cases e2; have := (own_blk hr8 e1).2.1; omega)
        clear HI hall hr8 hu hW hgb hfb hzb' hbl
        go_wp2
        exact ⟨⟨j + 1, by have := HLT.out; omega, by first | rw [w64t (by have := HLT.out; omega)] | (simp; done), HH⟩, by have := HLT.out; first | (rw [w64t (by omega)]; simp [intOf]; omega) | (simp [intOf]; omega)⟩
    · obtain rfl : j = n := by omega
      have hd : ¬ (j : Int) < (j : Int) := by omega
      obtain ⟨hbel, vs, hown, hrows⟩ := hcp
      obtain ⟨ov, oc, rfl⟩ := own_form hown
      obtain ⟨⟨x0, x1, x2, x3⟩, -⟩ := box4 hf0
      obtain ⟨⟨z0, z1, z2, z3⟩, -⟩ := box4 hg0
      obtain ⟨⟨y0, y1, y2, y3⟩, g0, g1, g2, g3⟩ := box4 hzb
      have hvl : vs.length = j := by have := hown.1; omega
      have h0 := set1 (i := 0) (.int .i64 fw) hzb
      have h1 := set1 (i := 1) (.slice ov j oc) h0
      have h2 := set1 (i := 2) (.int .i64 fr) h1
      have h3 := set1 (i := 3) (.int .i64 fc) h2
      have hG : wr.grownBy ((((wr.setCell ⟨w.heap.size + 1, 0, none⟩ (.int .i64 fw)).setCell ⟨w.heap.size + 1, 1, none⟩ (.slice ov j oc)).setCell ⟨w.heap.size + 1, 2, none⟩ (.int .i64 fr)).setCell ⟨w.heap.size + 1, 3, none⟩ (.int .i64 fc)) (some (w.heap.size + 1)) := (((gcell wr (w.heap.size + 1) 0 _).trans (gcell _ (w.heap.size + 1) 1 _)).trans (gcell _ (w.heap.size + 1) 2 _)).trans (gcell _ (w.heap.size + 1) 3 _)
      have hne : ∀ (c n : Nat) (e : TypeId) (v : Value) (xs : List Value), wr.ownsRow (w.heap.size + 3) e c v n xs → ((((wr.setCell ⟨w.heap.size + 1, 0, none⟩ (.int .i64 fw)).setCell ⟨w.heap.size + 1, 1, none⟩ (.slice ov j oc)).setCell ⟨w.heap.size + 1, 2, none⟩ (.int .i64 fr)).setCell ⟨w.heap.size + 1, 3, none⟩ (.int .i64 fc)).ownsRow (w.heap.size + 3) e c v n xs := fun _ _ _ _ _ ho => own_far ho hG (fun g e1 e2 => by have := (own_blk ho e1).2.1; have := Option.some.inj e2; omega)
      have hrw : ∀ Z : World, (∀ g, w.heap.size ≤ g → g < ((((wr.setCell ⟨w.heap.size + 1, 0, none⟩ (.int .i64 fw)).setCell ⟨w.heap.size + 1, 1, none⟩ (.slice ov j oc)).setCell ⟨w.heap.size + 1, 2, none⟩ (.int .i64 fr)).setCell ⟨w.heap.size + 1, 3, none⟩ (.int .i64 fc)).heap.size → Z.heap[g]? = ((((wr.setCell ⟨w.heap.size + 1, 0, none⟩ (.int .i64 fw)).setCell ⟨w.heap.size + 1, 1, none⟩ (.slice ov j oc)).setCell ⟨w.heap.size + 1, 2, none⟩ (.int .i64 fr)).setCell ⟨w.heap.size + 1, 3, none⟩ (.int .i64 fc)).heap[g]?) → RdRw Z (.slice ov j oc) R := fun Z hZ => rdrw_own (own_mv (hne _ _ _ _ _ hown) (fun g h1 h2 => hZ g (by omega) h2)) (fun i rv l q1 q2 => own_mv (hne _ _ _ _ _ (hrows i rv l q1 q2)) (fun g h1 h2 => hZ g (by omega) h2)) hn
      have hbl : Below w.heap.size w ((((wr.setCell ⟨w.heap.size + 1, 0, none⟩ (.int .i64 fw)).setCell ⟨w.heap.size + 1, 1, none⟩ (.slice ov j oc)).setCell ⟨w.heap.size + 1, 2, none⟩ (.int .i64 fr)).setCell ⟨w.heap.size + 1, 3, none⟩ (.int .i64 fc)) := (((hbel.setCell (by show w.heap.size ≤ w.heap.size + 1; omega) _).setCell (by show w.heap.size ≤ w.heap.size + 1; omega) _).setCell (by show w.heap.size ≤ w.heap.size + 1; omega) _).setCell (by show w.heap.size ≤ w.heap.size + 1; omega) _
      clear hc h hf hne hG h0 h1 h2
      have HZ : Hid ((∀ Z : World, (∀ g, w.heap.size ≤ g → g < ((((wr.setCell ⟨w.heap.size + 1, 0, none⟩ (.int .i64 fw)).setCell ⟨w.heap.size + 1, 1, none⟩ (.slice ov j oc)).setCell ⟨w.heap.size + 1, 2, none⟩ (.int .i64 fr)).setCell ⟨w.heap.size + 1, 3, none⟩ (.int .i64 fc)).heap.size → Z.heap[g]? = ((((wr.setCell ⟨w.heap.size + 1, 0, none⟩ (.int .i64 fw)).setCell ⟨w.heap.size + 1, 1, none⟩ (.slice ov j oc)).setCell ⟨w.heap.size + 1, 2, none⟩ (.int .i64 fr)).setCell ⟨w.heap.size + 1, 3, none⟩ (.int .i64 fc)).heap[g]?) → RdRw Z (.slice ov j oc) R) ∧ Below w.heap.size w ((((wr.setCell ⟨w.heap.size + 1, 0, none⟩ (.int .i64 fw)).setCell ⟨w.heap.size + 1, 1, none⟩ (.slice ov j oc)).setCell ⟨w.heap.size + 1, 2, none⟩ (.int .i64 fr)).setCell ⟨w.heap.size + 1, 3, none⟩ (.int .i64 fc)) ∧ ((((wr.setCell ⟨w.heap.size + 1, 0, none⟩ (.int .i64 fw)).setCell ⟨w.heap.size + 1, 1, none⟩ (.slice ov j oc)).setCell ⟨w.heap.size + 1, 2, none⟩ (.int .i64 fr)).setCell ⟨w.heap.size + 1, 3, none⟩ (.int .i64 fc)).heap[w.heap.size + 1]? = some (.cells #[.int .i64 fw, .slice ov j oc, .int .i64 fr, .int .i64 fc] 26 (0, 0))) := ⟨hrw, hbl, by simpa using h3⟩
      clear hrw hbl h3 hrows hown
      go_wp2
      obtain ⟨⟨c0, c1, c2, c3⟩, -⟩ := box4 HZ.out.2.2
      exact bodyPost_ret (v := .agg #[.int .i64 fw, .slice ov j oc, .int .i64 fr, .int .i64 fc]) (by simp [results, Tryd.results14, go_sem, c0, c1, c2, c3]) rfl ⟨⟨_, rfl, fun Z hZ => ⟨_, rfl, HZ.out.1 Z hZ⟩⟩, HZ.out.2.1⟩
end Go.Proofs.YtcgnfjcbafmbgaaDoor
