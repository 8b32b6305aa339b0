/-
  The walk of the law RingPlays: any calls of a ring, one behind the other, and of clones. Conditions: what the law reads is of at most 1048576 values and letters.
-/
import Derived.Test.YtihagjkdghbkdaaJPlay
import Derived.Test.YtihagjkdghbkdaaJKls
import Derived.Test.YtihagjkdghbkdaaUJop
namespace Go.Proofs.Ytihagjkdghbkdaa
open Go.RowKit

theorem unLO : Try.prog.underlying 22 = some (.slice (Try.prog.elem 22)) := by kernel_rfl
theorem szLO (W : World) : (sizeOf (Try.prog.elem 22)).run Try.prog W = .ok 2 W := by kernel_rfl
/-- a piece of a list of calls -/
theorem run_ops {w : World} {a : Option Addr} {n c lo hi : Nat} {os : List (Nat × ByteArray)} (h : RdO w (.slice a n c) os) (h0 : os ≠ []) (h1 : lo ≤ hi) (h2 : hi ≤ n) :
    ∃ a3 c3, (∀ W, (Instr.sliceAt 22 (.slice a n c) (some (.int .i64 (lo : Int))) (some (.int .i64 (hi : Int))) none).run Try.prog W = .ok (.slice a3 (hi - lo) c3) W) ∧ RdO w (.slice a3 (hi - lo) c3) ((os.drop lo).take (hi - lo)) := by
  obtain ⟨_, _, e, hr⟩ := id h
  obtain ⟨ea, en, ec⟩ := Value.slice.inj e
  obtain ⟨hle, g, o, eg, hg, hc⟩ := hr h0
  rw [← ea] at eg
  subst eg ea en ec
  refine ⟨if c = lo then some ⟨g, o, none⟩ else some ⟨g, o + lo * 2, none⟩, c - lo, fun W => ?_, ?_⟩
  · rw [run_sliceAt_slice _ _ _ _ _ _ unLO, run_slice_lh _ _ _ _ _ unLO _ _ _ _ (by omega) (by omega) (by omega), szLO]
    simp only [Result.andThen, sliced, Int.toNat_natCast, Option.map_some]
    split
    · rfl
    · rw [Go.WideShapes.add_plain]
  · have hlen : ((os.drop lo).take (hi - lo)).length = hi - lo := by rw [List.length_take, List.length_drop]; omega
    refine ⟨_, c - lo, by rw [hlen], fun h3 => ⟨by rw [hlen]; omega, g, o + lo * 2, ?_, hg, fun k q hk => ?_⟩⟩
    · rw [if_neg]
      intro e
      apply h3
      exact List.eq_nil_of_length_eq_zero (by rw [hlen]; omega)
    · have hk2 : k < hi - lo := by rw [← hlen]; exact (List.getElem?_eq_some_iff.1 hk).1
      rw [List.getElem?_take_of_lt hk2, List.getElem?_drop] at hk
      have := hc _ q hk
      rw [show o + (lo + k) * 2 = o + lo * 2 + k * 2 by omega] at this
      exact this
/-- the cells of a call, whoever reads them -/
theorem RdO.at {w W : World} {a : Option Addr} {n c : Nat} {os : List (Nat × ByteArray)} (h : RdO w (.slice a n c) os) (hb : Below w.heap.size w W) {k : Nat} {q : Nat × ByteArray} (hk : os[k]? = some q) : ∃ g o, a = some ⟨g, o, none⟩ ∧ W.cell? ⟨g, o + k * 2, none⟩ = some (.int .u8 (q.1 : Int)) ∧ W.cell? ⟨g, o + k * 2 + 1, none⟩ = some (.string q.2) := by
  obtain ⟨_, _, e, hr⟩ := h.below (Nat.le_refl _) hb
  cases e
  obtain ⟨_, g, o, e, hg, hc⟩ := hr (fun e => by rw [e] at hk; cases hk)
  exact ⟨g, o, e, hc k q hk⟩

set_option maxRecDepth 100000 in
set_option maxHeartbeats 4000000 in
theorem walk_of (b : Int) (oa : Option Addr) (on oc : Nat) (w : World) (hb : -9223372036854775808 ≤ b ∧ b ≤ 9223372036854775807) (os : List (Nat × ByteArray)) (hO : RdO w (.slice oa on oc) os) (ho : oqs os ≤ 1048576 ∧ ∀ q ∈ os, q.1 < 256) :
    Calls Try.prog 3 #[.int .i64 b, .slice oa on oc] w fun e w' => e = .returned (.bool true) ∧ Below w.heap.size w w' := by
  have CK := kills_any w
  have hN2 : os.length = on := by obtain ⟨_, _, e, _⟩ := hO; cases e; rfl
  have hol := oqs_len os
  have hon : on ≤ 1048576 := by omega
  have HO : Hid (RdO w (.slice oa on oc) os) := hO
  have HF : Hid (os.length = on ∧ (∀ q ∈ os, q.1 < 256 ∧ q.2.size ≤ 1048576)) := ⟨hN2, fun q hq => ⟨ho.2 q hq, by have := oqs_mem hq; omega⟩⟩
  have hpn : ∀ a w, (binOp .eql 24 (.pointer (some a)) (.pointer none)).run Try.prog w = .ok (.bool false) w := fun a w => by kernel_rfl
  have C1 : Hid (∀ W, Below w.heap.size w W → Calls Try.prog 10 #[.int .i64 b] W fun e W' => ∃ pb, e = .returned (.pointer (some ⟨pb, 0, none⟩)) ∧ Hid (Pr W' w.heap.size pb (.slice none 0 0) (Rg.new b) ∧ Below w.heap.size w W')) := fun W hW => (new_any hb W w.heap.size hW.size).mono (by
    rintro e W' ⟨rfl, q1, q2⟩
    exact ⟨_, rfl, q1, hW.trans (q2.mono hW.size)⟩)
  have C2 : Hid (∀ W pb, (Pr W w.heap.size pb (.slice none 0 0) (Rg.new b) ∧ Below w.heap.size w W) → Calls Try.prog 11 #[.int .i64 b] W fun e W' => ∃ rb, e = .returned (.pointer (some ⟨rb, 0, none⟩)) ∧ Hid (Pq w pb rb (Rg.new b) 0 W')) := fun W pb hW => (rnew_any hb W w.heap.size hW.2.size).mono (by
    rintro e W' ⟨rfl, q1, q2⟩
    exact ⟨_, rfl, ⟨⟨_, _, hW.1.below q2, q1, fun g e => by cases e⟩, hW.2.trans (q2.mono hW.2.size), fun s hs => by cases hs⟩⟩)
  clear hO ho hN2 hol
  go_enter Try.func3, Try.ntmps3
  go_wp2_with (first
    | (go_at_call 9; refine CK.mono ?_; clear CK; rintro e w1 ⟨rfl, hb1⟩; have HB1 : Hid (Below w.heap.size w w1) := hb1; clear hb1)
    | (go_at_call 10; refine (C1.out _ HB1.out).mono ?_; clear C1; rintro e w2 ⟨pb, rfl, H2⟩)
    | (go_at_call 11; refine (C2.out _ _ H2.out).mono ?_; clear C2; rintro e w3 ⟨rb, rfl, H3⟩)
    | (go_at_call 12; refine (agree_any H3.out (by omega)).mono ?_; rintro e w4 ⟨rfl, h4⟩; have H4 : Hid (Pq w pb rb (Rg.new b) 0 w4) := h4; clear h4 H3 H2 HB1))
  go_loopw [29] (fun t29 wr => ∃ k : Nat, k ≤ on ∧ t29 = .int .i64 k ∧ Hid (∃ r, Pq w pb rb r k wr)) (fun t29 _ => on - (intOf t29).toNat)
  case atStart => exact ⟨0, Nat.zero_le _, rfl, _, H4.out⟩
  case round =>
    obtain ⟨k, hk, rfl, HP⟩ := hrel
    clear H4
    by_cases hlt : k < on
    · obtain ⟨q, hq⟩ : ∃ q, os[k]? = some q := ⟨os[k]'(by rw [HF.out.1]; exact hlt), List.getElem?_eq_getElem _⟩
      obtain ⟨r, hpl⟩ := HP.out
      obtain ⟨g, o, eoa, c0, c1⟩ := HO.out.at hpl.bel hq
      subst eoa
      have hqf := HF.out.2 q (List.mem_of_getElem? hq)
      have HSL : Hid (os ≠ []) := fun e => by rw [e] at hq; cases hq
      obtain ⟨kd, t⟩ := q
      simp only at c0 c1 hqf
      have hkd : (kd : Int) < 256 := by omega
      have CPl : Hid (∀ W, Pq w pb rb r k W → Calls Try.prog 15 #[.pointer (some ⟨pb, 0, none⟩), .pointer (some ⟨rb, 0, none⟩), .agg #[.int .u8 (kd : Int), .string t]] W fun e W' => e = .returned (.bool true) ∧ ∃ r', Hid (Pq w pb rb r' (k + 1) W')) := fun W h => play_any h hqf.1 (by omega) hqf.2
      have HX : Hid (Pq w pb rb r k (wr.alloc (.cells #[.int .u8 (kd : Int), .string t] 30)) ∧ (wr.alloc (.cells #[.int .u8 (kd : Int), .string t] 30)).heap[wr.heap.size]? = some (.cells #[.int .u8 (kd : Int), .string t] 30 (0, 0))) := ⟨hpl.below ((Below.refl _ wr).alloc (Nat.le_refl _) _), World.alloc_heap_new wr _⟩
      have HC : Hid (∀ (W : World) (ob : Nat), W.heap[ob]? = some (.cells #[.int .u8 (kd : Int), .string t] 30 (0, 0)) → W.cell? ⟨ob, 0, none⟩ = some (.int .u8 (kd : Int)) ∧ W.cell? ⟨ob, 1, none⟩ = some (.string t)) := fun W ob h => ⟨by simp [World.cell?, h], by simp [World.cell?, h]⟩
      clear hq hpl HP hqf
      go_upto_region 9 with fail
      obtain ⟨ob, hob⟩ : ∃ ob, wr.heap.size = ob := ⟨_, rfl⟩
      obtain ⟨W1, hW1⟩ : ∃ W1, wr.alloc (.cells #[.int .u8 (kd : Int), .string t] 30) = W1 := ⟨_, rfl⟩
      rw [hW1] at HX ⊢
      rw [hob] at HX ⊢
      obtain ⟨d0, d1⟩ := HC.out _ _ HX.out.2
      clear hW1 hob c0 c1
      by_cases h6 : kd % 7 = 6
      · obtain ⟨m1, m2⟩ := mod7 h6
        clear h6
        have CC : Hid (Calls Try.prog 13 #[.pointer (some ⟨pb, 0, none⟩)] W1 fun e W' => ∃ cb, e = .returned (.pointer (some ⟨cb, 0, none⟩)) ∧ Hid ((∃ v, Pr W' W1.heap.size cb v r) ∧ Below W1.heap.size W1 W')) := by
          obtain ⟨v, u, q1, q2, q3⟩ := HX.out.1.ex
          refine (clone_any q1 (HX.out.1.fit.mono (by omega))).mono ?_
          rintro e W' ⟨cb, x, rfl, k1, k2⟩
          exact ⟨cb, rfl, ⟨_, k1⟩, k2⟩
        have CD : Hid (∀ W cb, ((∃ v, Pr W W1.heap.size cb v r) ∧ Below W1.heap.size W1 W) → Calls Try.prog 14 #[.pointer (some ⟨rb, 0, none⟩)] W fun e W' => ∃ rc, e = .returned (.pointer (some ⟨rc, 0, none⟩)) ∧ Hid (Pq W1 cb rc r k W')) := fun W cb ⟨⟨x, hx⟩, hb2⟩ => by
          obtain ⟨v, u, q1, q2, q3⟩ := HX.out.1.ex
          refine (rclone_any (q2.below hb2)).mono ?_
          rintro e W' ⟨rc, y, rfl, k1, k2⟩
          refine ⟨rc, rfl, ⟨x, y, hx.below k2, k1.base' hb2.size, fun g e1 e2 => ?_⟩, hb2.trans (k2.mono hb2.size), HX.out.1.fit⟩
          have := (hx.blk e1).2.2
          have := (k1.blk e2).2.1
          omega
        obtain ⟨hh, hhh⟩ : ∃ hh : Nat, (if k + 6 < on then k + 6 else on) = hh := ⟨_, rfl⟩
        have hk1 : k + 1 ≤ hh ∧ hh ≤ on ∧ hh - (k + 1) ≤ 5 := by rw [← hhh]; split <;> omega
        have hmin : min (on : Int) ((k : Int) + 6) = (hh : Int) := by rw [← hhh]; split <;> omega
        obtain ⟨a3, c3', hs3, hr3⟩ := run_ops (lo := k + 1) (hi := hh) HO.out HSL.out hk1.1 hk1.2.1
        have hs4 : ∀ W, (Instr.sliceAt 22 (.slice (some ⟨g, o, none⟩) on oc) (some (.int .i64 ((k : Int) + 1))) (some (.int .i64 (hh : Int))) none).run Try.prog W = .ok (.slice a3 (hh - (k + 1)) c3') W := fun W => by have := hs3 W; rwa [show ((k + 1 : Nat) : Int) = (k : Int) + 1 by omega] at this
        have hkk := hk1.2.2
        obtain ⟨n3, hn3⟩ : ∃ n3, hh - (k + 1) = n3 := ⟨_, rfl⟩
        obtain ⟨o3, ho3⟩ : ∃ o3, (os.drop (k + 1)).take (hh - (k + 1)) = o3 := ⟨_, rfl⟩
        have HF3 : Hid (∀ x ∈ o3, x.1 < 256 ∧ x.2.size ≤ 1048576) := fun x hx => HF.out.2 x (by rw [← ho3] at hx; exact List.mem_of_mem_drop (List.mem_of_mem_take hx))
        rw [ho3, hn3] at hr3
        rw [hn3] at hs4 hkk
        have HR3 : Hid (RdO w (.slice a3 n3 c3') o3 ∧ o3.length = n3) := ⟨hr3, by obtain ⟨_, _, e, _⟩ := hr3; cases e; rfl⟩
        have hh9 : (hh : Int) ≤ 1048576 := by have := hk1.2.1; omega
        clear hhh hk1 hs3 hr3 hn3 ho3 HO HF HSL
        go_wp2_with (first
          | (go_at_call 13; refine CC.out.mono ?_; clear CC; rintro e w4 ⟨cb, rfl, H4⟩)
          | (go_at_call 14; refine (CD.out _ _ H4.out).mono ?_; clear CD; rintro e w5 ⟨rc, rfl, H5⟩)
          | (go_at_call 12; refine (agree_any H5.out (by omega)).mono ?_; rintro e w6 ⟨rfl, h6⟩; have H6 : Hid (Pq W1 cb rc r k w6) := h6; clear h6 H5 H4))
        obtain ⟨wq, hwq⟩ : ∃ wq, wq = wr := ⟨_, rfl⟩
        subst hwq
        go_loopw [60] (fun t60 wr => ∃ j : Nat, j ≤ n3 ∧ t60 = .int .i64 j ∧ Hid (∃ r', Pq W1 cb rc r' (k + j) wr)) (fun t60 _ => n3 - (intOf t60).toNat)
        case atStart => exact ⟨0, Nat.zero_le _, rfl, _, H6.out⟩
        case round =>
          obtain ⟨j, hj, rfl, HJ⟩ := hrel
          clear H6
          by_cases hltj : j < n3
          · obtain ⟨q2, hq2⟩ : ∃ q2, o3[j]? = some q2 := ⟨o3[j]'(by rw [HR3.out.2]; exact hltj), List.getElem?_eq_getElem _⟩
            obtain ⟨rj, hplj⟩ := HJ.out
            obtain ⟨gj, oj, ej, x0, x1⟩ := HR3.out.1.at (HX.out.1.bel.trans (hplj.bel.mono HX.out.1.bel.size)) hq2
            subst ej
            have hq2f := HF3.out q2 (List.mem_of_getElem? hq2)
            obtain ⟨kd2, t2⟩ := q2
            simp only at x0 x1 hq2f
            have CPj : Hid (Calls Try.prog 15 #[.pointer (some ⟨cb, 0, none⟩), .pointer (some ⟨rc, 0, none⟩), .agg #[.int .u8 (kd2 : Int), .string t2]] (wr.alloc (.cells #[.int .u8 (kd2 : Int), .string t2] 30)) fun e W' => e = .returned (.bool true) ∧ ∃ r', Hid (Pq W1 cb rc r' (k + j + 1) W')) := play_any (hplj.below ((Below.refl _ wr).alloc (Nat.le_refl _) _)) hq2f.1 (by omega) hq2f.2
            clear hq2 hq2f hplj HJ CPl
            go_wp2_with (first
              | (go_at_call 15; refine CPj.out.mono ?_; clear CPj; rintro e w7 ⟨rfl, r7, H7⟩)
              | (go_at_call 12; refine (agree_any H7.out (by omega)).mono ?_; rintro e w8 ⟨rfl, h8⟩; have H8 : Hid (Pq W1 cb rc r7 (k + j + 1) w8) := h8; clear h8 H7))
            exact ⟨⟨j + 1, by omega, by go_num, _, H8.out⟩, by simp [intOf]; omega⟩
          · obtain ⟨rj, hplj⟩ := HJ.out
            have HJ2 : Hid (Below W1.heap.size W1 wr) := hplj.bel
            have HY : Hid (∀ W, Below W1.heap.size W1 W → Pq w pb rb r k W) := fun W hb => HX.out.1.below hb
            have HOB : Hid (∀ W, Below W1.heap.size W1 W → W.cell? ⟨ob, 0, none⟩ = some (.int .u8 (kd : Int)) ∧ W.cell? ⟨ob, 1, none⟩ = some (.string t)) := fun W hb => HC.out _ _ ((hb.block ob (Array.getElem?_eq_some_iff.1 HX.out.2).1).trans HX.out.2)
            have CA : Hid (Calls Try.prog 12 #[.pointer (some ⟨pb, 0, none⟩), .pointer (some ⟨rb, 0, none⟩)] wr fun e W' => e = .returned (.bool true) ∧ Hid (Pq w pb rb r k W' ∧ Below W1.heap.size W1 W')) := by
              refine (agree_below (HY.out _ HJ2.out) (by omega)).mono ?_
              rintro e W' ⟨rfl, k1, k2⟩
              exact ⟨rfl, k1, HJ2.out.trans (k2.mono HJ2.out.size)⟩
            clear hplj HJ HX d0 d1 HF3 HR3
            go_wp2_with (first
              | (go_at_call 12; refine CA.out.mono ?_; clear CA; rintro e w9 ⟨rfl, H9⟩; obtain ⟨d0, d1⟩ := HOB.out _ H9.out.2)
              | (go_at_call 15; refine (CPl.out _ H9.out.1).mono ?_; clear CPl; rintro e w10 ⟨rfl, r10, H10⟩)
              | (go_at_call 12; refine (agree_any H10.out (by omega)).mono ?_; rintro e w11 ⟨rfl, h11⟩; have H11 : Hid (Pq w pb rb r10 (k + 1) w11) := h11; clear h11 H10))
            exact ⟨⟨k + 1, by omega, by go_num, _, H11.out⟩, by simp [intOf]; omega⟩
      · have m1 : ¬ (kd : Int) % 7 = 6 := by omega
        have m2 : ¬ (kd : Int).tmod 7 = 6 := by rw [Int.tmod_eq_emod_of_nonneg (by omega)]; exact m1
        clear h6 HO HF HSL
        go_wp2_with (first
          | (go_at_call 15; refine (CPl.out _ HX.out.1).mono ?_; clear CPl; rintro e w4 ⟨rfl, r4, H4⟩)
          | (go_at_call 12; refine (agree_any H4.out (by omega)).mono ?_; rintro e w5 ⟨rfl, h5⟩; have H5 : Hid (Pq w pb rb r4 (k + 1) w5) := h5; clear h5 H4))
        exact ⟨⟨k + 1, by omega, by go_num, _, H5.out⟩, by simp [intOf]; omega⟩
    · go_wp2
      go_ret
      obtain ⟨_, h⟩ := HP.out
      exact ⟨rfl, h.bel⟩
end Go.Proofs.Ytihagjkdghbkdaa
