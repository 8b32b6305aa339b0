/-
  The walk of the law MarksPlays: any calls of a set, one behind the other, and of clones. Conditions: what the law reads is of at most 1048576 values and letters.
-/
import Derived.Test.YtolafffpgkgadaaEPlayA
import Derived.Test.YtolafffpgkgadaaELay
namespace Go.Proofs.Ytolafffpgkgadaa
open Go.RowKit

set_option maxRecDepth 100000 in
set_option maxHeartbeats 4000000 in
theorem walk_of (fa : Option Addr) (fn fc : Nat) (oa : Option Addr) (on oc : Nat) (w : World) (ms : Ml) (hR : RdK w (.slice fa fn fc) ms) (hb : ms.length ≤ 1048576 ∧ Fit8 ms) (os : List Oq) (hO : RdO w (.slice oa on oc) os) (ho : oqs os ≤ 1048576 ∧ ∀ x ∈ os, x.fit) :
    Calls Try.prog 3 #[.slice fa fn fc, .slice oa on oc] w fun e w' => e = .returned (.bool true) ∧ Below w.heap.size w w' := by
  have CL := lays_any w
  have hN1 : ms.length = fn := by obtain ⟨_, _, e, _⟩ := hR; cases e; rfl
  have hN2 : os.length = on := by obtain ⟨_, _, e, _⟩ := hO; cases e; rfl
  have hol := oqs_len os
  have hon : on ≤ 1048576 := by omega
  have hfn : fn ≤ 1048576 := by omega
  have HR : Hid (∀ W, Below w.heap.size w W → RdK W (.slice fa fn fc) ms) := fun W hb => hR.below (Nat.le_refl _) hb
  have HM : Hid (ms.length = fn ∧ Fit8 ms) := ⟨hN1, hb.2⟩
  have HO : Hid (RdO w (.slice oa on oc) os) := hO
  have HF : Hid (os.length = on ∧ (∀ x ∈ os, x.fit ∧ x.bulk ≤ 1048576)) := ⟨hN2, fun x hx => ⟨ho.2 x hx, by have := oqs_mem hx; omega⟩⟩
  have hpn : ∀ a w, (binOp .eql 27 (.pointer (some a)) (.pointer none)).run Try.prog w = .ok (.bool false) w := fun a w => by kernel_rfl
  clear hR hO hb ho hN1 hN2 hol
  go_enter Try.func3, Try.ntmps3
  go_wp2_with (first
    | (go_at_call 8; refine CL.mono ?_; clear CL; rintro e w1 ⟨rfl, hb1⟩; have HB1 : Hid (Below w.heap.size w w1) := hb1; clear hb1))
  go_loopw [5, 20] (fun t5 t20 wr => ∃ (i : Nat) (tv : Value), i ≤ fn ∧ t20 = .int .i64 i ∧ tv = t5 ∧ Hid (wr.ownsRow w1.heap.size 26 2 tv (cap39 (ms.take i)).length (kcl (cap39 (ms.take i))) ∧ Below w1.heap.size w1 wr)) (fun _ t20 _ => fn - (intOf t20).toNat)
  case atStart => exact ⟨0, _, Nat.zero_le _, rfl, rfl, World.ownsRow_nil _ _ _ _, Below.refl _ _⟩
  case round =>
    obtain ⟨i, tv, hi, rfl, rfl, HK⟩ := hrel
    by_cases hlt : i < fn
    · obtain ⟨q, hq⟩ : ∃ q, ms[i]? = some q := ⟨ms[i]'(by rw [HM.out.1]; exact hlt), List.getElem?_eq_getElem _⟩
      obtain ⟨a', cap', ev, hrd⟩ := HR.out _ (HB1.out.trans (HK.out.2.mono HB1.out.size))
      obtain ⟨ea, en, ec⟩ := Value.slice.inj ev
      obtain ⟨g, of, eg, hg, hcs⟩ := hrd (fun e => by rw [e] at hq; cases hq)
      rw [← ea] at eg
      subst eg
      obtain ⟨y0, y1⟩ := hcs i q hq
      obtain ⟨z0, z1⟩ := new2 wr (.int .u8 (q.1 : Int)) (.int .i64 q.2) 26
      have HT : Hid (cap39 (ms.take (i + 1)) = cap39 (ms.take i) ++ [(q.1, if 549755813888 < q.2 then 549755813888 else q.2)]) := by
        show cap39 _ = _
        rw [List.take_add_one, hq]
        simp [cap39]
      have hln : (cap39 (ms.take i)).length ≤ 1048576 := by simp [cap39]; omega
      have HK2 : Hid ((wr.alloc (.cells #[.int .u8 (q.1 : Int), .int .i64 q.2] 26)).ownsRow w1.heap.size 26 2 tv (cap39 (ms.take i)).length (kcl (cap39 (ms.take i))) ∧ Below w1.heap.size w1 (wr.alloc (.cells #[.int .u8 (q.1 : Int), .int .i64 q.2] 26))) := ⟨HK.out.1.alloc _, HK.out.2.alloc HK.out.2.size _⟩
      clear hrd hcs hq hg ev ea en ec HO HF
      go_upto_region 7 with fail
      obtain ⟨W2, hW2⟩ : ∃ W2, wr.alloc (.cells #[.int .u8 (q.1 : Int), .int .i64 q.2] 26) = W2 := ⟨_, rfl⟩
      rw [hW2] at HK2 z0 z1 ⊢
      obtain ⟨xb, hxb⟩ : ∃ xb, wr.heap.size = xb := ⟨_, rfl⟩
      rw [hxb] at z0 z1 ⊢
      clear HK hW2 hxb y0 y1
      go_wp2_with (first
        | (at_builtin; refine app_one rfl _ _ rfl w1.heap.size _ (cap39 (ms.take i)) rfl (q.1, if 549755813888 < q.2 then 549755813888 else q.2) HK2.out.1 _ rfl (by omega) HK2.out.2.size ?_; intro v' w3 hown hg hob; have HK3 : Hid (w3.ownsRow w1.heap.size 26 2 v' (cap39 (ms.take (i + 1))).length (kcl (cap39 (ms.take (i + 1)))) ∧ Below w1.heap.size w1 w3) := (by rw [HT.out]; refine ⟨hown, ?_⟩; have hb := HK2.out.2.alloc HK2.out.2.size (.cells #[.int .u8 (q.1 : Int), .int .i64 (if 549755813888 < q.2 then 549755813888 else q.2)] 26); exact hb.grown hg hb.size (fun j e => (HK2.out.1.lt j e).1)); clear hown hg hob HK2))
      exact ⟨⟨i + 1, _, by omega, by go_num, rfl, HK3.out⟩, by simp [intOf]; omega⟩
    · obtain rfl : i = fn := by omega
      have htk : ms.take i = ms := List.take_of_length_le (by rw [HM.out.1]; exact Nat.le_refl _)
      have HK2 : Hid (wr.ownsRow w1.heap.size 26 2 tv (cap39 ms).length (kcl (cap39 ms)) ∧ Below w1.heap.size w1 wr) := by have h1 := HK.out; rw [htk] at h1; exact h1
      have hcl : (cap39 ms).length = i := by rw [← HM.out.1]; simp [cap39]
      obtain ⟨ta, tc, etv, _⟩ := RdK.of_row HK2.out.1
      rw [hcl] at etv HK2
      subst etv
      have HBW : Hid (Below w.heap.size w wr ∧ RdK wr (.slice ta i tc) (cap39 ms)) := ⟨HB1.out.trans (HK2.out.2.mono HB1.out.size), RdK.of_row (by rw [hcl]; exact HK2.out.1)⟩
      obtain ⟨L, hL⟩ : ∃ L, ld [] (cap39 ms) = L := ⟨_, rfl⟩
      have HL : Hid (Gdl L ∧ Bd 0 L) := hL ▸ ⟨Gdl.nil.ld, Bd.ld (Bd.nil _) cap_le⟩
      have CN : Hid (Calls Try.prog 9 #[.slice ta i tc] wr fun e w' => ∃ sb mb, e = .returned (.pointer (some ⟨sb, 0, none⟩)) ∧ St w' sb mb L ∧ Below wr.heap.size wr w' ∧ wr.heap.size ≤ sb ∧ ∀ b, mb = some b → wr.heap.size ≤ b) := by
        refine (new_any hcl (by omega) (cap_fit HM.out.2) HBW.out.2).mono ?_
        rintro e w' ⟨rfl, mb, h1, h2, h3⟩
        exact ⟨_, mb, rfl, hL ▸ h1, h2, Nat.le_refl _, fun b e => by have := h3 b e; omega⟩
      have CR : Hid (∀ W sb mb, St W sb mb L → Below wr.heap.size wr W → wr.heap.size ≤ sb → (∀ b, mb = some b → wr.heap.size ≤ b) → Calls Try.prog 10 #[.slice ta i tc] W fun e w' => ∃ rb v, e = .returned (.pointer (some ⟨rb, 0, none⟩)) ∧ Pl w w' sb mb rb v L 0) := fun W sb mb h1 h2 h3 h4 => by
        have hsz := HBW.out.1.size
        refine (rnew_any (base := w.heap.size) hcl (by omega) (cap_fit HM.out.2) (HBW.out.2.below (Nat.le_refl _) h2) (by have := h2.size; omega)).mono ?_
        rintro e w' ⟨rfl, v, h5, h6, h7⟩
        exact ⟨_, v, rfl, ⟨h1.below h6, hL ▸ h5, HBW.out.1.trans ((h2.trans (h6.mono h2.size)).mono hsz), by omega, fun b e => by have := h4 b e; omega, HL.out.1, HL.out.2⟩⟩
      clear HK htk hcl hL HK2 HR HM HB1
      go_wp2_with (first
        | (go_at_call 9; refine CN.out.mono ?_; clear CN; rintro e w2 ⟨sb, mb, rfl, h2a, h2b, h2c, h2d⟩; have H2 : Hid (St w2 sb mb L ∧ Below wr.heap.size wr w2 ∧ wr.heap.size ≤ sb ∧ (∀ b, mb = some b → wr.heap.size ≤ b)) := ⟨h2a, h2b, h2c, h2d⟩; clear h2a h2b h2c h2d)
        | (go_at_call 10; refine (CR.out _ _ _ H2.out.1 H2.out.2.1 H2.out.2.2.1 H2.out.2.2.2).mono ?_; clear CR; rintro e w3 ⟨rb, v, rfl, h3⟩; have H3 : Hid (Pl w w3 sb mb rb v L 0) := h3; clear h3 H2)
        | (go_at_call 11; refine (agree_any H3.out.st H3.out.rs H3.out.g).mono ?_; rintro e w4 ⟨rfl, hb4⟩; have H4 : Hid (Pl w w4 sb mb rb v L 0) := H3.out.below hb4; clear hb4 H3))
      obtain ⟨wo, hwo⟩ : ∃ wo, wo = wr := ⟨_, rfl⟩
      subst hwo
      clear hlt hi
      go_loopw [48] (fun t48 wr => ∃ k : Nat, k ≤ on ∧ t48 = .int .i64 k ∧ Hid (∃ mb' v' L', Pl w wr sb mb' rb v' L' k)) (fun t48 _ => on - (intOf t48).toNat)
      case atStart => exact ⟨0, Nat.zero_le _, rfl, _, _, _, H4.out⟩
      case round =>
        obtain ⟨k, hk, rfl, HP⟩ := hrel
        clear H4 HBW HL
        by_cases hlt : k < on
        · obtain ⟨q, hq⟩ : ∃ q, os[k]? = some q := ⟨os[k]'(by rw [HF.out.1]; exact hlt), List.getElem?_eq_getElem _⟩
          obtain ⟨mb', v', L', hpl⟩ := HP.out
          obtain ⟨g, o, eoa, ma, mc, ea, ec, ⟨c0, c1, c2, c3, c4⟩, hr1, hr2⟩ := HO.out.at hpl.bel hq
          subst eoa
          obtain ⟨mn, hmn⟩ : ∃ mn, q.ms.length = mn := ⟨_, rfl⟩
          obtain ⟨en, hen⟩ : ∃ en, q.ds.length = en := ⟨_, rfl⟩
          rw [hmn] at c3 hr1
          rw [hen] at c4 hr2
          have hkd : (q.kd : Int) < 256 := by have := (HF.out.2 q (List.mem_of_getElem? hq)).1.1; omega
          obtain ⟨bx, hbx⟩ : ∃ bx, (#[.int .u8 (q.kd : Int), .int .u8 (q.nm : Int), .int .i64 q.pl, .slice ma mn mc, .slice ea en ec] : Array Value) = bx := ⟨_, rfl⟩
          have HBX : Hid ((#[.int .u8 (q.kd : Int), .int .u8 (q.nm : Int), .int .i64 q.pl, .slice ma mn mc, .slice ea en ec] : Array Value) = bx) := hbx
          have HX : Hid (Pl w (wr.alloc (.cells bx 34)) sb mb' rb v' L' k ∧ (wr.alloc (.cells bx 34)).heap[wr.heap.size]? = some (.cells bx 34 (0, 0))) := ⟨hpl.below ((Below.refl _ wr).alloc (Nat.le_refl _) _), World.alloc_heap_new wr _⟩
          have HC : Hid (∀ (W : World) (ob : Nat), W.heap[ob]? = some (.cells bx 34 (0, 0)) → W.cell? ⟨ob, 0, none⟩ = some (.int .u8 (q.kd : Int)) ∧ W.cell? ⟨ob, 1, none⟩ = some (.int .u8 (q.nm : Int)) ∧ W.cell? ⟨ob, 2, none⟩ = some (.int .i64 q.pl) ∧ W.cell? ⟨ob, 3, none⟩ = some (.slice ma mn mc) ∧ W.cell? ⟨ob, 4, none⟩ = some (.slice ea en ec)) := fun W ob h => by
            rw [← hbx] at h
            refine ⟨?_, ?_, ?_, ?_, ?_⟩ <;> simp [World.cell?, h]
          have CPl : Hid (∀ W, Pl w W sb mb' rb v' L' k → Calls Try.prog 14 #[.pointer (some ⟨sb, 0, none⟩), .pointer (some ⟨rb, 0, none⟩), .agg #[.int .u8 (q.kd : Int), .int .u8 (q.nm : Int), .int .i64 q.pl, .slice ma mn mc, .slice ea en ec]] W fun e W' => e = .returned (.bool true) ∧ ∃ mb' v' L', Pl w W' sb mb' rb v' L' (k + 1)) := fun W h => by
            have h1 := HF.out.2 q (List.mem_of_getElem? hq)
            refine (play_any h h1.1 h1.2 (by omega) hr1 hr2).mono ?_
            rintro e W' ⟨rfl, hd⟩
            obtain ⟨mb2, v2, L2, h3, _⟩ := hd.pl h.sl
            exact ⟨rfl, mb2, v2, L2, h3⟩
          have HSL : Hid (os ≠ []) := fun e => by rw [e] at hq; cases hq
          clear hq hmn hen hr1 hr2 hpl HP hbx
          go_upto_region 15 with fail
          rw [HBX.out]
          obtain ⟨ob, hob⟩ : ∃ ob, wr.heap.size = ob := ⟨_, rfl⟩
          obtain ⟨W1, hW1⟩ : ∃ W1, wr.alloc (.cells bx 34) = W1 := ⟨_, rfl⟩
          rw [hW1] at HX ⊢
          rw [hob] at HX ⊢
          obtain ⟨d0, d1, d2, d3, d4⟩ := HC.out _ _ HX.out.2
          clear hW1 hob HBX c0 c1 c2 c3 c4
          by_cases h6 : q.kd % 7 = 6
          · obtain ⟨m1, m2⟩ := mod7 h6
            clear h6
            have CC : Calls Try.prog 12 #[.pointer (some ⟨sb, 0, none⟩)] W1 fun e w' => ∃ sb' mb2, e = .returned (.pointer (some ⟨sb', 0, none⟩)) ∧ St w' sb' mb2 L' ∧ Below W1.heap.size W1 w' ∧ W1.heap.size ≤ sb' ∧ ∀ b, mb2 = some b → W1.heap.size ≤ b := clone_any HX.out.1.st
            have CD : Hid (∀ W sc mc2, St W sc mc2 L' ∧ Below W1.heap.size W1 W ∧ W1.heap.size ≤ sc ∧ (∀ b, mc2 = some b → W1.heap.size ≤ b) → Calls Try.prog 13 #[.pointer (some ⟨rb, 0, none⟩)] W fun e w' => ∃ rc vc, e = .returned (.pointer (some ⟨rc, 0, none⟩)) ∧ Pl W1 w' sc mc2 rc vc L' k) := fun W sc mc2 h => by
              refine (rclone_any (HX.out.1.rs.below h.2.1)).mono ?_
              rintro e w' ⟨rc, vc, rfl, h1, h2⟩
              exact ⟨rc, vc, rfl, ⟨h.1.below h2, h1.base h.2.1.size, h.2.1.trans (h2.mono h.2.1.size), h.2.2.1, h.2.2.2, HX.out.1.g, HX.out.1.bd⟩⟩
            obtain ⟨hh, hhh⟩ : ∃ hh : Nat, (if k + 4 < on then k + 4 else on) = hh := ⟨_, rfl⟩
            have hk1 : k + 1 ≤ hh ∧ hh ≤ on ∧ hh - (k + 1) ≤ 3 := by rw [← hhh]; split <;> omega
            have hmin : (if (k : Int) + 4 < (on : Int) then (k : Int) + 4 else (on : Int)) = (hh : Int) := by rw [← hhh]; split <;> split <;> omega
            obtain ⟨a3, c3', hs3, hr3⟩ := run_ops (lo := k + 1) (hi := hh) HO.out HSL.out hk1.1 hk1.2.1
            have hs4 : ∀ W, (Instr.sliceAt 23 (.slice (some ⟨g, o, none⟩) on oc) (some (.int .i64 ((k : Int) + 1))) (some (.int .i64 (hh : Int))) none).run Try.prog W = .ok (.slice a3 (hh - (k + 1)) c3') W := fun W => by have := hs3 W; rwa [show ((k + 1 : Nat) : Int) = (k : Int) + 1 by omega] at this
            have hkk := hk1.2.2
            obtain ⟨n3, hn3⟩ : ∃ n3, hh - (k + 1) = n3 := ⟨_, rfl⟩
            obtain ⟨o3, ho3⟩ : ∃ o3, (os.drop (k + 1)).take (hh - (k + 1)) = o3 := ⟨_, rfl⟩
            have HF3 : Hid (∀ x ∈ o3, x.fit ∧ x.bulk ≤ 1048576) := fun x hx => HF.out.2 x (by rw [← ho3] at hx; exact List.mem_of_mem_drop (List.mem_of_mem_take hx))
            rw [ho3, hn3] at hr3
            rw [hn3] at hs4 hkk
            have HR3 : Hid (RdO w (.slice a3 n3 c3') o3 ∧ o3.length = n3) := ⟨hr3, by obtain ⟨_, _, e, _⟩ := hr3; cases e; rfl⟩
            have hh9 : (hh : Int) ≤ 1048576 := by have := hk1.2.1; omega
            clear hhh hk1 hs3 hr3 hn3 ho3 HO HF HSL
            go_upto_region 19 with (first
              | (go_at_call 12; refine CC.mono ?_; clear CC; rintro e w4 ⟨sc, mc2, rfl, h4a, h4b, h4c, h4d⟩; have H4 : Hid (St w4 sc mc2 L' ∧ Below W1.heap.size W1 w4 ∧ W1.heap.size ≤ sc ∧ (∀ b, mc2 = some b → W1.heap.size ≤ b)) := ⟨h4a, h4b, h4c, h4d⟩; clear h4a h4b h4c h4d)
              | (go_at_call 13; refine (CD.out _ _ _ H4.out).mono ?_; clear CD; rintro e w5 ⟨rc, vc, rfl, h5⟩; have H5 : Hid (Pl W1 w5 sc mc2 rc vc L' k) := h5; clear h5 H4)
              | (go_at_call 11; refine (agree_any H5.out.st H5.out.rs H5.out.g).mono ?_; rintro e w6 ⟨rfl, hb6⟩; have H6 : Hid (Pl W1 w6 sc mc2 rc vc L' k) := H5.out.below hb6; clear hb6 H5))
            go_wp2
            obtain ⟨wq, hwq⟩ : ∃ wq, wq = wr := ⟨_, rfl⟩
            subst hwq
            go_loopw [79] (fun t79 wr => ∃ j : Nat, j ≤ n3 ∧ t79 = .int .i64 j ∧ Hid (∃ mb' v' L', Pl W1 wr sc mb' rc v' L' (k + j))) (fun t79 _ => n3 - (intOf t79).toNat)
            case atStart => exact ⟨0, Nat.zero_le _, rfl, _, _, _, H6.out⟩
            case round =>
              obtain ⟨j, hj, rfl, HJ⟩ := hrel
              clear H6
              by_cases hltj : j < n3
              · obtain ⟨q2, hq2⟩ : ∃ q2, o3[j]? = some q2 := ⟨o3[j]'(by rw [HR3.out.2]; exact hltj), List.getElem?_eq_getElem _⟩
                obtain ⟨mbj, vj, Lj, hplj⟩ := HJ.out
                obtain ⟨gj, oj, ej, maj, mcj, eaj, ecj, ⟨x0, x1, x2, x3, x4⟩, hrj1, hrj2⟩ := HR3.out.1.at (HX.out.1.bel.trans (hplj.bel.mono HX.out.1.bel.size)) hq2
                subst ej
                obtain ⟨mnj, hmnj⟩ : ∃ mnj, q2.ms.length = mnj := ⟨_, rfl⟩
                obtain ⟨enj, henj⟩ : ∃ enj, q2.ds.length = enj := ⟨_, rfl⟩
                rw [hmnj] at x3 hrj1
                rw [henj] at x4 hrj2
                have CPj : Hid (Calls Try.prog 14 #[.pointer (some ⟨sc, 0, none⟩), .pointer (some ⟨rc, 0, none⟩), .agg #[.int .u8 (q2.kd : Int), .int .u8 (q2.nm : Int), .int .i64 q2.pl, .slice maj mnj mcj, .slice eaj enj ecj]] (wr.alloc (.cells #[.int .u8 (q2.kd : Int), .int .u8 (q2.nm : Int), .int .i64 q2.pl, .slice maj mnj mcj, .slice eaj enj ecj] 34)) fun e W' => e = .returned (.bool true) ∧ ∃ mb' v' L', Pl W1 W' sc mb' rc v' L' (k + j + 1)) := by
                  have h1 := HF3.out q2 (List.mem_of_getElem? hq2)
                  have hp2 := hplj.below ((Below.refl _ wr).alloc (Nat.le_refl _) (.cells #[.int .u8 (q2.kd : Int), .int .u8 (q2.nm : Int), .int .i64 q2.pl, .slice maj mnj mcj, .slice eaj enj ecj] 34))
                  refine (play_any hp2 h1.1 h1.2 (by omega) (hrj1.below (Nat.le_refl _) HX.out.1.bel) (hrj2.below (Nat.le_refl _) HX.out.1.bel)).mono ?_
                  rintro e W' ⟨rfl, hd⟩
                  obtain ⟨mb2, v2, L2, h3, _⟩ := hd.pl hplj.sl
                  exact ⟨rfl, mb2, v2, L2, h3⟩
                clear hq2 hmnj henj hrj1 hrj2 hplj HJ CPl
                go_wp2_with (first
                  | (go_at_call 14; refine CPj.out.mono ?_; clear CPj; rintro e w7 ⟨rfl, mb7, v7, L7, h7⟩; have H7 : Hid (Pl W1 w7 sc mb7 rc v7 L7 (k + j + 1)) := h7; clear h7))
                exact ⟨⟨j + 1, by omega, by go_num, _, _, _, H7.out⟩, by simp [intOf]; omega⟩
              · obtain ⟨mbj, vj, Lj, hplj⟩ := HJ.out
                have HJ2 : Hid (Pl W1 wr sc mbj rc vj Lj (k + j)) := hplj
                have HY : Hid (∀ W, Below W1.heap.size W1 W → Pl w W sb mb' rb v' L' k ∧ W.heap[ob]? = some (.cells bx 34 (0, 0))) := fun W hb => ⟨HX.out.1.below hb, (hb.block ob (Array.getElem?_eq_some_iff.1 HX.out.2).1).trans HX.out.2⟩
                clear hplj HJ HX d0 d1 d2 d3 d4 HF3 HR3
                have T1 : True := trivial
                go_wp2_with (first
                  | (go_at_call 11; clear T1; refine (agree_any HJ2.out.st HJ2.out.rs HJ2.out.g).mono ?_; rintro e w8 ⟨rfl, hb8⟩; have H8 : Hid (Below W1.heap.size W1 w8) := HJ2.out.bel.trans (hb8.mono HJ2.out.bel.size); clear hb8 HJ2; have T2 : True := trivial)
                  | (go_at_call 11; clear T2; refine (agree_any (HY.out _ H8.out).1.st (HY.out _ H8.out).1.rs (HY.out _ H8.out).1.g).mono ?_; rintro e w9 ⟨rfl, hb9⟩; have H9 : Hid (Below W1.heap.size W1 w9) := H8.out.trans (hb9.mono H8.out.size); obtain ⟨d0, d1, d2, d3, d4⟩ := HC.out _ _ (HY.out _ H9.out).2; clear hb9 H8)
                  | (go_at_call 14; refine (CPl.out _ (HY.out _ H9.out).1).mono ?_; clear CPl; rintro e w10 ⟨rfl, mb10, v10, L10, h10⟩; have H10 : Hid (Pl w w10 sb mb10 rb v10 L10 (k + 1)) := h10; clear h10)
                  | (go_at_call 11; refine (agree_any H10.out.st H10.out.rs H10.out.g).mono ?_; rintro e w11 ⟨rfl, hb11⟩; have H11 : Hid (Pl w w11 sb mb10 rb v10 L10 (k + 1)) := H10.out.below hb11; clear hb11 H10))
                exact ⟨⟨k + 1, by omega, by go_num, _, _, _, H11.out⟩, by simp [intOf]; omega⟩
          · have m1 : ¬ (q.kd : Int) % 7 = 6 := by omega
            have m2 : ¬ (q.kd : Int).tmod 7 = 6 := by rw [Int.tmod_eq_emod_of_nonneg (by omega)]; exact m1
            clear h6 HO HF HSL
            go_wp2_with (first
              | (go_at_call 14; refine (CPl.out _ HX.out.1).mono ?_; clear CPl; rintro e w4 ⟨rfl, mb4, v4, L4, h4⟩; have H4 : Hid (Pl w w4 sb mb4 rb v4 L4 (k + 1)) := h4; clear h4)
              | (go_at_call 11; refine (agree_any H4.out.st H4.out.rs H4.out.g).mono ?_; rintro e w5 ⟨rfl, hb5⟩; have H5 : Hid (Pl w w5 sb mb4 rb v4 L4 (k + 1)) := H4.out.below hb5; clear hb5 H4))
            exact ⟨⟨k + 1, by omega, by go_num, _, _, _, H5.out⟩, by simp [intOf]; omega⟩
        · go_wp2
          go_ret
          obtain ⟨_, _, _, h⟩ := HP.out
          exact ⟨rfl, h.bel⟩
end Go.Proofs.Ytolafffpgkgadaa
