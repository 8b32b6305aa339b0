/-
  The walk of the law RingNone: the zero ring and a nil one keep nothing. Conditions: what the law reads is of at most 1048576 values and letters.
-/
import Derived.Test.YtihagjkdghbkdaaJPlay
import Derived.Test.YtihagjkdghbkdaaJKls
import Derived.Test.YtihagjkdghbkdaaJOps
namespace Go.Proofs.Ytihagjkdghbkdaa
open Go.RowKit

set_option maxRecDepth 100000 in
set_option maxHeartbeats 4000000 in
theorem walk_of (oa : Option Addr) (on oc : Nat) (w : World) (os : List (Nat × ByteArray)) (hO : RdO w (.slice oa on oc) os) (ho : oqs os ≤ 1048576 ∧ ∀ q ∈ os, q.1 < 256) :
    Calls Try.prog 7 #[.slice oa on oc] w fun e w' => e = .returned (.bool true) ∧ Below w.heap.size w w' := by
  have CK := kills_any w
  have hN2 : os.length = on := by obtain ⟨_, _, e, _⟩ := hO; cases e; rfl
  have hol := oqs_len os
  have hon : on ≤ 1048576 := by omega
  have HO : Hid (RdO w (.slice oa on oc) os) := hO
  have HF : Hid (os.length = on ∧ (∀ q ∈ os, q.1 < 256 ∧ q.2.size ≤ 1048576)) := ⟨hN2, fun q hq => ⟨ho.2 q hq, by have := oqs_mem hq; omega⟩⟩
  have hpn : ∀ w, (binOp .neq 24 (.pointer none) (.pointer none)).run Try.prog w = .ok (.bool false) w := fun w => by kernel_rfl
  have C2 : Hid (∀ W W0, Below w.heap.size w W0 → W = W0.alloc (.cells #[.int .i64 0, .slice none 0 0, .int .i64 0, .int .i64 0] 52) → Calls Try.prog 11 #[.int .i64 0] W fun e W' => ∃ rb, e = .returned (.pointer (some ⟨rb, 0, none⟩)) ∧ Hid (Pq w W0.heap.size rb (Rg.new 0) 0 W')) := fun W W0 hW e => by
    subst e
    have hB := hW.alloc hW.size (.cells #[.int .i64 0, .slice none 0 0, .int .i64 0, .int .i64 0] 52)
    have hp : Pr (W0.alloc (.cells #[.int .i64 0, .slice none 0 0, .int .i64 0, .int .i64 0] 52)) w.heap.size W0.heap.size (.slice none 0 0) (Rg.new 0) := ⟨⟨0, fun e => (by cases e), World.alloc_heap_new W0 _⟩, World.ownsRow_nil _ _ _ _, hW.size, Rg.Ok.new 0⟩
    refine (rnew_any (by omega) _ w.heap.size hB.size).mono ?_
    rintro e W' ⟨rfl, q1, q2⟩
    exact ⟨_, rfl, ⟨⟨_, _, hp.below q2, q1, fun g e => by cases e⟩, hB.trans (q2.mono hB.size), fun s hs => by cases hs⟩⟩
  clear hO ho hN2 hol
  go_enter Try.func7, Try.ntmps7
  go_wp2_with (first
    | (go_at_call 9; refine CK.mono ?_; clear CK; rintro e w1 ⟨rfl, hb1⟩; have HB1 : Hid (Below w.heap.size w w1) := hb1; clear hb1)
    | (go_at_call 11; refine (C2.out _ _ HB1.out rfl).mono ?_; clear C2; rintro e w3 ⟨rb, rfl, H3⟩))
  obtain ⟨pb, hpb⟩ : ∃ pb, w1.heap.size = pb := ⟨_, rfl⟩
  rw [hpb] at H3 ⊢
  clear hpb HB1
  go_loopw [20] (fun t20 wr => ∃ k : Nat, k ≤ on ∧ t20 = .int .i64 k ∧ Hid (∃ r, Pq w pb rb r k wr)) (fun t20 _ => on - (intOf t20).toNat)
  case atStart => exact ⟨0, Nat.zero_le _, rfl, _, H3.out⟩
  case round =>
    obtain ⟨k, hk, rfl, HP⟩ := hrel
    clear H3
    by_cases hlt : k < on
    · obtain ⟨q, hq⟩ : ∃ q, os[k]? = some q := ⟨os[k]'(by rw [HF.out.1]; exact hlt), List.getElem?_eq_getElem _⟩
      obtain ⟨r, hpl⟩ := HP.out
      obtain ⟨g, o, eoa, c0, c1⟩ := HO.out.at hpl.bel hq
      subst eoa
      have hqf := HF.out.2 q (List.mem_of_getElem? hq)
      obtain ⟨kd, t⟩ := q
      simp only at c0 c1 hqf
      have CPl : Hid (∀ W, Pq w pb rb r k W → Calls Try.prog 15 #[.pointer (some ⟨pb, 0, none⟩), .pointer (some ⟨rb, 0, none⟩), .agg #[.int .u8 (kd : Int), .string t]] W fun e W' => e = .returned (.bool true) ∧ ∃ r', Hid (Pq w pb rb r' (k + 1) W' ∧ Fo W W')) := fun W h => play_any h hqf.1 (by omega) hqf.2
      have HX : Hid (Pq w pb rb r k (wr.alloc (.cells #[.int .u8 (kd : Int), .string t] 30)) ∧ (wr.alloc (.cells #[.int .u8 (kd : Int), .string t] 30)).heap[wr.heap.size]? = some (.cells #[.int .u8 (kd : Int), .string t] 30 (0, 0))) := ⟨hpl.below ((Below.refl _ wr).alloc (Nat.le_refl _) _), World.alloc_heap_new wr _⟩
      have HC : Hid (∀ (W : World) (ob : Nat), W.heap[ob]? = some (.cells #[.int .u8 (kd : Int), .string t] 30 (0, 0)) → W.cell? ⟨ob, 0, none⟩ = some (.int .u8 (kd : Int)) ∧ W.cell? ⟨ob, 1, none⟩ = some (.string t)) := fun W ob h => ⟨by simp [World.cell?, h], by simp [World.cell?, h]⟩
      clear hq hpl HP hqf HO HF
      go_upto_region 8 with fail
      obtain ⟨ob, hob⟩ : ∃ ob, wr.heap.size = ob := ⟨_, rfl⟩
      obtain ⟨W1, hW1⟩ : ∃ W1, wr.alloc (.cells #[.int .u8 (kd : Int), .string t] 30) = W1 := ⟨_, rfl⟩
      rw [hW1] at HX ⊢
      rw [hob] at HX ⊢
      obtain ⟨d0, d1⟩ := HC.out _ _ HX.out.2
      clear hW1 hob c0 c1
      go_upto_region 10 with (first
        | (go_at_call 15; refine (CPl.out _ HX.out.1).mono ?_; clear CPl; rintro e w4 ⟨rfl, r4, H4⟩)
        | (go_at_call 12; refine (agree_below H4.out.1 (by omega)).mono ?_; rintro e w5 ⟨rfl, h5, hb5⟩; have H5 : Hid (Pq w pb rb r4 (k + 1) w5 ∧ w5.heap[ob]? = some (.cells #[.int .u8 (kd : Int), .string t] 30 (0, 0))) := ⟨h5, Fo.below hb5 _ _ (H4.out.2 _ _ HX.out.2)⟩; clear h5 hb5))
      clear d0 d1 H4 HX
      obtain ⟨d0, d1⟩ := HC.out _ _ H5.out.2
      have K1 := kill_nil t true w5
      have K2 := copy_nil t w5
      have K3 := len_nil w5
      have K4 := bound_nil w5
      have K5 := all_nil w5
      go_wp2_with (first
        | (go_at_call 16; refine K1.mono ?_; clear K1; rintro e w6 ⟨rfl, hw6⟩; subst hw6)
        | (go_at_call 22; refine K2.mono ?_; clear K2; rintro e w6 ⟨rfl, hw6⟩; subst hw6)
        | (go_at_call 25; refine K3.mono ?_; clear K3; rintro e w6 ⟨rfl, hw6⟩; subst hw6)
        | (go_at_call 24; refine K4.mono ?_; clear K4; rintro e w6 ⟨rfl, hw6⟩; subst hw6)
        | (go_at_call 18; refine K5.mono ?_; clear K5; rintro e w7 ⟨u7, rfl, hb7⟩; have H7 : Hid (Pq w pb rb r4 (k + 1) w7) := H5.out.1.below hb7; clear hb7)
        | (go_at_call 23; refine (killing_nil _).mono ?_; rintro e w8 ⟨rfl, hw8⟩; subst hw8)
        | (go_at_call 26; refine (yanking_nil _).mono ?_; rintro e w8 ⟨rfl, hw8⟩; subst hw8)
        | (go_at_call 19; refine (yank_nil _).mono ?_; rintro e w8 ⟨rfl, hw8⟩; subst hw8)
        | (go_at_call 20; refine (pop_nil _).mono ?_; rintro e w8 ⟨rfl, hw8⟩; subst hw8)
        | (go_at_call 17; refine (stop_nil _).mono ?_; rintro e w8 ⟨rfl, hw8⟩; subst hw8)
        | (go_at_call 13; refine (clone_nil _).mono ?_; rintro e w8 ⟨rfl, hw8⟩; subst hw8))
      exact ⟨⟨k + 1, by omega, by go_num, _, H7.out⟩, by simp [intOf]; omega⟩
    · go_wp2
      go_ret
      obtain ⟨_, h⟩ := HP.out
      exact ⟨rfl, h.bel⟩
end Go.Proofs.Ytihagjkdghbkdaa
