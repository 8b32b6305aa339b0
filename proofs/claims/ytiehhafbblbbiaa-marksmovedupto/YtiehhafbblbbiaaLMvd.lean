/-
  The walk of the law MarksMoved: where any place goes by any deltas, and which bytes are names, as the document says. Conditions: the deltas' letters are together at most 1048576.
-/
import Derived.Test.YtiehhafbblbbiaaELay
import Derived.Test.YtiehhafbblbbiaaEMovC
import Derived.Test.YtiehhafbblbbiaaUMks
namespace Go.Proofs.Ytiehhafbblbbiaa
open Go.RowKit

set_option maxRecDepth 100000 in
theorem rgood_any {n : Nat} (h : n < 256) (w : World) : Calls Try.prog 11 #[.int .u8 (n : Int)] w fun e w' => e = .returned (.bool (gd n)) ∧ w' = w := by
  go_enter Try.func11, Try.ntmps11
  go_wp2
  all_goals go_ret
  all_goals (refine ⟨congrArg (fun b => Ending.returned (.bool b)) ?_, rfl⟩; rw [Bool.eq_iff_iff]; simp [gd]; try omega)
set_option maxRecDepth 100000 in
set_option maxHeartbeats 2000000 in
theorem walk_of (p : Int) (a : Option Addr) (len cap : Nat) (w : World) (hp : i64ok p) (ds : List Dl) (hR : RdD w (.slice a len cap) ds) (hd : ds.length + dls ds ≤ 1048576 ∧ ∀ d ∈ ds, d.fit) :
    Calls Try.prog 3 #[.int .i64 p, .slice a len cap] w fun e w' => e = .returned (.bool true) ∧ Below w.heap.size w w' := by
  obtain rfl : len = ds.length := by obtain ⟨_, _, e, _⟩ := hR; cases e; rfl
  have CL := lays_any w
  have CG : Hid (∀ (n : Nat) w1, n < 256 → Calls Try.prog 10 #[.int .u8 (n : Int)] w1 fun e w' => e = .returned (.bool (gd n)) ∧ w' = w1) := fun n w1 h => good_any h w1
  have CR : Hid (∀ (n : Nat) w1, n < 256 → Calls Try.prog 11 #[.int .u8 (n : Int)] w1 fun e w' => e = .returned (.bool (gd n)) ∧ w' = w1) := fun n w1 h => rgood_any h w1
  obtain ⟨x, hx⟩ : ∃ x, mvs p ds = x := ⟨_, rfl⟩
  obtain ⟨F, hF⟩ : ∃ F, farP p ds = F := ⟨_, rfl⟩
  have CM : Hid (∀ w1, Below w.heap.size w w1 → Calls Try.prog 12 #[.int .i64 p, .slice a ds.length cap] w1 fun e w' => e = .returned (.int .i64 x) ∧ Below w1.heap.size w1 w') := fun w1 hb => hx ▸ Moved_any rfl (by omega) hd.2 (hR.below (Nat.le_refl _) hb) p hp
  have CF : Hid (∀ w1, Below w.heap.size w w1 → Calls Try.prog 13 #[.int .i64 p, .slice a ds.length cap] w1 fun e w' => e = .returned (.bool F) ∧ Below w1.heap.size w1 w') := fun w1 hb => hF ▸ far_any rfl (by omega) (hR.below (Nat.le_refl _) hb) p
  have CD : Hid (∀ w1, Below w.heap.size w w1 → F = false → Calls Try.prog 14 #[.int .i64 p, .slice a ds.length cap] w1 fun e w' => e = .returned (.int .i64 x) ∧ Below w1.heap.size w1 w') := fun w1 hb hf => by
    rw [← hF] at hf
    unfold farP at hf
    rw [Bool.or_eq_false_iff] at hf
    have h1 : ¬ (p < 0 ∨ 1099511627776 < p) := by simpa using hf.1
    have h2 : ∀ d ∈ ds, 0 ≤ d.a ∧ d.a ≤ 1099511627776 := fun d hd => by
      have := List.any_eq_false.1 hf.2 d hd
      simp at this
      omega
    exact hx ▸ RMoved_any rfl (by omega) (hR.below (Nat.le_refl _) hb) h2 (by omega) p (by omega) (by omega)
  obtain ⟨N, hN⟩ : ∃ N, ds.length = N := ⟨_, rfl⟩
  rw [hN] at CM CF CD
  rw [hN]
  clear hR hd hx hF hN
  go_enter Try.func3, Try.ntmps3
  go_wp2_with (go_at_call 9; refine CL.mono ?_; clear CL; rintro e w1 ⟨rfl, hb1⟩; have HB1 : Hid (Below w.heap.size w w1) := hb1; clear hb1)
  go_loopw [9] (fun t9 wr => ∃ k : Nat, k ≤ 256 ∧ t9 = .int .i64 k ∧ wr = w1) (fun t9 _ => 256 - (intOf t9).toNat)
  case atStart => exact ⟨0, by omega, rfl, rfl⟩
  case round =>
    obtain ⟨k, hk, rfl, rfl⟩ := hrel
    by_cases hlt : k < 256
    · have CG' := CG.out k wr hlt
      have CR' := CR.out k wr hlt
      obtain ⟨q, hq⟩ : ∃ q, gd k = q := ⟨_, rfl⟩
      rw [hq] at CG' CR'
      clear hq CM CF CD
      go_wp2_with (first | (go_at_call 10; refine CG'.mono ?_; rintro e w2 ⟨rfl, rfl⟩) | (go_at_call 11; refine CR'.mono ?_; rintro e w3 ⟨rfl, rfl⟩))
      exact ⟨⟨k + 1, by omega, by go_num, trivial⟩, by simp [intOf]; omega⟩
    · clear CG CR
      cases F with
      | true =>
        go_wp2_with (first | (go_at_call 12; refine (CM.out _ HB1.out).mono ?_; clear CM; rintro e w2 ⟨rfl, hb2⟩; have HB2 : Hid (Below w.heap.size w w2) := HB1.out.trans (hb2.mono HB1.out.size); clear hb2) | (go_at_call 13; refine (CF.out _ HB2.out).mono ?_; clear CF; rintro e w3 ⟨rfl, hb3⟩; have HB3 : Hid (Below w.heap.size w w3) := HB2.out.trans (hb3.mono HB2.out.size); clear hb3))
        go_ret
        exact ⟨rfl, HB3.out⟩
      | false =>
        have CD2 : Hid (∀ w1, Below w.heap.size w w1 → Calls Try.prog 14 #[.int .i64 p, .slice a N cap] w1 fun e w' => e = .returned (.int .i64 x) ∧ Below w1.heap.size w1 w') := fun w1 hb => CD.out w1 hb rfl
        clear CD
        go_wp2_with (first | (go_at_call 12; refine (CM.out _ HB1.out).mono ?_; clear CM; rintro e w2 ⟨rfl, hb2⟩; have HB2 : Hid (Below w.heap.size w w2) := HB1.out.trans (hb2.mono HB1.out.size); clear hb2) | (go_at_call 13; refine (CF.out _ HB2.out).mono ?_; clear CF; rintro e w3 ⟨rfl, hb3⟩; have HB3 : Hid (Below w.heap.size w w3) := HB2.out.trans (hb3.mono HB2.out.size); clear hb3) | (go_at_call 14; refine (CD2.out _ HB3.out).mono ?_; clear CD2; rintro e w4 ⟨rfl, hb4⟩; have HB4 : Hid (Below w.heap.size w w4) := HB3.out.trans (hb4.mono HB3.out.size); clear hb4))
        go_ret
        exact ⟨by simp, HB4.out⟩
end Go.Proofs.Ytiehhafbblbbiaa
