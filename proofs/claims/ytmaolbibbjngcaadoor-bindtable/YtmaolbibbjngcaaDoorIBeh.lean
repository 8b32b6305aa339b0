/-
  Package bind's behind and command: what IMath tells of a key. Conditions: the tables lie in memory; the key's Char is a number of 32 bits, its Text no longer than a text may be.
-/
import Derived.Test.YtmaolbibbjngcaaDoorITbl
namespace Go.Proofs.YtmaolbibbjngcaaDoor
open Go.RowKit

section
set_option maxRecDepth 100000
set_option maxHeartbeats 2000000
theorem beh_qt (k : Ky) (hk : k.Ok) (w : World) (_hT : Tb w) (hq : quoP k = true) : Calls Tryd.prog 42 #[.string ⟨#[113]⟩, kyv k] w fun e w' => e = .returned (.int .i64 (1)) ∧ Below w.heap.size w w' := by
  have H0 : Hid (Kx w k (w.alloc (.cells (kyc k) 30))) := kx0 w k
  have CQ : Hid (∀ W : World, Below w.heap.size w W → Calls Tryd.prog 54 #[kyv k] W fun e w' => e = .returned (.bool true) ∧ Below W.heap.size W w') := fun W hW => by have := quo_any k hk W; rw [hq] at this; exact this
  clear hk _hT
  obtain ⟨a, c, ct, m, sh, tx⟩ := k
  unfold kyv at *
  unfold kyc at H0
  go_enter Tryd.func42, Tryd.ntmps42
  go_wp2_with (first | (go_at_call 54; refine (CQ.out _ H0.out.bel).mono ?_; clear CQ; rintro e w1 ⟨rfl, hw1⟩; have H1 : Hid (Kx w _ w1) := H0.out.below hw1; obtain ⟨w10, w11, w12, w13, w14, w15, w16⟩ := box6 H1.out.bx))
  go_ret
  exact ⟨rfl, H1.out.bel⟩
theorem beh_qf (k : Ky) (hk : k.Ok) (w : World) (_hT : Tb w) (hq : quoP k = false) : Calls Tryd.prog 42 #[.string ⟨#[113]⟩, kyv k] w fun e w' => e = .returned (.int .i64 (40)) ∧ Below w.heap.size w w' := by
  have H0 : Hid (Kx w k (w.alloc (.cells (kyc k) 30))) := kx0 w k
  have CQ : Hid (∀ W : World, Below w.heap.size w W → Calls Tryd.prog 54 #[kyv k] W fun e w' => e = .returned (.bool false) ∧ Below W.heap.size W w') := fun W hW => by have := quo_any k hk W; rw [hq] at this; exact this
  clear hk _hT
  obtain ⟨a, c, ct, m, sh, tx⟩ := k
  unfold kyv at *
  unfold kyc at H0
  go_enter Tryd.func42, Tryd.ntmps42
  go_wp2_with (first | (go_at_call 54; refine (CQ.out _ H0.out.bel).mono ?_; clear CQ; rintro e w1 ⟨rfl, hw1⟩; have H1 : Hid (Kx w _ w1) := H0.out.below hw1; obtain ⟨w10, w11, w12, w13, w14, w15, w16⟩ := box6 H1.out.bx))
  go_ret
  exact ⟨rfl, H1.out.bel⟩
theorem beh_mi (k : Ky) (_hk : k.Ok) (w : World) (_hT : Tb w) (hi : isP k 2 false 71 = true) : Calls Tryd.prog 42 #[.string ⟨#[109]⟩, kyv k] w fun e w' => e = .returned (.int .i64 (37)) ∧ Below w.heap.size w w' := by
  have H0 : Hid (Kx w k (w.alloc (.cells (kyc k) 30))) := kx0 w k
  have CI : Hid (∀ W : World, Below w.heap.size w W → Calls Tryd.prog 48 #[kyv k, .int .i64 2, .bool false, .int .i32 71] W fun e w' => e = .returned (.bool true) ∧ Below W.heap.size W w') := fun W hW => by have := is_any k 2 false 71 W; rw [hi] at this; exact this
  clear _hk _hT
  obtain ⟨a, c, ct, m, sh, tx⟩ := k
  unfold kyv at *
  unfold kyc at H0
  go_enter Tryd.func42, Tryd.ntmps42
  go_wp2_with (first | (go_at_call 48; refine (CI.out _ H0.out.bel).mono ?_; clear CI; rintro e w1 ⟨rfl, hw1⟩; have H1 : Hid (Kx w _ w1) := H0.out.below hw1; obtain ⟨w10, w11, w12, w13, w14, w15, w16⟩ := box6 H1.out.bx))
  go_ret
  exact ⟨rfl, H1.out.bel⟩
theorem beh_gi (k : Ky) (_hk : k.Ok) (w : World) (_hT : Tb w) (hi : isP k 2 false 71 = true) : Calls Tryd.prog 42 #[.string ⟨#[39]⟩, kyv k] w fun e w' => e = .returned (.int .i64 (37)) ∧ Below w.heap.size w w' := by
  have H0 : Hid (Kx w k (w.alloc (.cells (kyc k) 30))) := kx0 w k
  have CI : Hid (∀ W : World, Below w.heap.size w W → Calls Tryd.prog 48 #[kyv k, .int .i64 2, .bool false, .int .i32 71] W fun e w' => e = .returned (.bool true) ∧ Below W.heap.size W w') := fun W hW => by have := is_any k 2 false 71 W; rw [hi] at this; exact this
  clear _hk _hT
  obtain ⟨a, c, ct, m, sh, tx⟩ := k
  unfold kyv at *
  unfold kyc at H0
  go_enter Tryd.func42, Tryd.ntmps42
  go_wp2_with (first | (go_at_call 48; refine (CI.out _ H0.out.bel).mono ?_; clear CI; rintro e w1 ⟨rfl, hw1⟩; have H1 : Hid (Kx w _ w1) := H0.out.below hw1; obtain ⟨w10, w11, w12, w13, w14, w15, w16⟩ := box6 H1.out.bx))
  go_ret
  exact ⟨rfl, H1.out.bel⟩
theorem beh_xi (k : Ky) (_hk : k.Ok) (w : World) (_hT : Tb w) (hi : isP k 2 false 71 = true) : Calls Tryd.prog 42 #[.string ⟨#[120]⟩, kyv k] w fun e w' => e = .returned (.int .i64 (37)) ∧ Below w.heap.size w w' := by
  have H0 : Hid (Kx w k (w.alloc (.cells (kyc k) 30))) := kx0 w k
  have CI : Hid (∀ W : World, Below w.heap.size w W → Calls Tryd.prog 48 #[kyv k, .int .i64 2, .bool false, .int .i32 71] W fun e w' => e = .returned (.bool true) ∧ Below W.heap.size W w') := fun W hW => by have := is_any k 2 false 71 W; rw [hi] at this; exact this
  clear _hk _hT
  obtain ⟨a, c, ct, m, sh, tx⟩ := k
  unfold kyv at *
  unfold kyc at H0
  go_enter Tryd.func42, Tryd.ntmps42
  go_wp2_with (first | (go_at_call 48; refine (CI.out _ H0.out.bel).mono ?_; clear CI; rintro e w1 ⟨rfl, hw1⟩; have H1 : Hid (Kx w _ w1) := H0.out.below hw1; obtain ⟨w10, w11, w12, w13, w14, w15, w16⟩ := box6 H1.out.bx))
  go_ret
  exact ⟨rfl, H1.out.bel⟩
theorem beh_mt (k : Ky) (hk : k.Ok) (w : World) (_hT : Tb w) (hi : isP k 2 false 71 = false) (hm : mrkP k = true) : Calls Tryd.prog 42 #[.string ⟨#[109]⟩, kyv k] w fun e w' => e = .returned (.int .i64 (29)) ∧ Below w.heap.size w w' := by
  have H0 : Hid (Kx w k (w.alloc (.cells (kyc k) 30))) := kx0 w k
  have CI : Hid (∀ W : World, Below w.heap.size w W → Calls Tryd.prog 48 #[kyv k, .int .i64 2, .bool false, .int .i32 71] W fun e w' => e = .returned (.bool false) ∧ Below W.heap.size W w') := fun W hW => by have := is_any k 2 false 71 W; rw [hi] at this; exact this
  have CM : Hid (∀ W : World, Below w.heap.size w W → Calls Tryd.prog 55 #[kyv k] W fun e w' => e = .returned (.bool true) ∧ Below W.heap.size W w') := fun W hW => by have := mrk_any k hk W; rw [hm] at this; exact this
  clear hk _hT
  obtain ⟨a, c, ct, m, sh, tx⟩ := k
  unfold kyv at *
  unfold kyc at H0
  go_enter Tryd.func42, Tryd.ntmps42
  go_wp2_with (first | (go_at_call 48; refine (CI.out _ H0.out.bel).mono ?_; clear CI; rintro e w1 ⟨rfl, hw1⟩; have H1 : Hid (Kx w _ w1) := H0.out.below hw1; obtain ⟨w10, w11, w12, w13, w14, w15, w16⟩ := box6 H1.out.bx) | (go_at_call 55; refine (CM.out _ H1.out.bel).mono ?_; clear CM; rintro e w2 ⟨rfl, hw2⟩; have H2 : Hid (Kx w _ w2) := H1.out.below hw2; obtain ⟨w20, w21, w22, w23, w24, w25, w26⟩ := box6 H2.out.bx))
  go_ret
  exact ⟨rfl, H2.out.bel⟩
theorem beh_mf (k : Ky) (hk : k.Ok) (w : World) (_hT : Tb w) (hi : isP k 2 false 71 = false) (hm : mrkP k = false) : Calls Tryd.prog 42 #[.string ⟨#[109]⟩, kyv k] w fun e w' => e = .returned (.int .i64 (40)) ∧ Below w.heap.size w w' := by
  have H0 : Hid (Kx w k (w.alloc (.cells (kyc k) 30))) := kx0 w k
  have CI : Hid (∀ W : World, Below w.heap.size w W → Calls Tryd.prog 48 #[kyv k, .int .i64 2, .bool false, .int .i32 71] W fun e w' => e = .returned (.bool false) ∧ Below W.heap.size W w') := fun W hW => by have := is_any k 2 false 71 W; rw [hi] at this; exact this
  have CM : Hid (∀ W : World, Below w.heap.size w W → Calls Tryd.prog 55 #[kyv k] W fun e w' => e = .returned (.bool false) ∧ Below W.heap.size W w') := fun W hW => by have := mrk_any k hk W; rw [hm] at this; exact this
  clear hk _hT
  obtain ⟨a, c, ct, m, sh, tx⟩ := k
  unfold kyv at *
  unfold kyc at H0
  go_enter Tryd.func42, Tryd.ntmps42
  go_wp2_with (first | (go_at_call 48; refine (CI.out _ H0.out.bel).mono ?_; clear CI; rintro e w1 ⟨rfl, hw1⟩; have H1 : Hid (Kx w _ w1) := H0.out.below hw1; obtain ⟨w10, w11, w12, w13, w14, w15, w16⟩ := box6 H1.out.bx) | (go_at_call 55; refine (CM.out _ H1.out.bel).mono ?_; clear CM; rintro e w2 ⟨rfl, hw2⟩; have H2 : Hid (Kx w _ w2) := H1.out.below hw2; obtain ⟨w20, w21, w22, w23, w24, w25, w26⟩ := box6 H2.out.bx))
  go_ret
  exact ⟨rfl, H2.out.bel⟩
theorem beh_gt (k : Ky) (hk : k.Ok) (w : World) (_hT : Tb w) (hi : isP k 2 false 71 = false) (hm : mrkP k = true) : Calls Tryd.prog 42 #[.string ⟨#[39]⟩, kyv k] w fun e w' => e = .returned (.int .i64 (30)) ∧ Below w.heap.size w w' := by
  have H0 : Hid (Kx w k (w.alloc (.cells (kyc k) 30))) := kx0 w k
  have CI : Hid (∀ W : World, Below w.heap.size w W → Calls Tryd.prog 48 #[kyv k, .int .i64 2, .bool false, .int .i32 71] W fun e w' => e = .returned (.bool false) ∧ Below W.heap.size W w') := fun W hW => by have := is_any k 2 false 71 W; rw [hi] at this; exact this
  have CM : Hid (∀ W : World, Below w.heap.size w W → Calls Tryd.prog 55 #[kyv k] W fun e w' => e = .returned (.bool true) ∧ Below W.heap.size W w') := fun W hW => by have := mrk_any k hk W; rw [hm] at this; exact this
  clear hk _hT
  obtain ⟨a, c, ct, m, sh, tx⟩ := k
  unfold kyv at *
  unfold kyc at H0
  go_enter Tryd.func42, Tryd.ntmps42
  go_wp2_with (first | (go_at_call 48; refine (CI.out _ H0.out.bel).mono ?_; clear CI; rintro e w1 ⟨rfl, hw1⟩; have H1 : Hid (Kx w _ w1) := H0.out.below hw1; obtain ⟨w10, w11, w12, w13, w14, w15, w16⟩ := box6 H1.out.bx) | (go_at_call 55; refine (CM.out _ H1.out.bel).mono ?_; clear CM; rintro e w2 ⟨rfl, hw2⟩; have H2 : Hid (Kx w _ w2) := H1.out.below hw2; obtain ⟨w20, w21, w22, w23, w24, w25, w26⟩ := box6 H2.out.bx))
  go_ret
  exact ⟨rfl, H2.out.bel⟩
theorem beh_gf (k : Ky) (hk : k.Ok) (w : World) (_hT : Tb w) (hi : isP k 2 false 71 = false) (hm : mrkP k = false) : Calls Tryd.prog 42 #[.string ⟨#[39]⟩, kyv k] w fun e w' => e = .returned (.int .i64 (40)) ∧ Below w.heap.size w w' := by
  have H0 : Hid (Kx w k (w.alloc (.cells (kyc k) 30))) := kx0 w k
  have CI : Hid (∀ W : World, Below w.heap.size w W → Calls Tryd.prog 48 #[kyv k, .int .i64 2, .bool false, .int .i32 71] W fun e w' => e = .returned (.bool false) ∧ Below W.heap.size W w') := fun W hW => by have := is_any k 2 false 71 W; rw [hi] at this; exact this
  have CM : Hid (∀ W : World, Below w.heap.size w W → Calls Tryd.prog 55 #[kyv k] W fun e w' => e = .returned (.bool false) ∧ Below W.heap.size W w') := fun W hW => by have := mrk_any k hk W; rw [hm] at this; exact this
  clear hk _hT
  obtain ⟨a, c, ct, m, sh, tx⟩ := k
  unfold kyv at *
  unfold kyc at H0
  go_enter Tryd.func42, Tryd.ntmps42
  go_wp2_with (first | (go_at_call 48; refine (CI.out _ H0.out.bel).mono ?_; clear CI; rintro e w1 ⟨rfl, hw1⟩; have H1 : Hid (Kx w _ w1) := H0.out.below hw1; obtain ⟨w10, w11, w12, w13, w14, w15, w16⟩ := box6 H1.out.bx) | (go_at_call 55; refine (CM.out _ H1.out.bel).mono ?_; clear CM; rintro e w2 ⟨rfl, hw2⟩; have H2 : Hid (Kx w _ w2) := H1.out.below hw2; obtain ⟨w20, w21, w22, w23, w24, w25, w26⟩ := box6 H2.out.bx))
  go_ret
  exact ⟨rfl, H2.out.bel⟩
theorem beh_xe (k : Ky) (hk : k.Ok) (w : World) (hT : Tb w) (hi : isP k 2 false 71 = false) (r : Int) (hr : extP k = r) : Calls Tryd.prog 42 #[.string ⟨#[120]⟩, kyv k] w fun e w' => e = .returned (.int .i64 (r)) ∧ Below w.heap.size w w' := by
  have H0 : Hid (Kx w k (w.alloc (.cells (kyc k) 30))) := kx0 w k
  have CI : Hid (∀ W : World, Below w.heap.size w W → Calls Tryd.prog 48 #[kyv k, .int .i64 2, .bool false, .int .i32 71] W fun e w' => e = .returned (.bool false) ∧ Below W.heap.size W w') := fun W hW => by have := is_any k 2 false 71 W; rw [hi] at this; exact this
  have CE : Hid (∀ W : World, Below w.heap.size w W → Calls Tryd.prog 56 #[kyv k] W fun e w' => e = .returned (.int .i64 r) ∧ Below W.heap.size W w') := fun W hW => by have := ext_any k hk W (hT.below hW); rw [hr] at this; exact this
  clear hk hT
  obtain ⟨a, c, ct, m, sh, tx⟩ := k
  unfold kyv at *
  unfold kyc at H0
  go_enter Tryd.func42, Tryd.ntmps42
  go_wp2_with (first | (go_at_call 48; refine (CI.out _ H0.out.bel).mono ?_; clear CI; rintro e w1 ⟨rfl, hw1⟩; have H1 : Hid (Kx w _ w1) := H0.out.below hw1; obtain ⟨w10, w11, w12, w13, w14, w15, w16⟩ := box6 H1.out.bx) | (go_at_call 56; refine (CE.out _ H1.out.bel).mono ?_; clear CE; rintro e w2 ⟨rfl, hw2⟩; have H2 : Hid (Kx w _ w2) := H1.out.below hw2; obtain ⟨w20, w21, w22, w23, w24, w25, w26⟩ := box6 H2.out.bx))
  go_ret
  exact ⟨rfl, H2.out.bel⟩
end
theorem beh_any (b : ByteArray) (hb : Pn b) (k : Ky) (hk : k.Ok) (w : World) (hT : Tb w) : Calls Tryd.prog 42 #[.string b, kyv k] w fun e w' => e = .returned (.int .i64 (behP b k)) ∧ Below w.heap.size w w' := by
  unfold behP
  rcases hb with rfl | rfl | rfl | rfl
  · rw [if_pos rfl]
    cases hq : quoP k
    · exact beh_qf k hk w hT hq
    · exact beh_qt k hk w hT hq
  · rw [if_neg (by decide)]
    cases hi : isP k 2 false 71
    · rw [if_neg (by simp), if_neg (by intro h; exact absurd h.1 (by decide)), if_neg (by intro h; exact absurd h.1 (by decide)), if_pos rfl]
      exact beh_xe k hk w hT hi _ rfl
    · rw [if_pos rfl]
      exact beh_xi k hk w hT hi
  · rw [if_neg (by decide)]
    cases hi : isP k 2 false 71
    · rw [if_neg (by simp)]
      cases hm : mrkP k
      · rw [if_neg (by simp), if_neg (by simp), if_neg (by decide)]
        exact beh_mf k hk w hT hi hm
      · rw [if_pos ⟨rfl, rfl⟩]
        exact beh_mt k hk w hT hi hm
    · rw [if_pos rfl]
      exact beh_mi k hk w hT hi
  · rw [if_neg (by decide)]
    cases hi : isP k 2 false 71
    · rw [if_neg (by simp), if_neg (by intro h; exact absurd h.1 (by decide))]
      cases hm : mrkP k
      · rw [if_neg (by simp), if_neg (by decide)]
        exact beh_gf k hk w hT hi hm
      · rw [if_pos ⟨rfl, rfl⟩]
        exact beh_gt k hk w hT hi hm
    · rw [if_pos rfl]
      exact beh_gi k hk w hT hi
end Go.Proofs.YtmaolbibbjngcaaDoor
