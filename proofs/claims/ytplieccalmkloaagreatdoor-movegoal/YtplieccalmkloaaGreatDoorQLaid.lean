/-
  The statements' own laid and goes of package move: a new store; the answers that the document's example fixes. Conditions: the two tables of unicode/utf8 lie as their text lays them.
-/
import Derived.Test.YtplieccalmkloaaGreatDoorQGo
import Derived.Test.YtplieccalmkloaaGreatDoorQMathC
import Derived.Test.YtplieccalmkloaaGreatDoorPkTB
namespace Go.Proofs.YtplieccalmkloaaGreatDoor.Sto
open Go.RowKit Go.Shelf Bod Wid
open Gap (lim)

set_option maxRecDepth 100000 in
set_option maxHeartbeats 1000000 in
theorem laid_any (w : World) (hE : Ev w) (s : ByteArray) (hs : s.size ≤ 1073741824) (kd : Nat) (hk : kd ≤ 255) : Calls Tryz.prog 7 #[.int .u8 kd, .string s] w fun e W' => ∃ p, e = .returned (.pointer p) ∧ Sv W' (.pointer p) s ∧ Below w.heap.size w W' := by
  have hl : lim 1073741824 = 1073741824 := by decide
  have C : Hid (∀ x : Int, Calls Tryz.prog 20 #[.int .i64 x, .int .i64 kd, .int .i64 ((kd : Int) + 8), .int .i64 1073741824, .string s] w fun e W' => ∃ b : Nat, e = .returned (.tuple #[.pointer (some ⟨b, 0, none⟩), .int .i64 0]) ∧ Hid (Sv W' (.pointer (some ⟨b, 0, none⟩)) s ∧ Below w.heap.size w W')) := fun x => by
    refine (snew_ok w x kd ((kd : Int) + 8) 1073741824 s (by rw [hl]; exact hs) (by rw [hl]; simp [nwK, Sk.fit]; omega) hE).mono ?_
    rintro e W' ⟨b, q1, y, K, h1, h2, h3, h4, h5, h6, h7⟩
    exact ⟨b, q1, ⟨⟨_, _, K, h1.spt, h1.hold, h3⟩, hE.below h5⟩, h5⟩
  have hk' : (kd : Int) ≤ 255 := by omega
  clear hE hs hl
  go_enter Tryz.func7, Tryz.ntmps7
  go_wp2_with (go_at_call 20; refine (C.out _).mono ?_; clear C; rintro e w1 ⟨b, rfl, HB⟩)
  go_ret
  exact ⟨_, rfl, HB.out.1, HB.out.2⟩
/-- the document's text -/
def exm : ByteArray := ⟨#[97, 98, 10, 228, 184, 128, 99, 10, 100]⟩
theorem exm0 : IsS exm 0 (some (0, 2)) := ⟨⟨by decide +kernel, .inl rfl, by decide +kernel⟩, some 3, ⟨by decide +kernel, by decide +kernel, by decide +kernel, by decide +kernel⟩, by decide +kernel⟩
theorem exm1 : IsS exm 1 (some (3, 7)) := ⟨⟨by decide +kernel, .inr (by decide +kernel), by decide +kernel⟩, some 8, ⟨by decide +kernel, by decide +kernel, by decide +kernel, by decide +kernel⟩, by decide +kernel⟩
theorem exm_n : cn exm 0 1 = 0 ∧ cn exm 0 9 = 2 ∧ cn exm 0 7 = 1 ∧ exm.size = 9 := by decide +kernel
theorem exm_a : IsA exm 1 1 (some 3) := ⟨3, 7, exm1, by decide +kernel, by decide +kernel, by decide +kernel, by decide +kernel, fun j h1 h2 hc => by
  have : j = 4 ∨ j = 5 ∨ j = 6 ∨ j = 7 := by omega
  rcases this with rfl | rfl | rfl | rfl
  · exact absurd hc (by decide +kernel)
  · exact absurd hc (by decide +kernel)
  · decide +kernel
  · decide +kernel⟩
theorem exm_p1 : Pl exm 1 0 2 := ⟨by rw [exm_n.1]; exact exm0, by omega, by omega, by decide +kernel, ⟨by omega, .inl rfl, by decide +kernel⟩⟩
theorem exm_p7 : Pl exm 7 3 7 := ⟨by rw [exm_n.2.2.1]; exact exm1, by omega, by omega, by decide +kernel, ⟨by omega, .inr (by decide +kernel), by decide +kernel⟩⟩
theorem exm_c1 : colF exm 1 = 1 := by rw [col_pl exm_p1]; decide +kernel
theorem exm_c7 : colF exm (snp exm 7) = 3 := by
  have : snp exm 7 = 7 := snp_self (s := exm) (a := 7) exm_p7.cb
  rw [this, col_pl exm_p7]; decide +kernel
theorem exm_g1 : goP exm 11 1 (-1) 1 = (3, 1, 0) := by
  have h1 : snp exm 1 = 1 := snp_self (s := exm) (a := 1) exm_p1.cb
  rw [goP_in (by omega), h1, show max (-1 : Int) (-1) = -1 from rfl, show cnt 1 = 1 from rfl]
  have h2 : wantF exm 11 1 (-1) = 1 := by unfold wantF; rw [if_pos (.inr rfl), if_pos rfl, exm_c1]
  have h3 : lead exm 11 1 1 1 = (3, true) := by
    show away exm 1 1 ((1 : Nat) : Int) = _
    have e : hl exm ((cn exm 0 1 : Int) + ((1 : Nat) : Int)) = 1 := by unfold hl; rw [exm_n.2.2.2, exm_n.1, exm_n.2.1]; decide
    unfold away
    rw [e, plcF_eq exm_a, exm_n.1]
    decide
  rw [h2, h3]
  rfl
theorem exm_g2 : goP exm 11 9 (-1) 1 = (9, -1, 8) := by
  have h1 : snp exm 9 = 9 := snp_self (s := exm) (a := 9) (by decide +kernel)
  rw [goP_in (by omega), h1, show max (-1 : Int) (-1) = -1 from rfl, show cnt 1 = 1 from rfl]
  generalize wantF exm 11 9 (-1) = W
  have h3 : (lead exm 11 9 W 1).2 = false := by
    show (away exm 9 W ((1 : Nat) : Int)).2 = _
    have e : hl exm ((cn exm 0 9 : Int) + ((1 : Nat) : Int)) = 2 := by unfold hl; rw [exm_n.2.2.2, exm_n.2.1]; decide
    unfold away
    rw [e, exm_n.2.1]
    show (!decide ((2 : Int) = ((2 : Nat) : Int))) = false
    decide
  rw [if_neg (by rw [h3]; simp)]
  rfl
set_option maxRecDepth 100000 in
set_option maxHeartbeats 2000000 in
theorem goes_any (hM : Tryz.prog.follows .mixedOrders = true) (w : World) (hE : Ev w) : Calls Tryz.prog 6 #[] w fun e W' => e = .returned (.bool true) ∧ Below w.heap.size w W' := by
  have C0 : Hid (Calls Tryz.prog 7 #[.int .u8 1, .string ⟨#[97, 98, 10, 228, 184, 128, 99, 10, 100]⟩] w fun e W' => ∃ p, e = .returned (.pointer p) ∧ Hid (Sv W' (.pointer p) exm ∧ Below w.heap.size w W')) := laid_any w hE exm (by decide +kernel) 1 (by omega)
  have C1 : Hid (∀ W p, Hid (Sv W (.pointer p) exm ∧ Below w.heap.size w W) → Calls Tryz.prog 8 #[.pointer p, .int .i64 11, .int .i64 1, .int .i64 (-1), .int .i64 1] W fun e W' => e = .returned (.tuple #[.int .i64 3, .int .i64 1, .int .i64 0]) ∧ Hid (Sv W' (.pointer p) exm ∧ Below w.heap.size w W')) := fun W p hW => (Go_any hM hW.out.1 11 1 (-1) 1 (by omega) (by omega)).mono fun e W' ⟨q1, q2⟩ => ⟨by rw [q1, exm_g1], hW.out.1.below q2, Below.on hW.out.2 q2⟩
  have C2 : Hid (∀ W p, Hid (Sv W (.pointer p) exm ∧ Below w.heap.size w W) → Calls Tryz.prog 8 #[.pointer p, .int .i64 11, .int .i64 9, .int .i64 (-1), .int .i64 1] W fun e W' => e = .returned (.tuple #[.int .i64 9, .int .i64 (-1), .int .i64 8]) ∧ Hid (Sv W' (.pointer p) exm ∧ Below w.heap.size w W')) := fun W p hW => (Go_any hM hW.out.1 11 9 (-1) 1 (by omega) (by omega)).mono fun e W' ⟨q1, q2⟩ => ⟨by rw [q1, exm_g2], hW.out.1.below q2, Below.on hW.out.2 q2⟩
  have C3 : Hid (∀ W p, Hid (Sv W (.pointer p) exm ∧ Below w.heap.size w W) → Calls Tryz.prog 9 #[.pointer p, .int .i64 7] W fun e W' => e = .returned (.int .i64 3) ∧ Hid (Below w.heap.size w W')) := fun W p hW => (Column_any hM hW.out.1 7 (by omega)).mono fun e W' ⟨q1, q2⟩ => ⟨by rw [q1, exm_c7], Below.on hW.out.2 q2⟩
  have C4 : Hid (∀ W, Hid (Below w.heap.size w W) → Calls Tryz.prog 19 #[.int .i64 10] W fun e W' => e = .returned (.bool true) ∧ Hid (Below w.heap.size w W')) := fun W hW => (Motion_any 10 W).mono fun e W' ⟨q1, q2⟩ => ⟨by rw [q1]; rfl, Below.on hW.out q2⟩
  have C5 : Hid (∀ W, Hid (Below w.heap.size w W) → Calls Tryz.prog 19 #[.int .i64 32] W fun e W' => e = .returned (.bool false) ∧ Hid (Below w.heap.size w W')) := fun W hW => (Motion_any 32 W).mono fun e W' ⟨q1, q2⟩ => ⟨by rw [q1]; rfl, Below.on hW.out q2⟩
  clear hE hM
  have T1 : True := trivial
  have T2 : True := trivial
  go_enter Tryz.func6, Tryz.ntmps6
  go_wp2_with (first
    | (go_at_call 7; refine C0.out.mono ?_; clear C0; rintro e w1 ⟨p, rfl, HB⟩)
    | (go_at_call 8; clear T1; refine (C1.out _ _ HB).mono ?_; clear C1 HB; rintro e w2 ⟨rfl, HB⟩)
    | (go_at_call 8; refine (C2.out _ _ HB).mono ?_; clear C2 HB; rintro e w3 ⟨rfl, HB⟩)
    | (go_at_call 9; refine (C3.out _ _ HB).mono ?_; clear C3 HB; rintro e w4 ⟨rfl, HB⟩)
    | (go_at_call 19; clear T2; refine (C4.out _ HB).mono ?_; clear C4 HB; rintro e w5 ⟨rfl, HB⟩)
    | (go_at_call 19; refine (C5.out _ HB).mono ?_; clear C5 HB; rintro e w6 ⟨rfl, HB⟩))
  go_ret
  exact ⟨rfl, HB.out⟩
end Go.Proofs.YtplieccalmkloaaGreatDoor.Sto
