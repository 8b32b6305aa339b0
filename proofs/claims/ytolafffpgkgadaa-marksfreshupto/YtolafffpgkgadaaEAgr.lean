/-
  The law's agree of a set of package marks and the document's own with the same marks. Conditions: those of each theorem.
-/
import Derived.Test.YtolafffpgkgadaaEDrop
import Derived.Test.YtolafffpgkgadaaESame
namespace Go.Proofs.Ytolafffpgkgadaa
open Go.RowKit

set_option maxRecDepth 100000 in
set_option maxHeartbeats 1000000 in
theorem agree_any {w : World} {sb rb base : Nat} {mb : Option Nat} {v : Value} {L : Ml} (h : St w sb mb L) (hr : Rs w base rb v L) (hg : Gdl L) :
    Calls Try.prog 11 #[.pointer (some ⟨sb, 0, none⟩), .pointer (some ⟨rb, 0, none⟩)] w fun e w' => e = .returned (.bool true) ∧ Below w.heap.size w w' := by
  obtain ⟨N, hN⟩ : ∃ N, L.length = N := ⟨_, rfl⟩
  have hl8 := len8 hr.ris hr.fit
  rw [hN] at hl8
  have CA : Hid (Calls Try.prog 25 #[.pointer (some ⟨sb, 0, none⟩)] w fun e W' => ∃ a c, e = .returned (.slice a N c) ∧ RdK W' (.slice a N c) L ∧ Below w.heap.size w W') := by
    have := All_rd h hg
    rw [hN] at this
    exact this
  have CB : Hid (∀ W, Below w.heap.size w W → Calls Try.prog 16 #[.pointer (some ⟨rb, 0, none⟩)] W fun e W' => ∃ a c, e = .returned (.slice a N c) ∧ RdK W' (.slice a N c) L ∧ Below W.heap.size W W') := fun W hb => by
    refine (rall_any (hr.below hb)).mono ?_
    rintro e w' ⟨v, rfl, h1, h2⟩
    have hk := RdK.of_row h1
    obtain ⟨a, c, e1, _⟩ := id hk
    rw [hN] at e1
    subst e1
    exact ⟨a, c, rfl, hk, h2⟩
  have CS : Hid (∀ W a c a' c', RdK W (.slice a N c) L → RdK W (.slice a' N c') L → Calls Try.prog 30 #[.slice a N c, .slice a' N c'] W fun e w' => e = .returned (.bool true) ∧ Below W.heap.size W w') := fun W a c a' c' h1 h2 => same_any hN (by omega) h1 h2
  have CL : Hid (∀ W, Below w.heap.size w W → Calls Try.prog 26 #[.pointer (some ⟨sb, 0, none⟩)] W fun e w' => e = .returned (.int .i64 (N : Int)) ∧ w' = W) := fun W hb => by
    have := len_any (h.below hb)
    rw [hN] at this
    exact this
  have CM : Hid (∀ W, Below w.heap.size w W → Calls Try.prog 33 #[.pointer (some ⟨rb, 0, none⟩)] W fun e w' => e = .returned (.int .i64 (N : Int)) ∧ w' = W) := fun W hb => by
    have := rlen_any (hr.below hb)
    rw [hN] at this
    exact this
  have CG : Hid (∀ W (n : Nat), Below w.heap.size w W → n < 256 → ∃ x y, Calls Try.prog 23 #[.pointer (some ⟨sb, 0, none⟩), .int .u8 (n : Int)] W (fun e w' => e = .returned (.tuple #[.int .i64 x, .int .i64 y]) ∧ w' = W) ∧ Calls Try.prog 34 #[.pointer (some ⟨rb, 0, none⟩), .int .u8 (n : Int)] W fun e w' => e = .returned (.tuple #[.int .i64 x, .int .i64 y]) ∧ w' = W) := fun W n hb hn => ⟨(getE n L).1, (getE n L).2, get_any (h.below hb) hn, rget_any (hr.below hb) hn⟩
  clear h hr hg hN
  go_enter Try.func11, Try.ntmps11
  go_wp2_with (first
    | (go_at_call 25; refine CA.out.mono ?_; clear CA; rintro e w1 ⟨a1, c1, rfl, hr1, hb1⟩; have H1 : Hid (RdK w1 (.slice a1 N c1) L ∧ Below w.heap.size w w1) := ⟨hr1, hb1⟩; clear hr1 hb1)
    | (go_at_call 16; refine (CB.out _ H1.out.2).mono ?_; clear CB; rintro e w2 ⟨a2, c2, rfl, hr2, hb2⟩; have H2 : Hid (RdK w2 (.slice a1 N c1) L ∧ RdK w2 (.slice a2 N c2) L ∧ Below w.heap.size w w2) := ⟨H1.out.1.below (Nat.le_refl _) hb2, hr2, H1.out.2.trans (hb2.mono H1.out.2.size)⟩; clear hr2 hb2 H1)
    | (go_at_call 30; refine (CS.out _ _ _ _ _ H2.out.1 H2.out.2.1).mono ?_; clear CS; rintro e w3 ⟨rfl, hb3⟩; have H3 : Hid (Below w.heap.size w w3) := H2.out.2.2.trans (hb3.mono H2.out.2.2.size); clear hb3 H2)
    | (go_at_call 26; refine (CL.out _ H3.out).mono ?_; clear CL; rintro e w4 ⟨rfl, hw4⟩; subst hw4)
    | (go_at_call 33; refine (CM.out _ H3.out).mono ?_; clear CM; rintro e w5 ⟨rfl, hw5⟩; subst hw5))
  go_loopw [5] (fun t5 wr => ∃ k : Nat, 64 ≤ k ∧ k ≤ 124 ∧ t5 = .int .u8 k ∧ wr = w5) (fun t5 _ => 124 - (intOf t5).toNat)
  case atStart => exact ⟨64, by omega, by omega, rfl, rfl⟩
  case round =>
    obtain ⟨k, hk0, hk, rfl, rfl⟩ := hrel
    by_cases hlt : k < 124
    · obtain ⟨x, y, C1, C2⟩ := CG.out wr k H3.out (by omega)
      clear CG
      go_wp2_with (first
        | (go_at_call 23; refine C1.mono ?_; clear C1; rintro e w4 ⟨rfl, rfl⟩)
        | (go_at_call 34; refine C2.mono ?_; clear C2; rintro e w5 ⟨rfl, rfl⟩))
      exact ⟨⟨k + 1, by omega, by omega, by go_num, trivial⟩, by simp [intOf]; omega⟩
    · go_wp2
      go_ret
      exact ⟨rfl, H3.out⟩
end Go.Proofs.Ytolafffpgkgadaa
