/-
  The walk of the law HistPlays: every call of a history, in every order. Conditions: what the law reads is of at most 1048576 values and letters.
-/
import Derived.Test.YtgakgebhhmkclaaHLaw
import Derived.Test.YtgakgebhhmkclaaHStep
namespace Go.Proofs.Ytgakgebhhmkclaa
open Go.RowKit

def hO0 : Hs := Hs.new 3
def hO1 : Hs := hO0.add ⟨#[111, 116, 104, 101, 114]⟩
theorem other_facts : hO1.backA ⟨#[110, 111, 119]⟩ = (⟨#[111, 116, 104, 101, 114]⟩, 0) ∧ (hO1.back ⟨#[110, 111, 119]⟩).es.length = 1 := by
  refine ⟨?_, ?_⟩ <;> decide
/-- the two of package hist, apart -/
def P2 (w : World) (pb ob : Nat) (h g : Hs) (W : World) : Prop := ∃ F G, Pr W w.heap.size pb F h ∧ Pr W w.heap.size ob G g ∧ (∀ k, F k → ¬ G k) ∧ Below w.heap.size w W
/-- the pair, and the other -/
def P3 (w : World) (pb rb ob : Nat) (h g : Hs) (W : World) : Prop := ∃ U G, Pq W U w.heap.size pb rb h W ∧ (∀ k, U k → w.heap.size ≤ k) ∧ Pr W w.heap.size ob G g ∧ (∀ k, G k → ¬ U k) ∧ Below w.heap.size w W
theorem P3.step {w W W' : World} {pb rb ob : Nat} {h' g : Hs} {U G : Nat → Prop} (hU : ∀ k, U k → w.heap.size ≤ k) (hG : Pr W w.heap.size ob G g) (ha : ∀ k, G k → ¬ U k) (hb : Below w.heap.size w W) (hq : Pq W U w.heap.size pb rb h' W') : P3 w pb rb ob h' g W' := by
  obtain ⟨F', G', q1, q2, q3, q4⟩ := hq
  obtain ⟨r1, r2⟩ := hG.kept q4 ha
  refine ⟨_, G, ⟨F', G', q1, q2, q3, Mv.refl _ _⟩, fun k e => ?_, r1, r2, hb.trans (q4.low hU hb.size)⟩
  rcases e with e | e
  · exact (q1.fp e).1
  · exact (q2.fp e).1
theorem P3.below {w W W' : World} {pb rb ob : Nat} {h g : Hs} (k : P3 w pb rb ob h g W) (hb : Below W.heap.size W W') : P3 w pb rb ob h g W' := by
  obtain ⟨U, G, k1, k2, k3, k4, k5⟩ := k
  exact P3.step k2 k3 k4 k5 (k1.below hb)
set_option maxRecDepth 100000 in
set_option maxHeartbeats 4000000 in
theorem walk_of (b : Int) (oa : Option Addr) (on oc : Nat) (w : World) (hb : -9223372036854775808 ≤ b ∧ b ≤ 9223372036854775807) (os : List Hq) (hO : RdH w (.slice oa on oc) os) (ho : hqs os ≤ 1048576 ∧ ∀ q ∈ os, q.fit) :
    Calls Try.prog 3 #[.int .i64 b, .slice oa on oc] w fun e w' => e = .returned (.bool true) ∧ Below w.heap.size w w' := by
  have hN2 : os.length = on := by obtain ⟨_, _, e, _⟩ := hO; cases e; rfl
  have hol := hqs_len os
  have hon : on ≤ 1048576 := by omega
  obtain ⟨x1, x2⟩ := other_facts
  have HF : Hid (RdH w (.slice oa on oc) os ∧ os.length = on ∧ ∀ q ∈ os, q.fit ∧ q.2.1.size ≤ 1099511627776) := ⟨hO, hN2, fun q hq => ⟨ho.2 q hq, by have := hqs_mem hq; omega⟩⟩
  have CK : Hid (Calls Try.prog 9 #[] w fun e w' => e = .returned (.bool true) ∧ Hid (Below w.heap.size w w')) := awake_any w
  have C1 : Hid (∀ W, Below w.heap.size w W → Calls Try.prog 10 #[.int .i64 b] W fun e W' => ∃ pb, e = .returned (.pointer (some ⟨pb, 0, none⟩)) ∧ Hid (Ps w pb (Hs.new b) W')) := fun W hW => new_ps hb hW
  have C2 : Hid (∀ W pb, Ps w pb (Hs.new b) W → Calls Try.prog 10 #[.int .i64 3] W fun e W' => ∃ ob, e = .returned (.pointer (some ⟨ob, 0, none⟩)) ∧ Hid (P2 w pb ob (Hs.new b) hO0 W')) := fun W pb k => by
    obtain ⟨⟨F, k1⟩, k2⟩ := k
    refine (new_any (by omega) W w.heap.size k2.size).mono ?_
    rintro e W' ⟨rfl, q1, q2⟩
    refine ⟨_, rfl, F, _, k1.below q2, ⟨_, _, q1, rfl⟩, fun g hf hg => ?_, k2.trans (q2.mono k2.size)⟩
    have := (k1.fp hf).2
    rcases hg with rfl | hg | hg
    · omega
    · cases hg
    · cases hg
  have C3 : Hid (∀ W pb ob, P2 w pb ob (Hs.new b) hO0 W → Calls Try.prog 11 #[.pointer (some ⟨ob, 0, none⟩), .string ⟨#[111, 116, 104, 101, 114]⟩] W fun e W' => ∃ β, e = .returned (.bool β) ∧ Hid (P2 w pb ob (Hs.new b) hO1 W')) := fun W pb ob k => by
    obtain ⟨F, G, k1, k2, k3, k4⟩ := k
    refine (add_any k2 (t := ⟨#[111, 116, 104, 101, 114]⟩) (by decide)).mono ?_
    rintro e W' ⟨rfl, G', q1, q2⟩
    obtain ⟨r1, r2⟩ := k1.kept q2 k3
    exact ⟨_, rfl, F, G', r1, q1, r2, (Ps.mv k2 k4 q1 q2).2⟩
  have C4 : Hid (∀ W pb ob, P2 w pb ob (Hs.new b) hO1 W → Calls Try.prog 12 #[.int .i64 b] W fun e W' => ∃ rb, e = .returned (.pointer (some ⟨rb, 0, none⟩)) ∧ Hid (P3 w pb rb ob (Hs.new b) hO1 W')) := fun W pb ob k => by
    obtain ⟨F, G, k1, k2, k3, k4⟩ := k
    refine (rnew_any hb W w.heap.size k4.size).mono ?_
    rintro e W' ⟨rfl, q1, q2⟩
    have hfp : ∀ g, Fp W.heap.size (.slice none 0 0) (.slice none 0 0) g → g = W.heap.size := fun g hg => by
      rcases hg with rfl | hg | hg
      · rfl
      · cases hg
      · cases hg
    refine ⟨_, rfl, _, G, ⟨F, _, k1.below q2, ⟨_, _, q1, rfl⟩, fun g hf hg => ?_, Mv.refl _ _⟩, fun g e => ?_, k2.below q2, fun g hg e => ?_, k4.trans (q2.mono k4.size)⟩
    · have := (k1.fp hf).2; have := hfp g hg; omega
    · rcases e with e | e
      · exact (k1.fp e).1
      · have := hfp g e; have := k4.size; omega
    · rcases e with e | e
      · exact k3 g e hg
      · have := (k2.fp hg).2; have := hfp g e; omega
  have CS : Hid (∀ W pb rb ob h, P3 w pb rb ob h hO1 W → Calls Try.prog 13 #[.pointer (some ⟨pb, 0, none⟩), .pointer (some ⟨rb, 0, none⟩)] W fun e W' => e = .returned (.bool true) ∧ Hid (P3 w pb rb ob h hO1 W')) := fun W pb rb ob h k => by
    have k0 := k
    obtain ⟨U, G, k1, _⟩ := k
    exact (seen_any k1).mono fun e W' r => ⟨r.1, k0.below r.2⟩
  have CT : Hid (∀ W pb rb ob h q, q.fit ∧ q.2.1.size ≤ 1099511627776 → P3 w pb rb ob h hO1 W → Calls Try.prog 14 #[.pointer (some ⟨pb, 0, none⟩), .pointer (some ⟨rb, 0, none⟩), .agg #[.int .i64 q.1, .string q.2.1, .int .i64 q.2.2]] W fun e W' => e = .returned (.bool true) ∧ Hid (P3 w pb rb ob (h.step q) hO1 W')) := fun W pb rb ob h q hq k => by
    obtain ⟨U, G, k1, k2, k3, k4, k5⟩ := k
    exact (step_any k1 hq.1 hq.2).mono fun e W' r => ⟨r.1, P3.step k2 k3 k4 k5 r.2⟩
  have CB : Hid (∀ W pb rb ob h, P3 w pb rb ob h hO1 W → Calls Try.prog 15 #[.pointer (some ⟨ob, 0, none⟩), .string ⟨#[110, 111, 119]⟩] W fun e W' => e = .returned (.tuple #[.string ⟨#[111, 116, 104, 101, 114]⟩, .int .i64 0]) ∧ Hid (Ps w ob (hO1.back ⟨#[110, 111, 119]⟩) W')) := fun W pb rb ob h k => by
    obtain ⟨U, G, k1, k2, k3, k4, k5⟩ := k
    have := back_ps (w := w) ⟨⟨G, k3⟩, k5⟩ (t := ⟨#[110, 111, 119]⟩) (by decide)
    rw [x1] at this
    exact this
  have CL : Hid (∀ W ob, Ps w ob (hO1.back ⟨#[110, 111, 119]⟩) W → Calls Try.prog 16 #[.pointer (some ⟨ob, 0, none⟩)] W fun e W' => e = .returned (.int .i64 1) ∧ W' = W) := fun W ob k => by have := len_ps k; rw [x2] at this; exact this
  clear hO ho hN2 hol x1 x2
  go_enter Try.func3, Try.ntmps3
  go_wp2_with (first
    | (go_at_call 9; refine CK.out.mono ?_; clear CK; rintro e w1 ⟨rfl, H1⟩)
    | (go_at_call 10; refine (C1.out _ H1.out).mono ?_; clear C1 H1; rintro e w2 ⟨pb, rfl, H2⟩)
    | (go_at_call 10; refine (C2.out _ _ H2.out).mono ?_; clear C2 H2; rintro e w3 ⟨ob, rfl, H3⟩)
    | (go_at_call 11; refine (C3.out _ _ _ H3.out).mono ?_; clear C3 H3; rintro e w4 ⟨β, rfl, H4⟩)
    | (go_at_call 12; refine (C4.out _ _ _ H4.out).mono ?_; clear C4 H4; rintro e w5 ⟨rb, rfl, H5⟩)
    | (go_at_call 13; refine (CS.out _ _ _ _ _ H5.out).mono ?_; clear CS H5; rintro e w6 ⟨rfl, H6⟩))
  go_loopw [8] (fun t8 wr => ∃ k : Nat, k ≤ on ∧ t8 = .int .i64 k ∧ Hid (∃ h, P3 w pb rb ob h hO1 wr)) (fun t8 _ => on - (intOf t8).toNat)
  case atStart => exact ⟨0, Nat.zero_le _, rfl, _, H6.out⟩
  case round =>
    obtain ⟨k, hk, rfl, HP⟩ := hrel
    clear H6
    obtain ⟨h, hp⟩ := HP.out
    have HX : Hid (P3 w pb rb ob h hO1 wr) := hp
    by_cases hlt : k < on
    · obtain ⟨q, hq⟩ : ∃ q, os[k]? = some q := ⟨os[k]'(by rw [HF.out.2.1]; exact hlt), List.getElem?_eq_getElem _⟩
      have hbel : Below w.heap.size w wr := by obtain ⟨_, _, _, _, _, _, k5⟩ := hp; exact k5
      obtain ⟨g, o, eoa, c0, c1, c2⟩ := HF.out.1.at hbel hq
      subst eoa
      have hqf := HF.out.2.2 q (List.mem_of_getElem? hq)
      have CT2 : Hid (Calls Try.prog 14 #[.pointer (some ⟨pb, 0, none⟩), .pointer (some ⟨rb, 0, none⟩), .agg #[.int .i64 q.1, .string q.2.1, .int .i64 q.2.2]] wr fun e W' => e = .returned (.bool true) ∧ Hid (P3 w pb rb ob (h.step q) hO1 W')) := CT.out _ _ _ _ _ _ hqf HX.out
      have hlt' : (k : Int) < (on : Int) := by omega
      obtain ⟨kd, t, i⟩ := q
      simp only at c0 c1 c2 CT2
      clear hq hbel hp HP hqf HX
      go_wp2_with (go_at_call 14; refine CT2.out.mono ?_; clear CT2; rintro e w7 ⟨rfl, H7⟩)
      exact ⟨⟨k + 1, by omega, by go_num, _, H7.out⟩, by simp [intOf]; omega⟩
    · clear hp HP
      go_wp2_with (first
        | (go_at_call 15; refine (CB.out _ _ _ _ _ HX.out).mono ?_; clear CB HX; rintro e w7 ⟨rfl, H7⟩)
        | (go_at_call 16; refine (CL.out _ _ H7.out).mono ?_; clear CL; rintro e w8 ⟨rfl, hw⟩; subst hw))
      go_ret
      exact ⟨rfl, H7.out.2⟩
end Go.Proofs.Ytgakgebhhmkclaa
