/-
  The walk of the law HistNil: a nil history keeps nothing; the zero one is as a new one with the bound 0. Conditions: what the law reads is of at most 1048576 values and letters.
-/
import Derived.Test.YtgakgebhhmkclaaHLaw
import Derived.Test.YtgakgebhhmkclaaHStep
namespace Go.Proofs.Ytgakgebhhmkclaa
open Go.RowKit

/-- the pair, made since w -/
def P0 (w : World) (pb rb : Nat) (h : Hs) (W : World) : Prop := ∃ U, Pq W U w.heap.size pb rb h W ∧ (∀ k, U k → w.heap.size ≤ k ∧ k < W.heap.size) ∧ Below w.heap.size w W
theorem P0.step {w W W' : World} {pb rb : Nat} {h' : Hs} {U : Nat → Prop} (hU : ∀ k, U k → w.heap.size ≤ k ∧ k < W.heap.size) (hb : Below w.heap.size w W) (hq : Pq W U w.heap.size pb rb h' W') : P0 w pb rb h' W' := by
  obtain ⟨F', G', q1, q2, q3, q4⟩ := hq
  refine ⟨_, ⟨F', G', q1, q2, q3, Mv.refl _ _⟩, fun k e => ?_, hb.trans (q4.low (fun k e => (hU k e).1) hb.size)⟩
  rcases e with e | e
  · exact q1.fp e
  · exact q2.fp e
theorem P0.below {w W W' : World} {pb rb : Nat} {h : Hs} (k : P0 w pb rb h W) (hb : Below W.heap.size W W') : P0 w pb rb h W' := by
  obtain ⟨U, k1, k2, k3⟩ := k
  exact P0.step k2 k3 (k1.below hb)
/-- a step beside a block that is only read -/
theorem step_p0 {w W : World} {pb rb : Nat} {h : Hs} {bx : Array Value} (k : P0 w pb rb h W) {q : Hq} (hq : q.fit ∧ q.2.1.size ≤ 1099511627776) :
    Calls Try.prog 14 #[.pointer (some ⟨pb, 0, none⟩), .pointer (some ⟨rb, 0, none⟩), .agg #[.int .i64 q.1, .string q.2.1, .int .i64 q.2.2]] (W.alloc (.cells bx 32)) fun e W' => e = .returned (.bool true) ∧ P0 w pb rb (h.step q) W' ∧ W'.heap[W.heap.size]? = some (.cells bx 32 (0, 0)) := by
  obtain ⟨U, k1, k2, k3⟩ := k
  have hb : Below W.heap.size W (W.alloc (.cells bx 32)) := (Below.refl _ W).alloc (Nat.le_refl _) _
  obtain ⟨F, G, r1, r2, r3, r4⟩ := k1
  have hn := World.alloc_heap_new W (.cells bx 32)
  have hs := (Array.getElem?_eq_some_iff.1 hn).1
  have hF : ∀ g, F g ∨ G g → w.heap.size ≤ g ∧ g < W.heap.size := fun g e => by
    rcases e with e | e
    · exact r1.fp e
    · exact r2.fp e
  have kq : Pq (W.alloc (.cells bx 32)) (fun g => F g ∨ G g) w.heap.size pb rb h (W.alloc (.cells bx 32)) := ⟨F, G, r1.below hb, r2.below hb, r3, Mv.refl _ _⟩
  refine (step_any kq hq.1 hq.2).mono ?_
  rintro e W' ⟨rfl, q1⟩
  have q2 := q1
  obtain ⟨F', G', _, _, _, s4⟩ := q1
  refine ⟨rfl, P0.step (fun g e => ⟨(hF g e).1, by have := (hF g e).2; omega⟩) (k3.trans (hb.mono k3.size)) q2, (s4.ch.2.2.2.2 W.heap.size hs (fun e => by have := (hF _ e).2; omega)).trans hn⟩
set_option maxRecDepth 100000 in
set_option maxHeartbeats 8000000 in
theorem walk_of (oa : Option Addr) (on oc : Nat) (w : World) (os : List Hq) (hO : RdH w (.slice oa on oc) os) (ho : hqs os ≤ 1048576 ∧ ∀ q ∈ os, q.fit) :
    Calls Try.prog 5 #[.slice oa on oc] w fun e w' => e = .returned (.bool true) ∧ Below w.heap.size w w' := by
  have hN2 : os.length = on := by obtain ⟨_, _, e, _⟩ := hO; cases e; rfl
  have hol := hqs_len os
  have hon : on ≤ 1048576 := by omega
  have HF : Hid (RdH w (.slice oa on oc) os ∧ os.length = on ∧ ∀ q ∈ os, q.fit ∧ q.2.1.size ≤ 1099511627776) := ⟨hO, hN2, fun q hq => ⟨ho.2 q hq, by have := hqs_mem hq; omega⟩⟩
  have CK : Hid (Calls Try.prog 9 #[] w fun e w' => e = .returned (.bool true) ∧ Hid (Below w.heap.size w w')) := awake_any w
  have C4 : Hid (∀ W W0, Below w.heap.size w W0 → W = W0.alloc (.cells #[.int .i64 0, .slice none 0 0, .int .i64 0, .slice none 0 0] 44) → Calls Try.prog 12 #[.int .i64 0] W fun e W' => ∃ rb, e = .returned (.pointer (some ⟨rb, 0, none⟩)) ∧ Hid (P0 w W0.heap.size rb (Hs.new 0) W')) := fun W W0 hW e => by
    subst e
    have hB := hW.alloc hW.size (.cells #[.int .i64 0, .slice none 0 0, .int .i64 0, .slice none 0 0] 44)
    have hp : Pv (W0.alloc (.cells #[.int .i64 0, .slice none 0 0, .int .i64 0, .slice none 0 0] 44)) w.heap.size W0.heap.size (.slice none 0 0) (.slice none 0 0) (Hs.new 0) := ⟨World.alloc_heap_new W0 _, World.ownsRow_nil _ _ _ _, ⟨0, .inl ⟨rfl, rfl⟩, World.ownsRow_nil _ _ _ _⟩, hW.size, Hs.Ok.new 0⟩
    refine (rnew_any (by omega) _ w.heap.size hB.size).mono ?_
    rintro e W' ⟨rfl, q1, q2⟩
    have hfp : ∀ p g, Fp p (.slice none 0 0) (.slice none 0 0) g → g = p := fun p g hg => by
      rcases hg with rfl | hg | hg
      · rfl
      · cases hg
      · cases hg
    have hlt := hp.lt
    have k1 : Pr W' w.heap.size W0.heap.size (Fp W0.heap.size (.slice none 0 0) (.slice none 0 0)) (Hs.new 0) := ⟨_, _, hp.below q2, rfl⟩
    refine ⟨_, rfl, _, ⟨_, _, k1, ⟨_, _, q1, rfl⟩, fun g hf hg => ?_, Mv.refl _ _⟩, fun g e => ?_, hB.trans (q2.mono hB.size)⟩
    · have := hfp _ _ hf; have := hfp _ _ hg; omega
    · rcases e with e | e
      · exact k1.fp e
      · exact q1.fp e
  clear hO ho hN2 hol
  go_enter Try.func5, Try.ntmps5
  go_wp2_with (first
    | (go_at_call 9; refine CK.out.mono ?_; clear CK; rintro e w1 ⟨rfl, H1⟩)
    | (go_at_call 12; refine (C4.out _ _ H1.out rfl).mono ?_; clear C4; rintro e w5 ⟨rb, rfl, H5⟩))
  obtain ⟨pb, hpb⟩ : ∃ pb, w1.heap.size = pb := ⟨_, rfl⟩
  rw [hpb] at H5 ⊢
  clear hpb H1
  go_loopw [6] (fun t6 wr => ∃ k : Nat, k ≤ on ∧ t6 = .int .i64 k ∧ Hid (∃ h, P0 w pb rb h wr)) (fun t6 _ => on - (intOf t6).toNat)
  case atStart => exact ⟨0, Nat.zero_le _, rfl, _, H5.out⟩
  case round =>
    obtain ⟨k, hk, rfl, HP⟩ := hrel
    clear H5
    obtain ⟨h, hp⟩ := HP.out
    have hbel : Below w.heap.size w wr := by obtain ⟨_, _, _, k3⟩ := hp; exact k3
    by_cases hlt : k < on
    · obtain ⟨q, hq⟩ : ∃ q, os[k]? = some q := ⟨os[k]'(by rw [HF.out.2.1]; exact hlt), List.getElem?_eq_getElem _⟩
      obtain ⟨g, o, eoa, c0, c1, c2⟩ := HF.out.1.at hbel hq
      subst eoa
      have hqf := HF.out.2.2 q (List.mem_of_getElem? hq)
      have CT : Hid (Calls Try.prog 14 #[.pointer (some ⟨pb, 0, none⟩), .pointer (some ⟨rb, 0, none⟩), .agg #[.int .i64 q.1, .string q.2.1, .int .i64 q.2.2]] (wr.alloc (.cells #[.int .i64 q.1, .string q.2.1, .int .i64 q.2.2] 32)) fun e W' => e = .returned (.bool true) ∧ Hid (P0 w pb rb (h.step q) W' ∧ W'.heap[wr.heap.size]? = some (.cells #[.int .i64 q.1, .string q.2.1, .int .i64 q.2.2] 32 (0, 0)))) := step_p0 hp hqf
      have hlt' : (k : Int) < (on : Int) := by omega
      have hi := hqf.1.2
      obtain ⟨kd, t, i⟩ := q
      simp only at c0 c1 c2 CT hi
      have HC : Hid (∀ W : World, W.heap[wr.heap.size]? = some (.cells #[.int .i64 kd, .string t, .int .i64 i] 32 (0, 0)) → W.cell? ⟨wr.heap.size, 0, none⟩ = some (.int .i64 kd) ∧ W.cell? ⟨wr.heap.size, 1, none⟩ = some (.string t) ∧ W.cell? ⟨wr.heap.size, 2, none⟩ = some (.int .i64 i)) := fun W e => ⟨by simp [World.cell?, e], by simp [World.cell?, e], by simp [World.cell?, e]⟩
      clear hq hbel hp HP hqf
      go_upto_region 12 with (go_at_call 14; refine CT.out.mono ?_; clear CT; rintro e w7 ⟨rfl, H7⟩)
      obtain ⟨d0, d1, d2⟩ := HC.out _ H7.out.2
      obtain ⟨ob, hob⟩ : ∃ ob, wr.heap.size = ob := ⟨_, rfl⟩
      rw [hob] at d0 d1 d2 ⊢
      have HP7 : Hid (P0 w pb rb (h.step (kd, t, i)) w7) := H7.out.1
      clear H7 hob HC c0 c1 c2
      have N1 := go_nil hi t w7
      have N2 := back_nil t w7
      have N3 := forward_nil t w7
      have N4 := find_nil (t := t) hi w7
      have N5 := entry_nil hi w7
      have N6 := home_nil w7
      have N7 := add_nil t w7
      have N8 := len_nil w7
      have N9 := place_nil w7
      have NA := drafts_nil w7
      have NB := bound_nil w7
      have NC : Hid (Calls Try.prog 18 #[.pointer none] w7 fun e W' => ∃ u, e = .returned (.slice u 0 0) ∧ Hid (P0 w pb rb (h.step (kd, t, i)) W')) := (entries_nil w7).mono fun e W' r => by obtain ⟨u, r1, r2⟩ := r; exact ⟨u, r1, HP7.out.below r2⟩
      by_cases hi0 : i = 0
      · subst hi0
        rw [if_pos rfl] at N1
        go_wp2_with (first
          | (go_at_call 21; refine N1.mono ?_; clear N1; rintro e w8 ⟨rfl, hw⟩; subst hw)
          | (go_at_call 15; refine N2.mono ?_; clear N2; rintro e w8 ⟨rfl, hw⟩; subst hw)
          | (go_at_call 22; refine N3.mono ?_; clear N3; rintro e w8 ⟨rfl, hw⟩; subst hw)
          | (go_at_call 23; refine N4.mono ?_; clear N4; rintro e w8 ⟨rfl, hw⟩; subst hw)
          | (go_at_call 24; refine N5.mono ?_; clear N5; rintro e w8 ⟨rfl, hw⟩; subst hw)
          | (go_at_call 25; refine N6.mono ?_; clear N6; rintro e w8 ⟨rfl, hw⟩; subst hw)
          | (go_at_call 11; refine N7.mono ?_; clear N7; rintro e w8 ⟨rfl, hw⟩; subst hw)
          | (go_at_call 16; refine N8.mono ?_; clear N8; rintro e w8 ⟨rfl, hw⟩; subst hw)
          | (go_at_call 26; refine N9.mono ?_; clear N9; rintro e w8 ⟨rfl, hw⟩; subst hw)
          | (go_at_call 27; refine NA.mono ?_; clear NA; rintro e w8 ⟨rfl, hw⟩; subst hw)
          | (go_at_call 28; refine NB.mono ?_; clear NB; rintro e w8 ⟨rfl, hw⟩; subst hw)
          | (go_at_call 18; refine NC.out.mono ?_; clear NC; rintro e w9 ⟨u9, rfl, H9⟩))
        exact ⟨⟨k + 1, by omega, by go_num, _, H9.out⟩, by simp [intOf]; omega⟩
      · rw [if_neg hi0] at N1
        have hi1 : (i == 0) = false := by simpa using hi0
        go_wp2_with (first
          | (go_at_call 21; refine N1.mono ?_; clear N1; rintro e w8 ⟨rfl, hw⟩; subst hw)
          | (go_at_call 15; refine N2.mono ?_; clear N2; rintro e w8 ⟨rfl, hw⟩; subst hw)
          | (go_at_call 22; refine N3.mono ?_; clear N3; rintro e w8 ⟨rfl, hw⟩; subst hw)
          | (go_at_call 23; refine N4.mono ?_; clear N4; rintro e w8 ⟨rfl, hw⟩; subst hw)
          | (go_at_call 24; refine N5.mono ?_; clear N5; rintro e w8 ⟨rfl, hw⟩; subst hw)
          | (go_at_call 25; refine N6.mono ?_; clear N6; rintro e w8 ⟨rfl, hw⟩; subst hw)
          | (go_at_call 11; refine N7.mono ?_; clear N7; rintro e w8 ⟨rfl, hw⟩; subst hw)
          | (go_at_call 16; refine N8.mono ?_; clear N8; rintro e w8 ⟨rfl, hw⟩; subst hw)
          | (go_at_call 26; refine N9.mono ?_; clear N9; rintro e w8 ⟨rfl, hw⟩; subst hw)
          | (go_at_call 27; refine NA.mono ?_; clear NA; rintro e w8 ⟨rfl, hw⟩; subst hw)
          | (go_at_call 28; refine NB.mono ?_; clear NB; rintro e w8 ⟨rfl, hw⟩; subst hw)
          | (go_at_call 18; refine NC.out.mono ?_; clear NC; rintro e w9 ⟨u9, rfl, H9⟩))
        exact ⟨⟨k + 1, by omega, by go_num, _, H9.out⟩, by simp [intOf]; omega⟩
    · clear hp HP
      have HB : Hid (Below w.heap.size w wr) := hbel
      clear hbel
      go_wp2
      go_ret
      exact ⟨rfl, HB.out⟩
end Go.Proofs.Ytgakgebhhmkclaa
