/-
  The walk of the law WidthTables: it returns true: in each class's list the ranges rise and leave a gap, and at their ends the classes change. It has no input and no conditions.
-/
import Derived.Test.YtjpfnkbkhpeijaaVLaw
namespace Go.Proofs.Ytjpfnkbkhpeijaa.widthTables
open Go.RowKit Wid

/-- what the law asks of the range i of the class k -/
abbrev Good (k : Int) (l : List (Int × Int)) (i : Nat) : Prop :=
  (l.getD i (0, 0)).1 ≤ (l.getD i (0, 0)).2 ∧ (0 < i → (l.getD (i - 1) (0, 0)).2 + 1 < (l.getD i (0, 0)).1) ∧ 0 ≤ (l.getD i (0, 0)).1 ∧ (l.getD i (0, 0)).2 ≤ 1114111 ∧ 0 ≤ (l.getD (i - 1) (0, 0)).2 ∧ (l.getD (i - 1) (0, 0)).2 ≤ 1114111 ∧
  cls (l.getD i (0, 0)).1 = k ∧ cls (l.getD i (0, 0)).2 = k ∧ cls ((l.getD i (0, 0)).2 + 1) ≠ k ∧ cls ((l.getD i (0, 0)).1 - 1) ≠ k
theorem good1 : ∀ i, i < (rng 1).length → Good 1 (rng 1) i := by decide +kernel
theorem good2 : ∀ i, i < (rng 2).length → Good 2 (rng 2) i := by decide +kernel
theorem good3 : ∀ i, i < (rng 3).length → Good 3 (rng 3) i := by decide +kernel
theorem good4 : ∀ i, i < (rng 4).length → Good 4 (rng 4) i := by decide +kernel
theorem good (k : Nat) (h1 : 1 ≤ k) (h4 : k ≤ 4) : 0 < (rng k).length ∧ (rng k).length ≤ 100 ∧ ∀ i, i < (rng k).length → Good k (rng k) i := by
  obtain rfl | rfl | rfl | rfl : k = 1 ∨ k = 2 ∨ k = 3 ∨ k = 4 := by omega
  · exact ⟨by decide, by decide, good1⟩
  · exact ⟨by decide, by decide, good2⟩
  · exact ⟨by decide, by decide, good3⟩
  · exact ⟨by decide, by decide, good4⟩

theorem made_some {w : World} {l : List (Int × Int)} {e : Ending} {w' : World} (h : Made w l e w') (h0 : 0 < l.length) : ∃ g cap, e = .returned (.slice (some ⟨g, 0, none⟩) l.length cap) ∧ g < w'.heap.size ∧ (∀ W, Below w'.heap.size w' W → ∀ j, j < l.length → W.cell? ⟨g, j * 2, none⟩ = some (.int .i32 (l.getD j (0, 0)).1) ∧ W.cell? ⟨g, j * 2 + 1, none⟩ = some (.int .i32 (l.getD j (0, 0)).2)) ∧ Below w.heap.size w w' := by
  obtain ⟨v, rfl, hrow, hb⟩ := h
  rcases hrow.2 with ⟨_, h1⟩ | ⟨g, cap, cur, rfl, _⟩
  · omega
  · refine ⟨g, cap, rfl, (hrow.lt g rfl).2, fun W hW => ?_, hb⟩
    obtain ⟨a, cap', he, hr⟩ := (Rg.of_own hrow).below hW
    obtain ⟨b, rfl, hc⟩ := hr (by omega)
    cases he
    exact hc

set_option maxRecDepth 100000 in
set_option maxHeartbeats 2000000 in
theorem walk (w : World) : Calls Try.prog 6 #[] w fun e w' => e = .returned (.bool true) ∧ Below w.heap.size w w' := by
  have cA := awake_any w
  go_enter Try.func6, Try.ntmps6
  go_wp2_with (go_at_call 7; refine cA.mono ?_; clear cA; rintro e w0 ⟨rfl, hb0⟩)
  go_loopw [1] (fun t wr => ∃ k : Nat, 1 ≤ k ∧ k ≤ 5 ∧ t = .int .i64 k ∧ Below w.heap.size w wr) (fun t _ => 5 - (intOf t).toNat)
  case atStart => exact ⟨1, by omega, by omega, rfl, hb0⟩
  case round =>
    obtain ⟨k, hk1, hk5, rfl, hB⟩ := hrel
    clear hb0
    by_cases hlt : k ≤ 4
    · obtain ⟨g0, g1, g2⟩ := good k hk1 hlt
      have cR : Calls Try.prog 13 #[.int .i64 k] wr fun e w' => ∃ g cap, e = .returned (.slice (some ⟨g, 0, none⟩) (rng k).length cap) ∧ g < w'.heap.size ∧ (∀ W, Below w'.heap.size w' W → ∀ j, j < (rng k).length → W.cell? ⟨g, j * 2, none⟩ = some (.int .i32 ((rng k).getD j (0, 0)).1) ∧ W.cell? ⟨g, j * 2 + 1, none⟩ = some (.int .i32 ((rng k).getD j (0, 0)).2)) ∧ Below wr.heap.size wr w' :=
        (ranges_any k wr).mono fun e w' h => made_some h g0
      have HG : Hid _ := g2
      clear g2
      generalize rng k = l at cR HG g0 g1
      obtain ⟨n, hn⟩ : ∃ n, l.length = n := ⟨_, rfl⟩
      rw [hn] at cR HG g0 g1
      clear hn
      have hd1 : decide ((k : Int) ≤ 4) = true := decide_eq_true (by omega)
      have hd2 : ((n : Int) == 0) = false := by simp; omega
      go_wp2_with (go_at_call 13; refine cR.mono ?_; clear cR; rintro e W1 ⟨g, cap, rfl, hg, hcs, hb1⟩; have HC : Hid _ := hcs; clear hcs)
      have HB1 : Hid (Below w.heap.size w W1) := hB.trans (hb1.mono hB.size)
      clear hb1 hB hd1 hd2
      go_loopw [3] (fun t wr => ∃ i : Nat, i ≤ n ∧ t = .int .i64 i ∧ Below W1.heap.size W1 wr) (fun t _ => n - (intOf t).toNat)
      case atStart => exact ⟨0, Nat.zero_le _, rfl, Below.refl _ _⟩
      case round =>
        obtain ⟨i, hi, rfl, hB2⟩ := hrel
        by_cases hin : i < n
        · obtain ⟨q1, q2, q3, q4, q5, q6, q7, q8, q9, q10⟩ := HG.out i hin
          obtain ⟨c1, c2⟩ := HC.out wr hB2 i hin
          have C1 : Hid (∀ W, Below W1.heap.size W1 W → W.cell? ⟨g, i * 2, none⟩ = some (.int .i32 (l.getD i (0, 0)).1)) := fun W h => (HC.out W h i hin).1
          have C2 : Hid (∀ W, Below W1.heap.size W1 W → W.cell? ⟨g, i * 2 + 1, none⟩ = some (.int .i32 (l.getD i (0, 0)).2)) := fun W h => (HC.out W h i hin).2
          have kA : Hid (∀ W, Below W1.heap.size W1 W → Calls Try.prog 8 #[.int .i32 (l.getD i (0, 0)).1] W fun e w' => e = .returned (.int .i64 k) ∧ Below W1.heap.size W1 w') := class_from _ k q7
          have kB : Hid (∀ W, Below W1.heap.size W1 W → Calls Try.prog 8 #[.int .i32 (l.getD i (0, 0)).2] W fun e w' => e = .returned (.int .i64 k) ∧ Below W1.heap.size W1 w') := class_from _ k q8
          have kC : Hid (∀ W, Below W1.heap.size W1 W → Calls Try.prog 8 #[.int .i32 ((l.getD i (0, 0)).2 + 1)] W fun e w' => e = .returned (.int .i64 (cls ((l.getD i (0, 0)).2 + 1))) ∧ Below W1.heap.size W1 w') := class_from _ _ rfl
          have kD : Hid (∀ W, Below W1.heap.size W1 W → Calls Try.prog 8 #[.int .i32 ((l.getD i (0, 0)).1 - 1)] W fun e w' => e = .returned (.int .i64 (cls ((l.getD i (0, 0)).1 - 1))) ∧ Below W1.heap.size W1 w') := class_from _ _ rfl
          have m9 : (cls ((l.getD i (0, 0)).2 + 1) == (k : Int)) = false := beq_eq_false_iff_ne.2 q9
          have m10 : (cls ((l.getD i (0, 0)).1 - 1) == (k : Int)) = false := beq_eq_false_iff_ne.2 q10
          obtain ⟨p, hp⟩ : ∃ p, i - 1 = p := ⟨_, rfl⟩
          have P : Hid (0 < i → wr.cell? ⟨g, p * 2 + 1, none⟩ = some (.int .i32 (l.getD (i - 1) (0, 0)).2)) := fun e => by
            rw [hp]; exact (HC.out wr hB2 p (by omega)).2
          clear q7 q8 q9 q10
          generalize (l.getD i (0, 0)).1 = x1 at *
          generalize (l.getD i (0, 0)).2 = x2 at *
          generalize (l.getD (i - 1) (0, 0)).2 = x0 at *
          generalize cls (x2 + 1) = k3 at *
          generalize cls (x1 - 1) = k4 at *
          have T1 : Hid True := trivial
          have T2 : Hid True := trivial
          have T3 : Hid True := trivial
          have hj : (i : Int) < n := by omega
          have hq1 : decide (x2 < x1) = false := decide_eq_false (by omega)
          have hw1 : IntKind.i32.wrap (x2 + 1) = x2 + 1 := by rw [IntKind.wrap_i32]; omega
          have hw2 : IntKind.i32.wrap (x1 - 1) = x1 - 1 := by rw [IntKind.wrap_i32]; omega
          by_cases h0 : i = 0
          · have hz : decide (0 < i) = false := decide_eq_false (by omega)
            clear P q2 h0 hp hlt
            go_wp2
            go_quiet (fail)
            have HB : Hid (Below W1.heap.size W1 (wr.drewN nq)) := ⟨hB2.os, hB2.tape, hB2.output, hB2.size, hB2.block⟩
            go_wp2_with (first | (go_at_call 8; have hq := T1; clear hq T1; refine (kA.out _ HB.out).mono ?_; clear HB; rintro e w1 ⟨rfl, hb1⟩; have HB : Hid (Below W1.heap.size W1 w1) := hb1; have cc := C2.out _ hb1; clear hb1) | (go_at_call 8; have hq := T2; clear hq T2; refine (kB.out _ HB.out).mono ?_; clear HB; rintro e w1 ⟨rfl, hb1⟩; have HB : Hid (Below W1.heap.size W1 w1) := hb1; have cc := C2.out _ hb1; clear hb1) | (go_at_call 8; have hq := T3; clear hq T3; refine (kC.out _ HB.out).mono ?_; clear HB; rintro e w1 ⟨rfl, hb1⟩; have HB : Hid (Below W1.heap.size W1 w1) := hb1; have cc := C1.out _ hb1; clear hb1) | (go_at_call 8; refine (kD.out _ HB.out).mono ?_; clear HB; rintro e w1 ⟨rfl, hb1⟩; have HB : Hid (Below W1.heap.size W1 w1) := hb1; clear hb1))
            exact ⟨⟨i + 1, by omega, by go_num, HB.out⟩, by simp [intOf]; omega⟩
          · have hz : 0 < i := by omega
            have c0 := P.out hz
            have hs1 : IntKind.i64.wrap ((i : Int) - 1) = (i : Int) - 1 := by rw [IntKind.wrap_i64]; omega
            have hs2 : ((i : Int) - 1).toNat = p := by omega
            have hs3 : (0 : Int) ≤ (i : Int) - 1 := by omega
            have hs4 : (i : Int) - 1 < n := by omega
            have hw3 : IntKind.i32.wrap (x0 + 1) = x0 + 1 := by rw [IntKind.wrap_i32]; omega
            have hq3 : decide (x1 ≤ x0 + 1) = false := decide_eq_false (by have := q2 hz; omega)
            clear P q2 h0 hp hlt
            go_wp2
            go_quiet (fail)
            have HB : Hid (Below W1.heap.size W1 (wr.drewN nq)) := ⟨hB2.os, hB2.tape, hB2.output, hB2.size, hB2.block⟩
            go_wp2_with (first | (go_at_call 8; have hq := T1; clear hq T1; refine (kA.out _ HB.out).mono ?_; clear HB; rintro e w1 ⟨rfl, hb1⟩; have HB : Hid (Below W1.heap.size W1 w1) := hb1; have cc := C2.out _ hb1; clear hb1) | (go_at_call 8; have hq := T2; clear hq T2; refine (kB.out _ HB.out).mono ?_; clear HB; rintro e w1 ⟨rfl, hb1⟩; have HB : Hid (Below W1.heap.size W1 w1) := hb1; have cc := C2.out _ hb1; clear hb1) | (go_at_call 8; have hq := T3; clear hq T3; refine (kC.out _ HB.out).mono ?_; clear HB; rintro e w1 ⟨rfl, hb1⟩; have HB : Hid (Below W1.heap.size W1 w1) := hb1; have cc := C1.out _ hb1; clear hb1) | (go_at_call 8; refine (kD.out _ HB.out).mono ?_; clear HB; rintro e w1 ⟨rfl, hb1⟩; have HB : Hid (Below W1.heap.size W1 w1) := hb1; clear hb1))
            exact ⟨⟨i + 1, by omega, by go_num, HB.out⟩, by simp [intOf]; omega⟩
        · go_wp2
          go_roundw
          case rel => exact ⟨k + 1, by omega, by omega, by go_num, HB1.out.trans (hB2.mono HB1.out.size)⟩
          case measure => simp [intOf]; omega
    · have E0 : ∀ j : Int, rng j = [] → Hid (∀ W, Below w.heap.size w W → Calls Try.prog 13 #[.int .i64 j] W fun e w' => ∃ a cap, e = .returned (.slice a 0 cap) ∧ Below w.heap.size w w') := fun j hj W hb => by
        have h := ranges_any j W
        rw [hj] at h
        refine h.mono ?_
        rintro e w' ⟨v, rfl, hrow, hb2⟩
        obtain ⟨a, cap, rfl, _⟩ := Rg.of_own hrow
        exact ⟨a, cap, rfl, hb.trans (hb2.mono hb.size)⟩
      have R0 : Hid (∀ W, Below w.heap.size w W → Calls Try.prog 13 #[.int .i64 0] W fun e w' => ∃ a cap, e = .returned (.slice a 0 cap) ∧ Below w.heap.size w w') := E0 0 (by decide)
      have R5 : Hid (∀ W, Below w.heap.size w W → Calls Try.prog 13 #[.int .i64 5] W fun e w' => ∃ a cap, e = .returned (.slice a 0 cap) ∧ Below w.heap.size w w') := E0 5 (by decide)
      clear E0
      have HB : Hid (Below w.heap.size w wr) := hB
      go_wp2_with (first | (go_at_call 13; have hq := R0; clear R0; refine (hq.out _ HB.out).mono ?_; clear hq HB; rintro e w1 ⟨a, cap, rfl, hb1⟩; have HB : Hid (Below w.heap.size w w1) := hb1; clear hb1) | (go_at_call 13; refine (R5.out _ HB.out).mono ?_; clear HB; rintro e w1 ⟨a, cap, rfl, hb1⟩; have HB : Hid (Below w.heap.size w w1) := hb1; clear hb1))
      go_ret
      exact ⟨rfl, HB.out⟩
end Go.Proofs.Ytjpfnkbkhpeijaa.widthTables
