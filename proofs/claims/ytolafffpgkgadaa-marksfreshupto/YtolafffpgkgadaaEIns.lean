/-
  The library's cmp.Less and insertionSortOrdered at bytes: what it leaves of a row of bytes is sorted and has the same bytes. Conditions: those of each theorem.
-/
import Derived.Test.YtolafffpgkgadaaESet
import Derived.Deep.QuietTactic
import Derived.BigQuiet
import Derived.BigRegion
import Derived.RegionTactic
namespace Go.Proofs.Ytolafffpgkgadaa
open Go.RowKit

def intOf : Value → Int | .int _ q => q | _ => 0
set_option maxRecDepth 100000 in
theorem nan_any (x : Nat) (w : World) : Calls Try.prog 73 #[.int .u8 (x : Int)] w fun e w' => e = .returned (.bool false) ∧ w' = w := by
  go_enter Try.func73, Try.ntmps73
  go_wp2
  go_ret
  exact ⟨rfl, rfl⟩
set_option maxRecDepth 100000 in
theorem less_any (x y : Nat) (w : World) : Calls Try.prog 63 #[.int .u8 (x : Int), .int .u8 (y : Int)] w fun e w' => e = .returned (.bool (decide (x < y))) ∧ w' = w := by
  have CN := fun x => nan_any x w
  go_enter Try.func63, Try.ntmps63
  go_wp2_with (go_at_call 73; refine (CN _).mono ?_; rintro e w1 ⟨rfl, rfl⟩)
  all_goals go_ret
  all_goals exact ⟨by simp, rfl⟩

def e8 (n : Nat) : Value := .int .u8 (n : Int)
/-- the block g is a row of bytes that begins with xs -/
def Bx (W : World) (g : Nat) (xs : List Nat) (rest : List Value) : Prop := W.heap[g]? = some (.cells (xs.map e8 ++ rest).toArray 5 (0, 0))
def Srt (xs : List Nat) : Prop := xs.Pairwise (· ≤ ·)
theorem Bx.get {W : World} {g : Nat} {xs : List Nat} {rest : List Value} (h : Bx W g xs rest) {i x : Nat} (hi : xs[i]? = some x) : W.cell? ⟨g, i, none⟩ = some (.int .u8 (x : Int)) ∧ W.frozen? ⟨g, i, none⟩ = false := by
  have hl := (List.getElem?_eq_some_iff.1 hi).1
  unfold World.cell? World.frozen?
  rw [h]
  refine ⟨?_, by simp⟩
  simp only [List.getElem?_toArray]
  rw [List.getElem?_append_left (by simpa using hl), List.getElem?_map, hi]
  rfl
/-- two neighbours change places -/
theorem Bx.swap {W : World} {g : Nat} {P Q : List Nat} {x y : Nat} {rest : List Value} (h : Bx W g (P ++ y :: x :: Q) rest) :
    Bx ((W.setCell ⟨g, P.length + 1, none⟩ (e8 y)).setCell ⟨g, P.length, none⟩ (e8 x)) g (P ++ x :: y :: Q) rest := by
  have h1 := set1 (i := P.length) (e8 x) (set1 (i := P.length + 1) (e8 y) h)
  unfold Bx
  rw [h1]
  congr 2
  apply Array.toList_inj.1
  simp [e8]
theorem grownS {A B C : World} {b : Nat} (h : A.grownBy B (some b)) (g : B.grownBy C (some b)) : A.grownBy C (some b) :=
  ⟨g.os.trans h.os, g.tape.trans h.tape, g.output.trans h.output, Nat.le_trans h.size g.size, fun k hk hne => (g.block k (Nat.lt_of_lt_of_le hk h.size) hne).trans (h.block k hk hne)⟩
theorem grownR (W : World) (b : Option Nat) : W.grownBy W b := ⟨rfl, rfl, rfl, Nat.le_refl _, fun _ _ _ => rfl⟩
theorem grownD (W : World) (b : Option Nat) (n : Nat) : W.grownBy (W.drewN n) b := ⟨rfl, rfl, rfl, Nat.le_refl _, fun _ _ _ => rfl⟩
theorem Bx.drewN {W : World} {g : Nat} {xs : List Nat} {rest : List Value} (h : Bx W g xs rest) (n : Nat) : Bx (W.drewN n) g xs rest := h
theorem srt_ins {P1 P2 : List Nat} {x : Nat} (h : Srt (P1 ++ P2)) (h1 : ∀ y ∈ P1, y ≤ x) (h2 : ∀ y ∈ P2, x ≤ y) : Srt (P1 ++ x :: P2) := by
  obtain ⟨a, b, c⟩ := List.pairwise_append.1 h
  refine List.pairwise_append.2 ⟨a, List.pairwise_cons.2 ⟨h2, b⟩, fun p hp q hq => ?_⟩
  rcases List.mem_cons.1 hq with rfl | hq
  · exact h1 p hp
  · exact c p hp q hq

set_option maxRecDepth 100000 in
set_option maxHeartbeats 2000000 in
theorem ins_any (w : World) (g cap N : Nat) (A M C : List Nat) (rest : List Value) (hN : N = (A ++ M ++ C).length) (hsz : N ≤ 140737488351232) (a b : Nat) (ha : A.length = a) (hb : b = a + M.length) (hm : M ≠ []) (h : Bx w g (A ++ M ++ C) rest) :
    Calls Try.prog 57 #[.slice (some ⟨g, 0, none⟩) N cap, .int .i64 a, .int .i64 b] w fun e w' => e = .returned (.tuple #[]) ∧ ∃ M', M'.Perm M ∧ Srt M' ∧ Bx w' g (A ++ M' ++ C) rest ∧ w.grownBy w' (some g) := by
  have hml : 0 < M.length := List.length_pos_iff.2 hm
  have hbN : b ≤ N := by rw [hN, hb]; simp; omega
  have HH : Hid (Bx w g (A ++ M ++ C) rest) := h
  have hab : a < b := by omega
  have HL : Hid (A.length = a ∧ b = a + M.length ∧ N = (A ++ M ++ C).length) := ⟨ha, hb, hN⟩
  clear h ha hb hN hm
  go_enter Try.func57, Try.ntmps57
  go_wp2
  go_loopw [6] (fun vi wr => ∃ i : Nat, vi = .int .i64 i ∧ a < i ∧ i ≤ b ∧ Hid (∃ P Q, P.length = i - a ∧ Srt P ∧ (P ++ Q).Perm M ∧ Bx wr g (A ++ (P ++ Q) ++ C) rest ∧ w.grownBy wr (some g))) (fun vi _ => b - (intOf vi).toNat)
  case atStart =>
    obtain ⟨x, Q, rfl⟩ : ∃ x Q, M = x :: Q := by
      cases M with
      | nil => cases hml
      | cons x Q => exact ⟨x, Q, rfl⟩
    exact ⟨a + 1, by go_num, by omega, by omega, [x], Q, by simp, List.pairwise_singleton _ _, List.Perm.refl _, HH.out, grownR _ _⟩
  case round =>
    obtain ⟨i, rfl, hai, hib, HI⟩ := hrel
    clear HH
    by_cases hlt : i < b
    · go_wp2
      go_loopw [7] (fun vj wr2 => ∃ j : Nat, vj = .int .i64 j ∧ a ≤ j ∧ j ≤ i ∧ Hid (∃ P1 x P2 Q, P1.length = j - a ∧ P1.length + P2.length = i - a ∧ Srt (P1 ++ P2) ∧ (∀ y ∈ P2, x ≤ y) ∧ (P1 ++ x :: P2 ++ Q).Perm M ∧ Bx wr2 g (A ++ (P1 ++ x :: P2 ++ Q) ++ C) rest ∧ w.grownBy wr2 (some g))) (fun vj _ => (intOf vj).toNat)
      case atStart =>
        obtain ⟨P, Q, h1, h2, h3, h4, h5⟩ := HI.out
        have hq : 0 < Q.length := by
          have e1 := h3.length_eq
          have e2 := HL.out.2.1
          rw [List.length_append] at e1
          omega
        obtain ⟨x, Q, rfl⟩ : ∃ x Q', Q = x :: Q' := by
          cases Q with
          | nil => cases hq
          | cons x Q => exact ⟨x, Q, rfl⟩
        exact ⟨i, rfl, by omega, Nat.le_refl _, P, x, [], Q, h1, by simp; omega, by simpa using h2, fun _ h => (by cases h), by simpa using h3, by simpa using h4, h5⟩
      case round =>
        obtain ⟨j, rfl, haj, hji, HJ⟩ := hrel
        clear HI
        have hlb : (i : Int) < (b : Int) := by omega
        by_cases hja : a < j
        · obtain ⟨x, y, P, P2, Q, h1, h2, h3, h4, h5, h6, h7⟩ : ∃ x y P P2 Q, (P ++ [y]).length = j - a ∧ (P ++ [y]).length + P2.length = i - a ∧ Srt (P ++ [y] ++ P2) ∧ (∀ z ∈ P2, x ≤ z) ∧ (P ++ [y] ++ x :: P2 ++ Q).Perm M ∧ Bx wr g (A ++ (P ++ [y] ++ x :: P2 ++ Q) ++ C) rest ∧ w.grownBy wr (some g) := by
            obtain ⟨P1, x, P2, Q, h1, h2, h3, h4, h5, h6, h7⟩ := HJ.out
            rcases List.eq_nil_or_concat P1 with rfl | ⟨P, y, rfl⟩
            · simp at h1; omega
            · rw [List.concat_eq_append] at h1 h2 h3 h5 h6
              exact ⟨x, y, P, P2, Q, h1, h2, h3, h4, h5, h6, h7⟩
          simp only [List.length_append, List.length_cons, List.length_nil] at h1
          have hAl := HL.out.1
          obtain ⟨hx, hfx⟩ := h6.get (i := j) (x := x) (by
            simp only [List.append_assoc, List.cons_append, List.nil_append]
            rw [List.getElem?_append_right (by omega), List.getElem?_append_right (by omega), show j - A.length - P.length = 1 by omega]
            rfl)
          obtain ⟨hy, hfy⟩ := h6.get (i := j - 1) (x := y) (by
            simp only [List.append_assoc, List.cons_append, List.nil_append]
            rw [List.getElem?_append_right (by omega), List.getElem?_append_right (by omega), show j - 1 - A.length - P.length = 0 by omega]
            rfl)
          have HB : Hid ((P ++ [y]).length + P2.length = i - a ∧ Srt (P ++ [y] ++ P2) ∧ (∀ z ∈ P2, x ≤ z) ∧ (P ++ [y] ++ x :: P2 ++ Q).Perm M ∧ Bx wr g (A ++ (P ++ [y] ++ x :: P2 ++ Q) ++ C) rest ∧ w.grownBy wr (some g)) := ⟨h2, h3, h4, h5, h6, h7⟩
          clear h2 h3 h4 h5 h6 h7 HJ
          go_wp2
          go_quiet (first | (go_at_call 63; refine Calls.quiet_of_same (less_any _ _ _)))
          go_wp2
          · go_region
            all_goals go_wp2
            have hl : x < y := by assumption
            obtain ⟨h2, h3, h4, h5, h6, h7⟩ := HB.out
            refine ⟨⟨j - 1, by congr 1; omega, by omega, by omega, P, x, y :: P2, Q, by omega, by simp only [List.length_append, List.length_cons, List.length_nil] at h2 ⊢; omega, by simpa using h3, fun z hz => ?_, ?_, ?_, ?_⟩, by simp [intOf]; omega⟩
            · rcases List.mem_cons.1 hz with rfl | hz
              · omega
              · exact h4 z hz
            · refine List.Perm.trans ?_ h5
              simp only [List.append_assoc, List.cons_append, List.nil_append]
              exact List.Perm.append_left P (List.Perm.swap _ _ _)
            · have := Bx.swap (W := wr.drewN (nq + 1)) (g := g) (P := A ++ P) (Q := P2 ++ Q ++ C) (x := x) (y := y) (rest := rest) (by have := h6.drewN (nq + 1); simpa using this)
              rw [show (A ++ P).length = j - 1 by rw [List.length_append]; omega, show j - 1 + 1 = j by omega] at this
              simpa [e8] using this
            · exact grownS h7 (grownS (grownD _ _ _) (grownS (gcell _ _ _ _) (gcell _ _ _ _)))
          · have hl : ¬ x < y := by omega
            obtain ⟨h2, h3, h4, h5, h6, h7⟩ := HB.out
            refine ⟨⟨i + 1, by go_num, by omega, by omega, P ++ [y] ++ x :: P2, Q, by simp only [List.length_append, List.length_cons, List.length_nil] at h2 ⊢; omega, srt_ins h3 (fun z hz => ?_) h4, h5, h6.drewN nq, grownS h7 (grownD _ _ _)⟩, by simp [intOf]; omega⟩
            have h8 := (List.pairwise_append.1 h3).1
            rcases List.mem_append.1 hz with hz | hz
            · have := (List.pairwise_append.1 h8).2.2 z hz y (by simp)
              omega
            · rw [List.mem_singleton.1 hz]; omega
        · go_wp2
          go_quiet (first | (go_at_call 63; refine Calls.quiet_of_same (less_any _ _ _)))
          go_wp2
          obtain ⟨P1, x, P2, Q, h1, h2, h3, h4, h5, h6, h7⟩ := HJ.out
          obtain rfl : P1 = [] := List.eq_nil_of_length_eq_zero (by omega)
          exact ⟨⟨i + 1, by go_num, by omega, by omega, x :: P2, Q, by simp only [List.length_nil, List.length_cons] at h2 ⊢; omega, srt_ins (P1 := []) h3 (fun _ h => (by cases h)) h4, h5, h6.drewN nq, grownS h7 (grownD _ _ _)⟩, by simp [intOf]; omega⟩
    · have hlt' : ¬ ((i : Int) < (b : Int)) := by omega
      go_wp2
      go_end0
      obtain ⟨P, Q, h1, h2, h3, h4, h5⟩ := HI.out
      obtain rfl : Q = [] := by
        have e1 := h3.length_eq
        have e2 := HL.out.2.1
        rw [List.length_append] at e1
        exact List.eq_nil_of_length_eq_zero (by omega)
      rw [List.append_nil] at h3 h4
      exact ⟨rfl, P, h3, h2, by rw [← List.append_assoc]; exact h4, h5⟩
end Go.Proofs.Ytolafffpgkgadaa
