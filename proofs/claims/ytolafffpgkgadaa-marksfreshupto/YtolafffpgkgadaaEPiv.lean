/-
  The library's order2Ordered, medianOrdered and choosePivotOrdered at few bytes: a place well within the range. Conditions: those of each theorem.
-/
import Derived.Test.YtolafffpgkgadaaEHeap
import Derived.RangeFuncNested
namespace Go.Proofs.Ytolafffpgkgadaa
open Go.RowKit

/-- the row lies in g, the count of swaps in s -/
structure Sw (w : World) (g s : Nat) (xs : List Nat) (rest : List Value) (k : Nat) (W : World) : Prop where
  bx : Bx W g xs rest
  box : W.heap[s]? = some (.cells #[.int .i64 (k : Int)] 3 (0, 0))
  gr : w.grownBy W (some s)
  ne : g ≠ s
theorem Sw.drewN {w : World} {g s : Nat} {xs : List Nat} {rest : List Value} {k : Nat} {W : World} (h : Sw w g s xs rest k W) (n : Nat) : Sw w g s xs rest k (W.drewN n) := ⟨h.bx, h.box, grownS h.gr (grownD _ _ _), h.ne⟩
theorem Sw.set {w : World} {g s : Nat} {xs : List Nat} {rest : List Value} {k : Nat} {W : World} (h : Sw w g s xs rest k W) (m : Nat) : Sw w g s xs rest m (W.setCell ⟨s, 0, none⟩ (.int .i64 (m : Int))) :=
  ⟨((gcell W s 0 _).block g (Array.getElem?_eq_some_iff.1 h.bx).1 (fun e => h.ne (Option.some.inj e))).trans h.bx, set1 (i := 0) _ h.box, grownS h.gr (gcell _ _ _ _), h.ne⟩
set_option maxRecDepth 100000 in
set_option maxHeartbeats 1000000 in
theorem order2_any {w : World} {g s cap N : Nat} {xs : List Nat} {rest : List Value} {k : Nat} {W : World} (h : Sw w g s xs rest k W) (hN : xs.length = N) (_hsz : N ≤ 1048576) (hk : k ≤ 100) (a b : Nat) (ha : a < N) (hb : b < N) :
    Calls Try.prog 74 #[.slice (some ⟨g, 0, none⟩) N cap, .int .i64 a, .int .i64 b, .pointer (some ⟨s, 0, none⟩)] W fun e W' => ∃ x y k', e = .returned (.tuple #[.int .i64 ((x : Nat) : Int), .int .i64 ((y : Nat) : Int)]) ∧ ((x = a ∧ y = b) ∨ (x = b ∧ y = a)) ∧ k' ≤ k + 1 ∧ Sw w g s xs rest k' W' := by
  obtain ⟨ca, _⟩ := h.bx.at (i := a) (by omega)
  obtain ⟨cb, _⟩ := h.bx.at (i := b) (by omega)
  obtain ⟨va, hva⟩ : ∃ va, nth xs a = va := ⟨_, rfl⟩
  obtain ⟨vb, hvb⟩ : ∃ vb, nth xs b = vb := ⟨_, rfl⟩
  rw [hva] at ca
  rw [hvb] at cb
  have hs : W.cell? ⟨s, 0, none⟩ = some (.int .i64 (k : Int)) := by simp [World.cell?, h.box]
  have hf : W.frozen? ⟨s, 0, none⟩ = false := by simp [World.frozen?, h.box]
  have HH : Hid (Sw w g s xs rest k W) := h
  have a0 : (a : Int) < (N : Int) := by omega
  have b0 : (b : Int) < (N : Int) := by omega
  clear h hva hvb hN
  go_enter Try.func74, Try.ntmps74
  go_wp2
  go_quiet (first | (go_at_call 63; refine Calls.quiet_of_same (less_any _ _ _)))
  by_cases c : vb < va
  · go_wp2
    go_ret2
    exact ⟨b, a, k + 1, rfl, .inr ⟨rfl, rfl⟩, Nat.le_refl _, (HH.out.drewN _).set (k + 1)⟩
  · go_wp2
    go_ret2
    exact ⟨a, b, k, rfl, .inl ⟨rfl, rfl⟩, Nat.le_succ _, HH.out.drewN _⟩
set_option maxRecDepth 100000 in
set_option maxHeartbeats 1000000 in
theorem median_any {w : World} {g s cap N : Nat} {xs : List Nat} {rest : List Value} {k : Nat} {W : World} (h : Sw w g s xs rest k W) (hN : xs.length = N) (hsz : N ≤ 1048576) (hk : k ≤ 10) (a b c : Nat) (ha : a < N) (hb : b < N) (hc : c < N) :
    Calls Try.prog 72 #[.slice (some ⟨g, 0, none⟩) N cap, .int .i64 a, .int .i64 b, .int .i64 c, .pointer (some ⟨s, 0, none⟩)] W fun e W' => ∃ x k', e = .returned (.int .i64 ((x : Nat) : Int)) ∧ (x = a ∨ x = b ∨ x = c) ∧ k' ≤ k + 3 ∧ Sw w g s xs rest k' W' := by
  have CO : Hid (∀ W1 k1 (a b : Nat), Sw w g s xs rest k1 W1 → k1 ≤ 100 → a < N → b < N → Calls Try.prog 74 #[.slice (some ⟨g, 0, none⟩) N cap, .int .i64 a, .int .i64 b, .pointer (some ⟨s, 0, none⟩)] W1 fun e W' => ∃ x y k', e = .returned (.tuple #[.int .i64 ((x : Nat) : Int), .int .i64 ((y : Nat) : Int)]) ∧ ((x = a ∧ y = b) ∨ (x = b ∧ y = a)) ∧ k' ≤ k1 + 1 ∧ Sw w g s xs rest k' W') := fun W1 k1 a b h1 h2 h3 h4 => order2_any h1 hN hsz h2 a b h3 h4
  have HH : Hid (Sw w g s xs rest k W) := h
  clear h hN
  go_enter Try.func72, Try.ntmps72
  go_wp2_with (first
    | (go_at_call 74; guard_hyp HH :ₛ Hid (Sw w g s xs rest k W); refine (CO.out _ _ _ _ HH.out (by omega) (by omega) (by omega)).mono ?_; clear HH; rintro e w1 ⟨x1, y1, k1, rfl, h1, h2, h3⟩; have HH1 : Hid (Sw w g s xs rest k1 w1) := h3; clear h3)
    | (go_at_call 74; refine (CO.out _ _ _ _ HH1.out (by omega) (by omega) (by omega)).mono ?_; clear HH1; rintro e w2 ⟨x2, y2, k2, rfl, h4, h5, h6⟩; have HH2 : Hid (Sw w g s xs rest k2 w2) := h6; clear h6)
    | (go_at_call 74; refine (CO.out _ _ _ _ HH2.out (by omega) (by omega) (by omega)).mono ?_; clear HH2; rintro e w3 ⟨x3, y3, k3, rfl, h7, h8, h9⟩; have HH3 : Hid (Sw w g s xs rest k3 w3) := h9; clear h9))
  go_ret
  exact ⟨y3, k3, rfl, by omega, by omega, HH3.out⟩
set_option maxRecDepth 100000 in
set_option maxHeartbeats 1000000 in
theorem pivot_any {w : World} {g cap N : Nat} {xs : List Nat} {rest : List Value} (h : Bx w g xs rest) (hN : xs.length = N) (hsz : N ≤ 1048576) (a b l : Nat) (hl : b = a + l) (h8 : 8 ≤ l) (h50 : l < 50) (hb : b ≤ N) :
    Calls Try.prog 60 #[.slice (some ⟨g, 0, none⟩) N cap, .int .i64 a, .int .i64 b] w fun e W' => ∃ (p : Nat) (hint : Int), e = .returned (.tuple #[.int .i64 (p : Int), .int .i64 hint]) ∧ a < p ∧ p < b ∧ (hint = 0 ∨ hint = 1) ∧ Below w.heap.size w W' := by
  have hgl := (Array.getElem?_eq_some_iff.1 h).1
  have HB : Hid (Below w.heap.size w (w.alloc (.cells #[.int .i64 0] 3))) := (Below.refl _ w).alloc (Nat.le_refl _) _
  have HS : Hid (Sw (w.alloc (.cells #[.int .i64 0] 3)) g w.heap.size xs rest 0 (w.alloc (.cells #[.int .i64 0] 3))) := ⟨(HB.out.block g hgl).trans h, World.alloc_heap_new w _, grownR _ _, by omega⟩
  have hba : (b : Int) - (a : Int) = (l : Int) := by omega
  have hq : (l : Int).tdiv 4 = ((l / 4 : Nat) : Int) := rfl
  obtain ⟨q, hq2⟩ : ∃ q, l / 4 = q := ⟨_, rfl⟩
  rw [hq2] at hq
  have hql : 2 ≤ q ∧ q * 4 ≤ l := by omega
  have CM := median_any HS.out hN hsz (by omega) (a + q) (a + q * 2) (a + q * 3) (cap := cap) (by omega) (by omega) (by omega)
  rw [show ((a + q : Nat) : Int) = (a : Int) + (q : Int) by omega, show ((a + q * 2 : Nat) : Int) = (a : Int) + (q : Int) * 2 by omega, show ((a + q * 3 : Nat) : Int) = (a : Int) + (q : Int) * 3 by omega] at CM
  have H50 : ¬ (50 : Int) ≤ (l : Int) := by omega
  have H8 : (8 : Int) ≤ (l : Int) := by omega
  have HL : Hid (b = a + l) := hl
  clear h hN HS hq2 hl
  go_enter Try.func60, Try.ntmps60
  go_wp2_with (go_at_call 72; refine CM.mono ?_; clear CM; rintro e w2 ⟨x, k, rfl, hx, hk, hsw⟩; have HW : Hid (Sw (w.alloc (.cells #[.int .i64 0] 3)) g w.heap.size xs rest k w2) := hsw; have hc : w2.cell? ⟨w.heap.size, 0, none⟩ = some (.int .i64 (k : Int)) := (by simp [World.cell?, hsw.box]); clear hsw)
  all_goals try (exfalso; omega)
  all_goals go_ret2
  all_goals (have hlo := HL.out; refine ⟨x, _, rfl, by omega, by omega, by simp, ?_⟩; have g1 := HW.out.gr; exact HB.out.grown g1 HB.out.size (fun j e => by cases e; exact Nat.le_refl _))
end Go.Proofs.Ytolafffpgkgadaa
