/-
  The library's heapSortOrdered at bytes: it sorts. Conditions: those of the theorem.
-/
import Derived.Test.YtolafffpgkgadaaEHeap
namespace Go.Proofs.Ytolafffpgkgadaa
open Go.RowKit

/-- from k on none is below one ahead of it -/
def Tl (d : Nat → Nat) (k n : Nat) : Prop := ∀ p q, p < q → q < n → k ≤ q → d p ≤ d q
theorem Tl.step {d d1 z : Nat → Nat} {i n : Nat} (h : Tl d (i + 1) n) (hH : Hp d 0 (i + 1)) (hd : ∀ k, d1 k = if k = i then d 0 else if k = 0 then d i else d k) (hin : i < n)
    (hz : ∀ k, k < i → ∃ k', k' < i ∧ z k = d1 k') (hz2 : ∀ k, i ≤ k → z k = d1 k) : Tl z i n := by
  have top := hH.top
  -- what lies ahead of i is something that lay in the heap
  have hm : ∀ k, k ≤ i → ∃ x, x ≤ i ∧ z k = d x := fun k hk => by
    have : ∀ y, y ≤ i → ∃ x, x ≤ i ∧ d1 y = d x := fun y hy => by
      rw [hd y]
      split
      · exact ⟨0, by omega, rfl⟩
      · split
        · exact ⟨i, by omega, rfl⟩
        · exact ⟨y, hy, rfl⟩
    by_cases e : k < i
    · obtain ⟨k', h1, h2⟩ := hz k e
      obtain ⟨x, h3, h4⟩ := this k' (by omega)
      exact ⟨x, h3, h2.trans h4⟩
    · obtain ⟨x, h3, h4⟩ := this k hk
      exact ⟨x, h3, (hz2 k (by omega)).trans h4⟩
  intro p q hpq hqn hiq
  by_cases e : q = i
  · subst e
    have e1 : z q = d 0 := by rw [hz2 q (Nat.le_refl _), hd q, if_pos rfl]
    obtain ⟨x, h1, h2⟩ := hm p (by omega)
    rw [e1, h2]
    exact top x (by omega)
  · have e1 : z q = d q := by rw [hz2 q hiq, hd q, if_neg e, if_neg (by omega)]
    rw [e1]
    by_cases e2 : p ≤ i
    · obtain ⟨x, h1, h2⟩ := hm p e2
      rw [h2]
      exact h x q (by omega) hqn (by omega)
    · rw [hz2 p (by omega), hd p, if_neg (by omega), if_neg (by omega)]
      exact h p q hpq hqn (by omega)
set_option maxRecDepth 100000 in
set_option maxHeartbeats 4000000 in
theorem heap_any (w : World) (g cap N : Nat) (xs : List Nat) (rest : List Value) (hN : xs.length = N) (hsz : N ≤ 1048576) (a b n : Nat) (hb : b = a + n) (hn : 1 ≤ n) (hbN : b ≤ N) (h : Bx w g xs rest) :
    Calls Try.prog 58 #[.slice (some ⟨g, 0, none⟩) N cap, .int .i64 a, .int .i64 b] w fun e w' => e = .returned (.tuple #[]) ∧ ∃ ys, Rg w g a b xs rest ys w' ∧ SrtOn a b ys := by
  have CS : Hid (∀ (W : World) (ys : List Nat) (lo m : Nat), Rg w g a b xs rest ys W → m ≤ n → lo ≤ n → Hp (dd ys a) (lo + 1) m → Calls Try.prog 68 #[.slice (some ⟨g, 0, none⟩) N cap, .int .i64 lo, .int .i64 m, .int .i64 a] W fun e W' => e = .returned (.tuple #[]) ∧ ∃ zs, Rg W g a (a + m) ys rest zs W' ∧ Hp (dd zs a) lo m) := fun W ys lo m hr hm hlo hp =>
    sift_any W g cap N ys rest (by rw [hr.sm.len, hN]) hsz lo m a (by omega) (by omega) hr.bx hp
  have HH : Hid (Rg w g a b xs rest xs w) := ⟨Sm.refl _ _ _, h, grownR _ _⟩
  have hba : (b : Int) - (a : Int) = (n : Int) := by omega
  have hxl := hN
  have hq : ((n : Int) - 1).tdiv 2 = (((n - 1) / 2 : Nat) : Int) := by rw [show (n : Int) - 1 = ((n - 1 : Nat) : Int) by omega]; rfl
  have HB : Hid (b = a + n) := hb
  clear h hb
  go_enter Try.func58, Try.ntmps58
  go_wp2
  go_loopw [9] (fun t9 wr => ∃ k : Nat, t9 = .int .i64 ((k : Int) - 1) ∧ k ≤ n ∧ Hid (∃ ys, Rg w g a b xs rest ys wr ∧ Hp (dd ys a) k n)) (fun t9 _ => (intOf t9 + 1).toNat)
  case atStart =>
    refine ⟨(n - 1) / 2 + 1, ?_, by omega, xs, HH.out, fun k hk c hc hcn => by omega⟩
    congr 1
    omega
  case round =>
    obtain ⟨k, rfl, hk, HI⟩ := hrel
    clear HH
    by_cases c : 1 ≤ k
    · obtain ⟨i, rfl⟩ : ∃ i, k = i + 1 := ⟨k - 1, by omega⟩
      obtain ⟨ys, hys, hp⟩ := HI.out
      have C1 := CS.out wr ys i n hys (Nat.le_refl _) (by omega) hp
      have e1 : ((i + 1 : Nat) : Int) - 1 = (i : Int) := by omega
      have HY : Hid (Rg w g a b xs rest ys wr) := hys
      clear HI hys hp
      rw [e1]
      go_wp2_with (go_at_call 68; refine C1.mono ?_; clear C1; rintro e w2 ⟨rfl, zs, h1, h2⟩; have HZ : Hid (Rg wr g a (a + n) ys rest zs w2 ∧ Hp (dd zs a) i n) := ⟨h1, h2⟩; clear h1 h2)
      exact ⟨⟨i, rfl, by omega, zs, HY.out.trans (HB.out ▸ HZ.out.1), HZ.out.2⟩, by simp [intOf]⟩
    · have k0 : k = 0 := by omega
      have HI0 : Hid (∃ ys, Rg w g a b xs rest ys wr ∧ Hp (dd ys a) 0 n) := k0 ▸ HI
      rw [show (k : Int) - 1 = -1 by omega]
      clear HI k0 c hk
      have HI := HI0
      clear HI0
      go_wp2
      go_loopw [10] (fun t10 wq => ∃ k : Nat, t10 = .int .i64 ((k : Int) - 1) ∧ k ≤ n ∧ Hid (∃ ys, Rg w g a b xs rest ys wq ∧ Hp (dd ys a) 0 k ∧ Tl (dd ys a) k n)) (fun t10 _ => (intOf t10 + 1).toNat)
      case atStart =>
        obtain ⟨ys, hys, hp⟩ := HI.out
        exact ⟨n, rfl, Nat.le_refl _, ys, hys, hp, fun p q _ h1 h2 => by omega⟩
      case round =>
        obtain ⟨k, rfl, hk2, HJ⟩ := hrel
        clear HI
        by_cases c2 : 1 ≤ k
        · obtain ⟨i, rfl⟩ : ∃ i, k = i + 1 := ⟨k - 1, by omega⟩
          obtain ⟨ys, hys, hp, htl⟩ := HJ.out
          have hyl := hys.sm.len
          have hbo := HB.out
          have e1 : ((i + 1 : Nat) : Int) - 1 = (i : Int) := by omega
          rw [e1]
          obtain ⟨x0, y0⟩ := hys.bx.at (i := a) (by omega)
          obtain ⟨xi, yi⟩ := hys.bx.at (i := a + i) (by omega)
          have hds := dd_swp (ys := ys) (f := a) (r := 0) (c := i) (by omega) (by omega)
          rw [Nat.add_zero] at hds
          have C1 : Hid (Calls Try.prog 68 #[.slice (some ⟨g, 0, none⟩) N cap, .int .i64 (0 : Nat), .int .i64 i, .int .i64 a] ((wr.drew.setCell ⟨g, a, none⟩ (.int .u8 (nth ys (a + i) : Int))).setCell ⟨g, a + i, none⟩ (.int .u8 (nth ys a : Int))) fun e W' => e = .returned (.tuple #[]) ∧ ∃ zs, Rg w g a b xs rest zs W' ∧ Hp (dd zs a) 0 i ∧ Tl (dd zs a) i n) := by
            have hsw := hys.drew.swap (by omega) (i := a) (j := a + i) (by omega) (by omega) (by omega) (by omega)
            refine (CS.out _ _ 0 i hsw (by omega) (by omega) ?_).mono ?_
            · intro k' hk' c' hc' hcn'
              rw [hds c', hds k', if_neg (by omega), if_neg (by omega), if_neg (by omega), if_neg (by omega)]
              exact hp k' (by omega) c' hc' (by omega)
            · rintro e W' ⟨rfl, zs, h1, h2⟩
              refine ⟨rfl, zs, hsw.trans (h1.mono (Nat.le_refl _) (by omega)), h2, htl.step hp hds (by omega) (fun k' hk' => ?_) (fun k' hk' => ?_)⟩
              · obtain ⟨j', j1, j2, j3⟩ := h1.sm.mem (by rw [swp_len]; omega) (k := a + k') (by omega) (by omega)
                exact ⟨j' - a, by omega, by unfold dd; rw [j3]; congr 1; omega⟩
              · exact h1.sm.out (a + k') (.inr (by omega))
          obtain ⟨v0, hv0⟩ : ∃ v0, nth ys a = v0 := ⟨_, rfl⟩
          obtain ⟨vi, hvi⟩ : ∃ vi, nth ys (a + i) = vi := ⟨_, rfl⟩
          rw [hv0] at x0 C1
          rw [hvi] at xi C1
          have e2 : ((a : Int) + (i : Int)).toNat = a + i := by omega
          have b2 : 0 ≤ (a : Int) + (i : Int) ∧ (a : Int) + (i : Int) < (N : Int) := by omega
          clear hys hp htl hds HJ hbo
          by_cases e : i = 0
          · subst e
            obtain rfl : vi = v0 := hvi.symm.trans hv0
            clear hvi hv0
            go_wp2
            go_region
            all_goals go_wp2_with (go_at_call 68; refine C1.out.mono ?_; clear C1; rintro e w2 ⟨rfl, zs, h1, h2, h3⟩; have HZ : Hid (Rg w g a b xs rest zs w2 ∧ Hp (dd zs a) 0 0 ∧ Tl (dd zs a) 0 n) := ⟨h1, h2, h3⟩; clear h1 h2 h3)
            exact ⟨⟨0, rfl, by omega, zs, HZ.out⟩, by simp [intOf]⟩
          · have hne : a ≠ a + i := by omega
            clear hvi hv0
            go_wp2
            go_region
            all_goals go_wp2_with (go_at_call 68; refine C1.out.mono ?_; clear C1; rintro e w2 ⟨rfl, zs, h1, h2, h3⟩; have HZ : Hid (Rg w g a b xs rest zs w2 ∧ Hp (dd zs a) 0 i ∧ Tl (dd zs a) i n) := ⟨h1, h2, h3⟩; clear h1 h2 h3)
            exact ⟨⟨i, rfl, by omega, zs, HZ.out⟩, by simp [intOf]⟩
        · obtain rfl : k = 0 := by omega
          go_wp2
          go_end0
          obtain ⟨ys, hys, hp, htl⟩ := HJ.out
          refine ⟨rfl, ys, hys, fun i j h1 h2 h3 => ?_⟩
          have hbo := HB.out
          have := htl (i - a) (j - a) (by omega) (by omega) (Nat.zero_le _)
          unfold dd at this
          rwa [show a + (i - a) = i by omega, show a + (j - a) = j by omega] at this
end Go.Proofs.Ytolafffpgkgadaa
