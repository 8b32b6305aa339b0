/-
  The library's siftDownOrdered and heapSortOrdered at bytes. Conditions: those of each theorem.
-/
import Derived.Test.YtolafffpgkgadaaEPart
namespace Go.Proofs.Ytolafffpgkgadaa
open Go.RowKit

theorem wi64 {x : Int} (h0 : -9223372036854775808 ≤ x) (h1 : x ≤ 9223372036854775807) : IntKind.i64.wrap x = x := by simp [IntKind.wrap, IntKind.bits, IntKind.signed]; omega
/-- below lo each is not above its parent -/
def Hp (d : Nat → Nat) (lo n : Nat) : Prop := ∀ k, lo ≤ k → ∀ c, (c = 2 * k + 1 ∨ c = 2 * k + 2) → c < n → d c ≤ d k
/-- .. but for r, whose parent is above r's children -/
def Hr (d : Nat → Nat) (lo n r : Nat) : Prop :=
  (∀ k, lo ≤ k → k ≠ r → ∀ c, (c = 2 * k + 1 ∨ c = 2 * k + 2) → c < n → d c ≤ d k) ∧ (∀ q, lo ≤ q → (r = 2 * q + 1 ∨ r = 2 * q + 2) → ∀ c, (c = 2 * r + 1 ∨ c = 2 * r + 2) → c < n → d c ≤ d q)
theorem Hr.start {d : Nat → Nat} {lo n : Nat} (h : Hp d (lo + 1) n) : Hr d lo n lo := ⟨fun k h1 h2 => h k (by omega), fun q h1 h2 => by omega⟩
theorem Hr.stop {d : Nat → Nat} {lo n r : Nat} (h : Hr d lo n r) (hr : ∀ c, (c = 2 * r + 1 ∨ c = 2 * r + 2) → c < n → d c ≤ d r) : Hp d lo n := fun k h1 => by
  by_cases e : k = r
  · subst e; exact hr
  · exact h.1 k h1 e
theorem Hr.step {d d' : Nat → Nat} {lo n r c : Nat} (h : Hr d lo n r) (hlo : lo ≤ r) (hc : c = 2 * r + 1 ∨ c = 2 * r + 2) (hcn : c < n) (hlt : d r ≤ d c) (ho : ∀ x, (x = 2 * r + 1 ∨ x = 2 * r + 2) → x < n → d x ≤ d c)
    (hd : ∀ k, d' k = if k = c then d r else if k = r then d c else d k) : Hr d' lo n c := by
  have hcr : c ≠ r := by omega
  refine ⟨fun k hk hkc x hx hxn => ?_, fun q hq hcq x hx hxn => ?_⟩
  · by_cases e : k = r
    · subst e
      rw [hd x, hd k, if_neg (fun e => hkc e), if_pos rfl]
      split
      · exact hlt
      · rw [if_neg (by omega)]; exact ho x hx hxn
    · rw [hd k, if_neg hkc, if_neg e, hd x, if_neg (by omega)]
      split
      · rename_i e2
        subst e2
        exact h.2 k hk hx c hc hcn
      · exact h.1 k hk e x hx hxn
  · obtain rfl : q = r := by omega
    rw [hd q, if_neg (fun e => hcr e.symm), if_pos rfl, hd x, if_neg (by omega), if_neg (by omega)]
    exact h.1 c (by omega) hcr x hx hxn
theorem Hp.top {d : Nat → Nat} {n : Nat} (h : Hp d 0 n) : ∀ k, k < n → d k ≤ d 0 := by
  intro k
  induction k using Nat.strongRecOn with
  | ind k ih =>
    intro hk
    by_cases e : k = 0
    · rw [e]; exact Nat.le_refl _
    · have h1 := h ((k - 1) / 2) (Nat.zero_le _) k (by omega) hk
      have h2 := ih ((k - 1) / 2) (by omega) (by omega)
      omega
/-- the row from f on -/
def dd (ys : List Nat) (f : Nat) : Nat → Nat := fun k => nth ys (f + k)
theorem dd_swp {ys : List Nat} {f r c : Nat} (hr : f + r < ys.length) (hc : f + c < ys.length) : ∀ k, dd (swp ys (f + r) (f + c)) f k = if k = c then dd ys f r else if k = r then dd ys f c else dd ys f k := fun k => by
  unfold dd
  rw [nth_swp hr hc]
  by_cases e1 : k = c
  · subst e1; rw [if_pos rfl, if_pos rfl]
  · rw [if_neg (by omega), if_neg e1]
    by_cases e2 : k = r
    · subst e2; rw [if_pos rfl, if_pos rfl]
    · rw [if_neg (by omega), if_neg e2]
/-- a row that is changed within a range -/
structure Rg (w : World) (g a b : Nat) (xs : List Nat) (rest : List Value) (ys : List Nat) (W : World) : Prop where
  sm : Sm a b xs ys
  bx : Bx W g ys rest
  gr : w.grownBy W (some g)
theorem Rg.drewN {w : World} {g a b : Nat} {xs : List Nat} {rest : List Value} {ys : List Nat} {W : World} (h : Rg w g a b xs rest ys W) (n : Nat) : Rg w g a b xs rest ys (W.drewN n) := ⟨h.sm, h.bx, grownS h.gr (grownD _ _ _)⟩
theorem Rg.drew {w : World} {g a b : Nat} {xs : List Nat} {rest : List Value} {ys : List Nat} {W : World} (h : Rg w g a b xs rest ys W) : Rg w g a b xs rest ys W.drew := ⟨h.sm, h.bx, grownS h.gr ⟨rfl, rfl, rfl, Nat.le_refl _, fun _ _ _ => rfl⟩⟩
theorem Rg.swap {w : World} {g a b : Nat} {xs : List Nat} {rest : List Value} {ys : List Nat} {W : World} (h : Rg w g a b xs rest ys W) (hb : b ≤ xs.length) {i j : Nat} (h1 : a ≤ i) (h2 : i < b) (h3 : a ≤ j) (h4 : j < b) :
    Rg w g a b xs rest (swp ys i j) ((W.setCell ⟨g, i, none⟩ (.int .u8 (nth ys j : Int))).setCell ⟨g, j, none⟩ (.int .u8 (nth ys i : Int))) := by
  have hl := h.sm.len
  exact ⟨h.sm.trans (Sm.swap (by omega) h1 h2 h3 h4), h.bx.swp (by omega) (by omega), grownS h.gr (grownS (gcell _ _ _ _) (gcell _ _ _ _))⟩
theorem Rg.trans {w w1 : World} {g a b : Nat} {xs ys zs : List Nat} {rest : List Value} {W : World} (h : Rg w g a b xs rest ys w1) (k : Rg w1 g a b ys rest zs W) : Rg w g a b xs rest zs W := ⟨h.sm.trans k.sm, k.bx, grownS h.gr k.gr⟩
theorem Rg.mono {w : World} {g a b a' b' : Nat} {xs ys : List Nat} {rest : List Value} {W : World} (h : Rg w g a' b' xs rest ys W) (h1 : a ≤ a') (h2 : b' ≤ b) : Rg w g a b xs rest ys W := ⟨h.sm.mono h1 h2, h.bx, h.gr⟩

set_option maxRecDepth 100000 in
set_option maxHeartbeats 4000000 in
theorem sift_any (w : World) (g cap N : Nat) (xs : List Nat) (rest : List Value) (hN : xs.length = N) (hsz : N ≤ 1048576) (lo n f : Nat) (hfn : f + n ≤ N) (hlo : lo ≤ N) (h : Bx w g xs rest) (hH : Hp (dd xs f) (lo + 1) n) :
    Calls Try.prog 68 #[.slice (some ⟨g, 0, none⟩) N cap, .int .i64 lo, .int .i64 n, .int .i64 f] w fun e w' => e = .returned (.tuple #[]) ∧ ∃ ys, Rg w g f (f + n) xs rest ys w' ∧ Hp (dd ys f) lo n := by
  have HH : Hid (Rg w g f (f + n) xs rest xs w ∧ Hr (dd xs f) lo n lo) := ⟨⟨Sm.refl _ _ _, h, grownR _ _⟩, Hr.start hH⟩
  clear h hH
  go_enter Try.func68, Try.ntmps68
  go_wp2
  go_loopw [8] (fun t8 wr => ∃ r : Nat, t8 = .int .i64 r ∧ lo ≤ r ∧ r ≤ N ∧ Hid (∃ ys, Rg w g f (f + n) xs rest ys wr ∧ Hr (dd ys f) lo n r)) (fun t8 _ => N - (intOf t8).toNat)
  case atStart => exact ⟨lo, rfl, Nat.le_refl _, hlo, xs, HH.out⟩
  case round =>
    obtain ⟨r, rfl, hr1, hr2, HI⟩ := hrel
    clear HH
    obtain ⟨ys, hys, hr⟩ := HI.out
    have hyl := hys.sm.len
    by_cases c1 : 2 * r + 1 < n
    · -- the greater child
      obtain ⟨c, hc1, hc2, hc3, hc4⟩ : ∃ c, (c = 2 * r + 1 ∨ c = 2 * r + 2) ∧ c < n ∧ (∀ x, (x = 2 * r + 1 ∨ x = 2 * r + 2) → x < n → dd ys f x ≤ dd ys f c) ∧ ((c = 2 * r + 2) ↔ (2 * r + 2 < n ∧ dd ys f (2 * r + 1) < dd ys f (2 * r + 2))) := by
        by_cases c2 : 2 * r + 2 < n ∧ dd ys f (2 * r + 1) < dd ys f (2 * r + 2)
        · exact ⟨2 * r + 2, .inr rfl, c2.1, fun x hx _ => by rcases hx with rfl | rfl <;> omega, by simp [c2]⟩
        · exact ⟨2 * r + 1, .inl rfl, c1, fun x hx hxn => by rcases hx with rfl | rfl <;> omega, by constructor; intro h; omega; intro h; exact absurd h c2⟩
      have HY : Hid (Rg w g f (f + n) xs rest ys wr) := hys
      have HC : Hid (Hr (dd ys f) lo n r ∧ (∀ x, (x = 2 * r + 1 ∨ x = 2 * r + 2) → x < n → dd ys f x ≤ dd ys f c)) := ⟨hr, hc3⟩
      have H4 : Hid (c = 2 * r + 2 ↔ (2 * r + 2 < n ∧ dd ys f (2 * r + 1) < dd ys f (2 * r + 2))) := hc4
      have c1' : ¬ (n : Int) ≤ 2 * (r : Int) + 1 := by omega
      clear HI hys hr hc3 hc4
      go_upto_region 3 with fail
      go_cut [36] (fun t36 wc => t36 = .bool (decide (c = 2 * r + 2)) ∧ Hid (Rg w g f (f + n) xs rest ys wc))
      case first =>
        obtain ⟨x1, y1⟩ := HY.out.bx.at (i := f + (2 * r + 1)) (by omega)
        have e1 : ((f : Int) + (2 * (r : Int) + 1)).toNat = f + (2 * r + 1) := by omega
        have b1 : 0 ≤ (f : Int) + (2 * (r : Int) + 1) ∧ (f : Int) + (2 * (r : Int) + 1) < (N : Int) := by omega
        have w1 : IntKind.i64.wrap (2 * (r : Int) + 1 + 1) = 2 * (r : Int) + 1 + 1 := wi64 (by omega) (by omega)
        have w2 : IntKind.i64.wrap ((f : Int) + (2 * (r : Int) + 1)) = (f : Int) + (2 * (r : Int) + 1) := wi64 (by omega) (by omega)
        have w3 : IntKind.i64.wrap ((f : Int) + (2 * (r : Int) + 1) + 1) = (f : Int) + (2 * (r : Int) + 1) + 1 := wi64 (by omega) (by omega)
        by_cases c2 : 2 * r + 2 < n
        · obtain ⟨x2, y2⟩ := HY.out.bx.at (i := f + (2 * r + 2)) (by omega)
          have e3 : ((f : Int) + (2 * (r : Int) + 1) + 1).toNat = f + (2 * r + 2) := by omega
          have b2 : 0 ≤ (f : Int) + (2 * (r : Int) + 1) + 1 ∧ (f : Int) + (2 * (r : Int) + 1) + 1 < (N : Int) := by omega
          have c2' : decide (2 * (r : Int) + 1 + 1 < (n : Int)) = true := decide_eq_true (by omega)
          obtain ⟨v1, hv1⟩ : ∃ v1, nth ys (f + (2 * r + 1)) = v1 := ⟨_, rfl⟩
          obtain ⟨v2, hv2⟩ : ∃ v2, nth ys (f + (2 * r + 2)) = v2 := ⟨_, rfl⟩
          rw [hv1] at x1
          rw [hv2] at x2
          have HV : Hid (decide (v1 < v2) = decide (c = 2 * r + 2)) := by
            show decide (v1 < v2) = _
            have := H4.out
            unfold dd at this
            rw [hv1, hv2] at this
            rw [Bool.eq_iff_iff]
            simp only [decide_eq_true_eq]
            rw [this]
            exact ⟨fun h => ⟨c2, h⟩, fun h => h.2⟩
          clear hv1 hv2
          go_wp2
          go_quiet (first | (go_at_call 63; refine Calls.quiet_of_same (less_any _ _ _)))
          go_wp2
          go_meet
          case rel => exact ⟨by rw [← HV.out], HY.out.drewN _⟩
        · have c2' : decide (2 * (r : Int) + 1 + 1 < (n : Int)) = false := decide_eq_false (by omega)
          have HV : Hid (decide (c = 2 * r + 2) = false) := by
            show decide (c = 2 * r + 2) = false
            exact decide_eq_false (fun h => c2 (H4.out.1 h).1)
          go_wp2
          go_quiet (first | (go_at_call 63; refine Calls.quiet_of_same (less_any _ _ _)))
          go_wp2
          go_meet
          case rel => exact ⟨by rw [HV.out], HY.out.drewN _⟩
      case rest =>
        obtain ⟨rfl, H⟩ := hcut
        clear HY H4
        go_upto_if 36 with fail
        go_cut [9] (fun t9 wc => t9 = .int .i64 (c : Int) ∧ Hid (Rg w g f (f + n) xs rest ys wc))
        case first =>
          by_cases e : c = 2 * r + 2
          · subst e
            go_wp2
            go_meet
            case rel => exact ⟨by go_num, H⟩
          · obtain rfl : c = 2 * r + 1 := by omega
            go_wp2
            go_meet
            case rel => exact ⟨by go_num, H⟩
        case rest =>
          clear H
          obtain ⟨rfl, H⟩ := hcut
          obtain ⟨xr, yr⟩ := H.out.bx.at (i := f + r) (by omega)
          obtain ⟨xc, yc⟩ := H.out.bx.at (i := f + c) (by omega)
          have e2 : ((f : Int) + (r : Int)).toNat = f + r := by omega
          have e4 : ((f : Int) + (c : Int)).toNat = f + c := by omega
          have b3 : 0 ≤ (f : Int) + (r : Int) ∧ (f : Int) + (r : Int) < (N : Int) := by omega
          have b4 : 0 ≤ (f : Int) + (c : Int) ∧ (f : Int) + (c : Int) < (N : Int) := by omega
          obtain ⟨vr, hvr⟩ : ∃ vr, nth ys (f + r) = vr := ⟨_, rfl⟩
          obtain ⟨vc, hvc⟩ : ∃ vc, nth ys (f + c) = vc := ⟨_, rfl⟩
          have hne : f + r ≠ f + c := by omega
          by_cases c5 : vr < vc
          · have HD : Hid (∀ q, Rg w g f (f + n) xs rest (swp ys (f + r) (f + c)) (((wc.drewN q).setCell ⟨g, f + r, none⟩ (.int .u8 (vc : Int))).setCell ⟨g, f + c, none⟩ (.int .u8 (vr : Int))) ∧ Hr (dd (swp ys (f + r) (f + c)) f) lo n c) := fun q => by
              rw [← hvr, ← hvc]
              refine ⟨(H.out.drewN q).swap (by omega) (by omega) (by omega) (by omega) (by omega), HC.out.1.step hr1 hc1 hc2 ?_ HC.out.2 (dd_swp (by omega) (by omega))⟩
              unfold dd
              rw [hvr, hvc]
              omega
            rw [hvr] at xr
            rw [hvc] at xc
            clear hvr hvc H HC
            go_wp2
            go_quiet (first | (go_at_call 63; refine Calls.quiet_of_same (less_any _ _ _)))
            go_wp2
            go_region
            all_goals go_wp2
            exact ⟨⟨c, rfl, by omega, by omega, _, HD.out _⟩, by simp [intOf]; omega⟩
          · have HD : Hid (Hp (dd ys f) lo n) := HC.out.1.stop (fun x hx hxn => by
              have h1 := HC.out.2 x hx hxn
              have h2 : dd ys f c = vc := hvc
              have h3 : dd ys f r = vr := hvr
              omega)
            rw [hvr] at xr
            rw [hvc] at xc
            clear hvr hvc HC
            go_wp2
            go_quiet (first | (go_at_call 63; refine Calls.quiet_of_same (less_any _ _ _)))
            go_wp2
            exact bodyPost_ret (results_none rfl _ _ _) rfl ⟨rfl, ys, H.out.drewN _, HD.out⟩
    · have c1' : (n : Int) ≤ 2 * (r : Int) + 1 := by omega
      have HY : Hid (Rg w g f (f + n) xs rest ys wr ∧ Hp (dd ys f) lo n) := ⟨hys, hr.stop (fun c hc hcn => by omega)⟩
      clear hys hr HI
      go_wp2
      go_end0
      exact ⟨rfl, ys, HY.out⟩
end Go.Proofs.Ytolafffpgkgadaa
