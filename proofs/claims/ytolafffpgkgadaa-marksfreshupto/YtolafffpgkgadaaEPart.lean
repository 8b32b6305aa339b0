/-
  The library's partitionOrdered at bytes: what lies ahead of the answered place is below what lies there, what lies behind is not. Conditions: those of each theorem.
-/
import Derived.Test.YtolafffpgkgadaaEIns
import Derived.Test.YtolafffpgkgadaaEPerm
import Derived.Deep.DeepCutAuto
namespace Go.Proofs.Ytolafffpgkgadaa
open Go.RowKit

theorem Bx.at {W : World} {g : Nat} {xs : List Nat} {rest : List Value} (h : Bx W g xs rest) {i : Nat} (hi : i < xs.length) : W.cell? ⟨g, i, none⟩ = some (.int .u8 (nth xs i : Int)) ∧ W.frozen? ⟨g, i, none⟩ = false := h.get (nth_get hi)
theorem Bx.set {W : World} {g : Nat} {xs : List Nat} {rest : List Value} (h : Bx W g xs rest) {i v : Nat} (hi : i < xs.length) : Bx (W.setCell ⟨g, i, none⟩ (.int .u8 (v : Int))) g (xs.set i v) rest := by
  have h1 := set1 (i := i) (.int .u8 (v : Int)) h
  unfold Bx
  rw [h1]
  congr 2
  apply Array.toList_inj.1
  rw [Array.toList_setIfInBounds]
  simp only []
  rw [List.set_append_left _ _ (by simpa using hi), List.map_set]
  rfl
theorem Bx.swp {W : World} {g : Nat} {xs : List Nat} {rest : List Value} (h : Bx W g xs rest) {i j : Nat} (hi : i < xs.length) (hj : j < xs.length) :
    Bx ((W.setCell ⟨g, i, none⟩ (.int .u8 (nth xs j : Int))).setCell ⟨g, j, none⟩ (.int .u8 (nth xs i : Int))) g (swp xs i j) rest := (h.set hi).set (by simpa using hj)
/-- the state of a partition: ahead of i all is below P, behind j nothing is -/
structure Pt (w : World) (g a b P : Nat) (xs : List Nat) (rest : List Value) (i j : Nat) (ys : List Nat) (W : World) : Prop where
  sm : Sm a b xs ys
  piv : nth ys a = P
  lo : ∀ k, a < k → k < i → nth ys k < P
  hi : ∀ k, j < k → k < b → P ≤ nth ys k
  bx : Bx W g ys rest
  gr : w.grownBy W (some g)
theorem Pt.drewN {w : World} {g a b P : Nat} {xs : List Nat} {rest : List Value} {i j : Nat} {ys : List Nat} {W : World} (h : Pt w g a b P xs rest i j ys W) (n : Nat) : Pt w g a b P xs rest i j ys (W.drewN n) :=
  ⟨h.sm, h.piv, h.lo, h.hi, h.bx, grownS h.gr (grownD _ _ _)⟩
theorem Pt.drew {w : World} {g a b P : Nat} {xs : List Nat} {rest : List Value} {i j : Nat} {ys : List Nat} {W : World} (h : Pt w g a b P xs rest i j ys W) : Pt w g a b P xs rest i j ys W.drew :=
  ⟨h.sm, h.piv, h.lo, h.hi, h.bx, grownS h.gr ⟨rfl, rfl, rfl, Nat.le_refl _, fun _ _ _ => rfl⟩⟩
/-- i and j change places -/
theorem Pt.swap {w : World} {g a b P : Nat} {xs : List Nat} {rest : List Value} {i j : Nat} {ys : List Nat} {W : World} (h : Pt w g a b P xs rest i j ys W) (hb : b ≤ xs.length) (h1 : a < i) (h2 : i < j) (h3 : j < b) (hi : P ≤ nth ys i) (hj : nth ys j < P) :
    Pt w g a b P xs rest (i + 1) (j - 1) (swp ys i j) ((W.setCell ⟨g, i, none⟩ (.int .u8 (nth ys j : Int))).setCell ⟨g, j, none⟩ (.int .u8 (nth ys i : Int))) := by
  have hl := h.sm.len
  refine ⟨h.sm.trans (Sm.swap (by omega) (by omega) (by omega) (by omega) (by omega)), ?_, fun k hk hk2 => ?_, fun k hk hk2 => ?_, h.bx.swp (by omega) (by omega), grownS h.gr (grownS (gcell _ _ _ _) (gcell _ _ _ _))⟩
  · rw [nth_swp (by omega) (by omega), if_neg (by omega), if_neg (by omega)]; exact h.piv
  · rw [nth_swp (by omega) (by omega), if_neg (by omega)]
    split
    · exact hj
    · exact h.lo k hk (by omega)
  · rw [nth_swp (by omega) (by omega)]
    split
    · exact hi
    · rw [if_neg (by omega)]; exact h.hi k (by omega) hk2
/-- what a partition leaves -/
structure Pd (w : World) (g a b : Nat) (xs : List Nat) (rest : List Value) (mid : Nat) (ys : List Nat) (W : World) : Prop where
  sm : Sm a b xs ys
  lo : ∀ k, a ≤ k → k < mid → nth ys k < nth ys mid
  hi : ∀ k, mid < k → k < b → nth ys mid ≤ nth ys k
  bx : Bx W g ys rest
  gr : w.grownBy W (some g)
theorem Pt.done {w : World} {g a b P : Nat} {xs : List Nat} {rest : List Value} {i j : Nat} {ys : List Nat} {W : World} (h : Pt w g a b P xs rest i j ys W) (hb : b ≤ xs.length) (h1 : a ≤ j) (h2 : j < i) (h3 : j < b) :
    Pd w g a b xs rest j (swp ys j a) ((W.setCell ⟨g, j, none⟩ (.int .u8 (nth ys a : Int))).setCell ⟨g, a, none⟩ (.int .u8 (nth ys j : Int))) := by
  have hl := h.sm.len
  have hmid : nth (Go.Proofs.Ytolafffpgkgadaa.swp ys j a) j = P := by
    rw [nth_swp (by omega) (by omega)]
    split
    · rename_i e; rw [e]; exact h.piv
    · rw [if_pos rfl]; exact h.piv
  refine ⟨h.sm.trans (Sm.swap (by omega) (by omega) (by omega) (by omega) (by omega)), fun k hk hk2 => ?_, fun k hk hk2 => ?_, h.bx.swp (by omega) (by omega), grownS h.gr (grownS (gcell _ _ _ _) (gcell _ _ _ _))⟩
  · rw [hmid, nth_swp (by omega) (by omega)]
    split
    · exact h.lo j (by omega) (by omega)
    · rw [if_neg (by omega)]; exact h.lo k (by omega) (by omega)
  · rw [hmid, nth_swp (by omega) (by omega), if_neg (by omega), if_neg (by omega)]
    exact h.hi k hk hk2
/-- behind the first walk of i -/
def E1 (w : World) (g a b P : Nat) (xs : List Nat) (rest : List Value) (i j : Nat) (W : World) : Prop := ∃ ys, Pt w g a b P xs rest i j ys W ∧ (i ≤ j → P ≤ nth ys i)
/-- behind both walks -/
def E2 (w : World) (g a b P : Nat) (xs : List Nat) (rest : List Value) (i j : Nat) (W : World) : Prop := ∃ ys, Pt w g a b P xs rest i j ys W ∧ (i ≤ j → P ≤ nth ys i ∧ nth ys j < P)
theorem Pt.up {w : World} {g a b P : Nat} {xs : List Nat} {rest : List Value} {i j : Nat} {ys : List Nat} {W : World} (h : Pt w g a b P xs rest i j ys W) (hi : nth ys i < P) : Pt w g a b P xs rest (i + 1) j ys W :=
  ⟨h.sm, h.piv, fun k h1 h2 => by by_cases e : k = i; rw [e]; exact hi; exact h.lo k h1 (by omega), h.hi, h.bx, h.gr⟩
theorem Pt.dn {w : World} {g a b P : Nat} {xs : List Nat} {rest : List Value} {i j : Nat} {ys : List Nat} {W : World} (h : Pt w g a b P xs rest i j ys W) (hj : P ≤ nth ys j) : Pt w g a b P xs rest i (j - 1) ys W :=
  ⟨h.sm, h.piv, h.lo, fun k h1 h2 => by by_cases e : k = j; rw [e]; exact hj; exact h.hi k (by omega) h2, h.bx, h.gr⟩
set_option maxRecDepth 100000 in
set_option maxHeartbeats 4000000 in
theorem part_any (w : World) (g cap N : Nat) (xs : List Nat) (rest : List Value) (hN : xs.length = N) (hsz : N ≤ 140737488351232) (a b p : Nat) (h1 : a < p) (h2 : p < b) (h3 : b ≤ N) (h : Bx w g xs rest) :
    Calls Try.prog 65 #[.slice (some ⟨g, 0, none⟩) N cap, .int .i64 a, .int .i64 b, .int .i64 p] w fun e w' => ∃ (mid : Nat) (al : Bool) (ys : List Nat), e = .returned (.tuple #[.int .i64 (mid : Int), .bool al]) ∧ a ≤ mid ∧ mid < b ∧ Pd w g a b xs rest mid ys w' := by
  obtain ⟨ca, fa⟩ := h.at (i := a) (by omega)
  obtain ⟨cp, fp⟩ := h.at (i := p) (by omega)
  have HH : Hid (Pt w g a b (nth xs p) xs rest (a + 1) (b - 1) (swp xs a p) ((w.setCell ⟨g, a, none⟩ (.int .u8 (nth xs p : Int))).setCell ⟨g, p, none⟩ (.int .u8 (nth xs a : Int)))) :=
    ⟨Sm.swap (by omega) (by omega) (by omega) (by omega) (by omega), by rw [nth_swp (by omega) (by omega), if_neg (by omega), if_pos rfl], fun k _ _ => by omega, fun k _ _ => by omega, h.swp (by omega) (by omega), grownS (gcell _ _ _ _) (gcell _ _ _ _)⟩
  obtain ⟨va, hva⟩ : ∃ va, nth xs a = va := ⟨_, rfl⟩
  obtain ⟨P, hP⟩ : ∃ P, nth xs p = P := ⟨_, rfl⟩
  rw [hva] at ca HH
  rw [hP] at cp HH
  clear h hva hP
  have hap : a ≠ p := by omega
  go_enter Try.func65, Try.ntmps65
  go_wp2
  go_region
  obtain ⟨j0, hj1, hj2⟩ : ∃ j0, j0 < b ∧ b ≤ j0 + 1 := ⟨b - 1, by omega, by omega⟩
  go_upto_region 2 with fail
  go_cut [10, 11] (fun t10 t11 wc => t10 = .int .i64 ((a + 1 : Nat) : Int) ∧ t11 = .int .i64 (j0 : Int) ∧ Hid (∃ ys, Pt w g a b P xs rest (a + 1) j0 ys wc))
  case first =>
    go_wp2
    go_meet
    case rel => exact ⟨by go_num, by first | rfl | (congr 1; omega), _, (show j0 = b - 1 by omega) ▸ (HH.out.drewN _)⟩
  case rest =>
    clear HH
    obtain ⟨rfl, rfl, H⟩ := hcut
    rename_i K0 hK0
    refine hK0 _ _ ?_
    clear hK0
    apply wp_seq_k; intro K1 hK1
    go_cut [10] (fun t10 wc => ∃ i : Nat, t10 = .int .i64 i ∧ a < i ∧ i ≤ j0 + 1 ∧ Hid (E1 w g a b P xs rest i j0 wc))
    case first =>
      go_wp2
      go_loopw [10] (fun t10 wr => ∃ i : Nat, t10 = .int .i64 i ∧ a < i ∧ i ≤ j0 + 1 ∧ Hid (∃ ys, Pt w g a b P xs rest i j0 ys wr)) (fun t10 _ => j0 + 1 - (intOf t10).toNat)
      case atStart => exact ⟨a + 1, rfl, by omega, by omega, H⟩
      case round =>
        obtain ⟨i, rfl, hai, hij, HI⟩ := hrel
        clear H
        obtain ⟨ys, hys⟩ := HI.out
        have hyl := hys.sm.len
        obtain ⟨da, ga⟩ := hys.bx.at (i := a) (by omega)
        rw [hys.piv] at da
        by_cases c : i ≤ j0
        · obtain ⟨di, gi⟩ := hys.bx.at (i := i) (by omega)
          have HY : Hid (Pt w g a b P xs rest i j0 ys wr) := hys
          obtain ⟨vi, hvi⟩ : ∃ vi, nth ys i = vi := ⟨_, rfl⟩
          rw [hvi] at di
          have HV : Hid (nth ys i = vi) := hvi
          clear hys hvi HI
          have cI : (i : Int) ≤ (j0 : Int) := by omega
          go_wp2
          go_quiet (first | (go_at_call 63; refine Calls.quiet_of_same (less_any _ _ _)))
          go_wp2
          · have hl : vi < P := by first | assumption | omega
            exact ⟨⟨i + 1, by go_num, by omega, by omega, ys, (HY.out.drewN _).up (by rw [HV.out]; exact hl)⟩, by simp [intOf]; omega⟩
          · have hl : P ≤ vi := by omega
            go_meet
            case rel => exact ⟨i, rfl, by omega, by omega, ys, HY.out.drewN _, fun _ => by rw [HV.out]; exact hl⟩
        · have HY : Hid (Pt w g a b P xs rest i j0 ys wr) := hys
          clear hys HI
          have cI : ¬ (i : Int) ≤ (j0 : Int) := by omega
          go_wp2
          go_quiet (first | (go_at_call 63; refine Calls.quiet_of_same (less_any _ _ _)))
          go_wp2
          go_meet
          case rel => exact ⟨i, rfl, by omega, by omega, ys, HY.out.drewN _, fun h => by omega⟩
    case rest =>
      clear H
      obtain ⟨i, rfl, hai, hij, H⟩ := hcut
      refine hK1 _ _ ?_
      clear hK1
      apply wp_seq_k; intro K2 hK2
      go_cut [11] (fun t11 wc => ∃ j : Nat, t11 = .int .i64 j ∧ a ≤ j ∧ j ≤ j0 ∧ i ≤ j + 1 ∧ Hid (E2 w g a b P xs rest i j wc))
      case first =>
        go_wp2
        go_loopw [11] (fun t11 wr => ∃ j : Nat, t11 = .int .i64 j ∧ a ≤ j ∧ j ≤ j0 ∧ i ≤ j + 1 ∧ Hid (∃ ys, Pt w g a b P xs rest i j ys wr ∧ (i ≤ j → P ≤ nth ys i))) (fun t11 _ => (intOf t11).toNat)
        case atStart => exact ⟨j0, rfl, by omega, by omega, by omega, H⟩
        case round =>
          obtain ⟨j, rfl, haj, hjj, hij, HI⟩ := hrel
          clear H
          obtain ⟨ys, hys, hpi⟩ := HI.out
          have hyl := hys.sm.len
          obtain ⟨da, ga⟩ := hys.bx.at (i := a) (by omega)
          rw [hys.piv] at da
          by_cases c : i ≤ j
          · obtain ⟨dj, gj⟩ := hys.bx.at (i := j) (by omega)
            have HY : Hid (Pt w g a b P xs rest i j ys wr ∧ (i ≤ j → P ≤ nth ys i)) := ⟨hys, hpi⟩
            obtain ⟨vj, hvj⟩ : ∃ vj, nth ys j = vj := ⟨_, rfl⟩
            rw [hvj] at dj
            have HV : Hid (nth ys j = vj) := hvj
            clear hys hvj HI hpi
            have cI : (i : Int) ≤ (j : Int) := by omega
            go_wp2
            go_quiet (first | (go_at_call 63; refine Calls.quiet_of_same (less_any _ _ _)))
            go_wp2
            · have hl : P ≤ vj := by first | omega | (rename_i hh; simpa using hh)
              exact ⟨⟨j - 1, by congr 1; omega, by omega, by omega, by omega, ys, (HY.out.1.drewN _).dn (by rw [HV.out]; exact hl), fun h => HY.out.2 (by omega)⟩, by simp [intOf]; omega⟩
            · have hl : vj < P := by first | omega | (rename_i hh; simpa using hh)
              go_meet
              case rel => exact ⟨j, rfl, by omega, by omega, by omega, ys, HY.out.1.drewN _, fun h => ⟨HY.out.2 h, by rw [HV.out]; exact hl⟩⟩
          · have HY : Hid (Pt w g a b P xs rest i j ys wr) := hys
            clear hys HI hpi
            have cI : ¬ (i : Int) ≤ (j : Int) := by omega
            go_wp2
            go_quiet (first | (go_at_call 63; refine Calls.quiet_of_same (less_any _ _ _)))
            go_wp2
            go_meet
            case rel => exact ⟨j, rfl, by omega, by omega, by omega, ys, HY.out.drewN _, fun h => by omega⟩
      case rest =>
        clear H
        obtain ⟨j, rfl, haj, hjj, hij2, H⟩ := hcut
        refine hK2 _ _ ?_
        clear hK2
        obtain ⟨ys, hys, hpr⟩ := H.out
        have hyl := hys.sm.len
        obtain ⟨da, ga⟩ := hys.bx.at (i := a) (by omega)
        obtain ⟨dj, gj⟩ := hys.bx.at (i := j) (by omega)
        by_cases c : j < i
        · have cI : (j : Int) < (i : Int) := by omega
          have HD : Hid (Pd w g a b xs rest j (swp ys j a) ((wc.drew.setCell ⟨g, j, none⟩ (.int .u8 (nth ys a : Int))).setCell ⟨g, a, none⟩ (.int .u8 (nth ys j : Int)))) := hys.drew.done (by omega) haj c (by omega)
          obtain ⟨vj, hvj⟩ : ∃ vj, nth ys j = vj := ⟨_, rfl⟩
          obtain ⟨va2, hva2⟩ : ∃ va2, nth ys a = va2 := ⟨_, rfl⟩
          rw [hvj] at dj HD
          rw [hva2] at da HD
          clear hys hpr H
          by_cases e : j = a
          · subst e
            obtain rfl : vj = va2 := hvj.symm.trans hva2
            clear hvj hva2
            go_wp2
            go_region
            all_goals go_wp2
            all_goals go_ret2
            all_goals exact ⟨j, true, _, rfl, by omega, by omega, HD.out⟩
          · clear hvj hva2
            go_wp2
            go_region
            all_goals go_wp2
            all_goals go_ret2
            all_goals exact ⟨j, true, _, rfl, by omega, by omega, HD.out⟩
        · obtain ⟨p1, p2⟩ := hpr (by omega)
          have hne : i ≠ j := fun e => by subst e; omega
          have cI : ¬ (j : Int) < (i : Int) := by omega
          obtain ⟨di, gi⟩ := hys.bx.at (i := i) (by omega)
          have HD : Hid (Pt w g a b P xs rest (i + 1) (j - 1) (swp ys i j) ((wc.drew.setCell ⟨g, i, none⟩ (.int .u8 (nth ys j : Int))).setCell ⟨g, j, none⟩ (.int .u8 (nth ys i : Int)))) := hys.drew.swap (by omega) hai (by omega) (by omega) p1 p2
          obtain ⟨vj, hvj⟩ : ∃ vj, nth ys j = vj := ⟨_, rfl⟩
          obtain ⟨vi, hvi⟩ : ∃ vi, nth ys i = vi := ⟨_, rfl⟩
          rw [hvj] at dj HD
          rw [hvi] at di HD
          clear hys hpr H hvj hvi p1 p2 da ga
          go_wp2
          go_region
          all_goals go_wp2
          go_loopw [10, 11] (fun t10 t11 wr => ∃ i0 m0 : Nat, t10 = .int .i64 i0 ∧ t11 = .int .i64 m0 ∧ a < i0 ∧ i0 ≤ m0 + 1 ∧ m0 < b ∧ a ≤ m0 ∧ Hid (∃ ys, Pt w g a b P xs rest i0 m0 ys wr)) (fun t10 t11 _ => (intOf t11 + 1 - intOf t10).toNat)
          case atStart => exact ⟨i + 1, j - 1, by go_num, by congr 1; omega, by omega, by omega, by omega, by omega, _, HD.out⟩
          case round =>
            obtain ⟨i0, m0, rfl, rfl, hi0, him, hmb, ham, H⟩ := hrel
            clear HD di gi dj gj hne cI c hij2 hjj haj hij hai
            apply wp_block
            apply wp_seq_k; intro K3 hK3
            go_cut [10] (fun t10 wc => ∃ i : Nat, t10 = .int .i64 i ∧ i0 ≤ i ∧ i ≤ m0 + 1 ∧ Hid (E1 w g a b P xs rest i m0 wc))
            case first =>
              go_wp2
              go_loopw [10] (fun t10 wr => ∃ i : Nat, t10 = .int .i64 i ∧ i0 ≤ i ∧ i ≤ m0 + 1 ∧ Hid (∃ ys, Pt w g a b P xs rest i m0 ys wr)) (fun t10 _ => m0 + 1 - (intOf t10).toNat)
              case atStart => exact ⟨i0, rfl, by omega, by omega, H⟩
              case round =>
                obtain ⟨i, rfl, hai, hij, HI⟩ := hrel
                clear H
                obtain ⟨ys, hys⟩ := HI.out
                have hyl := hys.sm.len
                obtain ⟨da, ga⟩ := hys.bx.at (i := a) (by omega)
                rw [hys.piv] at da
                by_cases c : i ≤ m0
                · obtain ⟨di, gi⟩ := hys.bx.at (i := i) (by omega)
                  have HY : Hid (Pt w g a b P xs rest i m0 ys wr) := hys
                  obtain ⟨vi, hvi⟩ : ∃ vi, nth ys i = vi := ⟨_, rfl⟩
                  rw [hvi] at di
                  have HV : Hid (nth ys i = vi) := hvi
                  clear hys hvi HI
                  have cI : (i : Int) ≤ (m0 : Int) := by omega
                  go_wp2
                  go_quiet (first | (go_at_call 63; refine Calls.quiet_of_same (less_any _ _ _)))
                  go_wp2
                  · have hl : vi < P := by first | assumption | omega
                    exact ⟨⟨i + 1, by go_num, by omega, by omega, ys, (HY.out.drewN _).up (by rw [HV.out]; exact hl)⟩, by simp [intOf]; omega⟩
                  · have hl : P ≤ vi := by omega
                    go_meet
                    case rel => exact ⟨i, rfl, by omega, by omega, ys, HY.out.drewN _, fun _ => by rw [HV.out]; exact hl⟩
                · have HY : Hid (Pt w g a b P xs rest i m0 ys wr) := hys
                  clear hys HI
                  have cI : ¬ (i : Int) ≤ (m0 : Int) := by omega
                  go_wp2
                  go_quiet (first | (go_at_call 63; refine Calls.quiet_of_same (less_any _ _ _)))
                  go_wp2
                  go_meet
                  case rel => exact ⟨i, rfl, by omega, by omega, ys, HY.out.drewN _, fun h => by omega⟩
            case rest =>
              clear H
              obtain ⟨i, rfl, hai, hij, H⟩ := hcut
              refine hK3 _ _ ?_
              clear hK3
              apply wp_seq_k; intro K4 hK4
              go_cut [11] (fun t11 wc => ∃ j : Nat, t11 = .int .i64 j ∧ a ≤ j ∧ j ≤ m0 ∧ i ≤ j + 1 ∧ Hid (E2 w g a b P xs rest i j wc))
              case first =>
                go_wp2
                go_loopw [11] (fun t11 wr => ∃ j : Nat, t11 = .int .i64 j ∧ a ≤ j ∧ j ≤ m0 ∧ i ≤ j + 1 ∧ Hid (∃ ys, Pt w g a b P xs rest i j ys wr ∧ (i ≤ j → P ≤ nth ys i))) (fun t11 _ => (intOf t11).toNat)
                case atStart => exact ⟨m0, rfl, by omega, by omega, by omega, H⟩
                case round =>
                  obtain ⟨j, rfl, haj, hjj, hij, HI⟩ := hrel
                  clear H
                  obtain ⟨ys, hys, hpi⟩ := HI.out
                  have hyl := hys.sm.len
                  obtain ⟨da, ga⟩ := hys.bx.at (i := a) (by omega)
                  rw [hys.piv] at da
                  by_cases c : i ≤ j
                  · obtain ⟨dj, gj⟩ := hys.bx.at (i := j) (by omega)
                    have HY : Hid (Pt w g a b P xs rest i j ys wr ∧ (i ≤ j → P ≤ nth ys i)) := ⟨hys, hpi⟩
                    obtain ⟨vj, hvj⟩ : ∃ vj, nth ys j = vj := ⟨_, rfl⟩
                    rw [hvj] at dj
                    have HV : Hid (nth ys j = vj) := hvj
                    clear hys hvj HI hpi
                    have cI : (i : Int) ≤ (j : Int) := by omega
                    go_wp2
                    go_quiet (first | (go_at_call 63; refine Calls.quiet_of_same (less_any _ _ _)))
                    go_wp2
                    · have hl : P ≤ vj := by first | omega | (rename_i hh; simpa using hh)
                      exact ⟨⟨j - 1, by congr 1; omega, by omega, by omega, by omega, ys, (HY.out.1.drewN _).dn (by rw [HV.out]; exact hl), fun h => HY.out.2 (by omega)⟩, by simp [intOf]; omega⟩
                    · have hl : vj < P := by first | omega | (rename_i hh; simpa using hh)
                      go_meet
                      case rel => exact ⟨j, rfl, by omega, by omega, by omega, ys, HY.out.1.drewN _, fun h => ⟨HY.out.2 h, by rw [HV.out]; exact hl⟩⟩
                  · have HY : Hid (Pt w g a b P xs rest i j ys wr) := hys
                    clear hys HI hpi
                    have cI : ¬ (i : Int) ≤ (j : Int) := by omega
                    go_wp2
                    go_quiet (first | (go_at_call 63; refine Calls.quiet_of_same (less_any _ _ _)))
                    go_wp2
                    go_meet
                    case rel => exact ⟨j, rfl, by omega, by omega, by omega, ys, HY.out.drewN _, fun h => by omega⟩
              case rest =>
                clear H
                obtain ⟨j, rfl, haj, hjj, hij2, H⟩ := hcut
                refine hK4 _ _ ?_
                clear hK4
                obtain ⟨ys, hys, hpr⟩ := H.out
                have hyl := hys.sm.len
                obtain ⟨da, ga⟩ := hys.bx.at (i := a) (by omega)
                obtain ⟨dj, gj⟩ := hys.bx.at (i := j) (by omega)
                by_cases c : j < i
                · have cI : (j : Int) < (i : Int) := by omega
                  have HD : Hid (Pd w g a b xs rest j (swp ys j a) ((wc.drew.setCell ⟨g, j, none⟩ (.int .u8 (nth ys a : Int))).setCell ⟨g, a, none⟩ (.int .u8 (nth ys j : Int)))) := hys.drew.done (by omega) haj c (by omega)
                  obtain ⟨vj, hvj⟩ : ∃ vj, nth ys j = vj := ⟨_, rfl⟩
                  obtain ⟨va2, hva2⟩ : ∃ va2, nth ys a = va2 := ⟨_, rfl⟩
                  rw [hvj] at dj HD
                  rw [hva2] at da HD
                  clear hys hpr H
                  by_cases e : j = a
                  · subst e
                    obtain rfl : vj = va2 := hvj.symm.trans hva2
                    clear hvj hva2
                    go_wp2
                    go_region
                    all_goals go_wp2
                    all_goals go_ret2
                    all_goals exact ⟨j, false, _, rfl, by omega, by omega, HD.out⟩
                  · clear hvj hva2
                    go_wp2
                    go_region
                    all_goals go_wp2
                    all_goals go_ret2
                    all_goals exact ⟨j, false, _, rfl, by omega, by omega, HD.out⟩
                · obtain ⟨p1, p2⟩ := hpr (by omega)
                  have hne : i ≠ j := fun e => by subst e; omega
                  have cI : ¬ (j : Int) < (i : Int) := by omega
                  obtain ⟨di, gi⟩ := hys.bx.at (i := i) (by omega)
                  have HD : Hid (Pt w g a b P xs rest (i + 1) (j - 1) (swp ys i j) ((wc.drew.setCell ⟨g, i, none⟩ (.int .u8 (nth ys j : Int))).setCell ⟨g, j, none⟩ (.int .u8 (nth ys i : Int)))) := hys.drew.swap (by omega) (by omega) (by omega) (by omega) p1 p2
                  obtain ⟨vj, hvj⟩ : ∃ vj, nth ys j = vj := ⟨_, rfl⟩
                  obtain ⟨vi, hvi⟩ : ∃ vi, nth ys i = vi := ⟨_, rfl⟩
                  rw [hvj] at dj HD
                  rw [hvi] at di HD
                  clear hys hpr H hvj hvi p1 p2 da ga
                  go_wp2
                  go_region
                  all_goals go_wp2
                  exact ⟨⟨i + 1, j - 1, by go_num, by congr 1; omega, by omega, by omega, by omega, by omega, _, HD.out⟩, by simp [intOf]; omega⟩
end Go.Proofs.Ytolafffpgkgadaa
