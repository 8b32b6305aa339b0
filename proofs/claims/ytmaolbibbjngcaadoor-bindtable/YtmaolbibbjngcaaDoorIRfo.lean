/-
  The document's own meta and named of layer 19. No conditions beyond.
-/
import Derived.Test.YtmaolbibbjngcaaDoorIRfi
namespace Go.Proofs.YtmaolbibbjngcaaDoor
open Go.RowKit
section
set_option maxRecDepth 100000
set_option maxHeartbeats 2000000
theorem rmet_any (c : Int) (w : World) : Calls Tryd.prog 45 #[.int .i32 c] w fun e w' => e = .returned (.int .i64 (metR c)) ∧ Below w.heap.size w w' := by
  have HK : Hid (Below w.heap.size w ((w.alloc (.cells #[.int .i32 98, .int .i32 102, .int .i32 100, .int .i32 60, .int .i32 62, .int .i32 119, .int .i32 121, .int .i32 116, .int .i32 117, .int .i32 108, .int .i32 99, .int .i32 112, .int .i32 110] 21)).alloc (.cells #[.int .i64 6, .int .i64 7, .int .i64 16, .int .i64 12, .int .i64 13, .int .i64 21, .int .i64 23, .int .i64 25, .int .i64 26, .int .i64 27, .int .i64 28, .int .i64 34, .int .i64 35] 32)) ∧ ((w.alloc (.cells #[.int .i32 98, .int .i32 102, .int .i32 100, .int .i32 60, .int .i32 62, .int .i32 119, .int .i32 121, .int .i32 116, .int .i32 117, .int .i32 108, .int .i32 99, .int .i32 112, .int .i32 110] 21)).alloc (.cells #[.int .i64 6, .int .i64 7, .int .i64 16, .int .i64 12, .int .i64 13, .int .i64 21, .int .i64 23, .int .i64 25, .int .i64 26, .int .i64 27, .int .i64 28, .int .i64 34, .int .i64 35] 32)).heap[w.heap.size]? = some (.cells #[.int .i32 98, .int .i32 102, .int .i32 100, .int .i32 60, .int .i32 62, .int .i32 119, .int .i32 121, .int .i32 116, .int .i32 117, .int .i32 108, .int .i32 99, .int .i32 112, .int .i32 110] 21 (0, 0)) ∧ ((w.alloc (.cells #[.int .i32 98, .int .i32 102, .int .i32 100, .int .i32 60, .int .i32 62, .int .i32 119, .int .i32 121, .int .i32 116, .int .i32 117, .int .i32 108, .int .i32 99, .int .i32 112, .int .i32 110] 21)).alloc (.cells #[.int .i64 6, .int .i64 7, .int .i64 16, .int .i64 12, .int .i64 13, .int .i64 21, .int .i64 23, .int .i64 25, .int .i64 26, .int .i64 27, .int .i64 28, .int .i64 34, .int .i64 35] 32)).heap[w.heap.size + 1]? = some (.cells #[.int .i64 6, .int .i64 7, .int .i64 16, .int .i64 12, .int .i64 13, .int .i64 21, .int .i64 23, .int .i64 25, .int .i64 26, .int .i64 27, .int .i64 28, .int .i64 34, .int .i64 35] 32 (0, 0))) := by
    have e1 : (w.alloc (.cells #[.int .i32 98, .int .i32 102, .int .i32 100, .int .i32 60, .int .i32 62, .int .i32 119, .int .i32 121, .int .i32 116, .int .i32 117, .int .i32 108, .int .i32 99, .int .i32 112, .int .i32 110] 21)).heap.size = w.heap.size + 1 := by simp
    have hn := World.alloc_heap_new (w.alloc (.cells #[.int .i32 98, .int .i32 102, .int .i32 100, .int .i32 60, .int .i32 62, .int .i32 119, .int .i32 121, .int .i32 116, .int .i32 117, .int .i32 108, .int .i32 99, .int .i32 112, .int .i32 110] 21)) (.cells #[.int .i64 6, .int .i64 7, .int .i64 16, .int .i64 12, .int .i64 13, .int .i64 21, .int .i64 23, .int .i64 25, .int .i64 26, .int .i64 27, .int .i64 28, .int .i64 34, .int .i64 35] 32)
    rw [e1] at hn
    exact ⟨((Below.refl _ w).alloc (Nat.le_refl _) _).alloc (by simp) _, (Below.heap_alloc _ _ _ (by simp)).trans (World.alloc_heap_new _ _), hn⟩
  obtain ⟨R, hR⟩ : ∃ R, metR c = R := ⟨_, rfl⟩
  have HR : Hid (metR c = R) := hR
  rw [hR]
  clear hR
  go_enter Tryd.func45, Tryd.ntmps45
  go_upto_region 4 with (fail)
  have HC : Hid (∀ (n : Nat) x, mtL[n]? = some x → ((w.alloc (.cells #[.int .i32 98, .int .i32 102, .int .i32 100, .int .i32 60, .int .i32 62, .int .i32 119, .int .i32 121, .int .i32 116, .int .i32 117, .int .i32 108, .int .i32 99, .int .i32 112, .int .i32 110] 21)).alloc (.cells #[.int .i64 6, .int .i64 7, .int .i64 16, .int .i64 12, .int .i64 13, .int .i64 21, .int .i64 23, .int .i64 25, .int .i64 26, .int .i64 27, .int .i64 28, .int .i64 34, .int .i64 35] 32)).cell? ⟨w.heap.size, n, none⟩ = some (.int .i32 x.1) ∧ ((w.alloc (.cells #[.int .i32 98, .int .i32 102, .int .i32 100, .int .i32 60, .int .i32 62, .int .i32 119, .int .i32 121, .int .i32 116, .int .i32 117, .int .i32 108, .int .i32 99, .int .i32 112, .int .i32 110] 21)).alloc (.cells #[.int .i64 6, .int .i64 7, .int .i64 16, .int .i64 12, .int .i64 13, .int .i64 21, .int .i64 23, .int .i64 25, .int .i64 26, .int .i64 27, .int .i64 28, .int .i64 34, .int .i64 35] 32)).cell? ⟨w.heap.size + 1, n, none⟩ = some (.int .i64 x.2)) := fun n x hx => by
    have hl := (List.getElem?_eq_some_iff.1 hx).1
    have hl : n < 13 := hl
    have : n = 0  ∨ n = 1 ∨ n = 2 ∨ n = 3 ∨ n = 4 ∨ n = 5 ∨ n = 6 ∨ n = 7 ∨ n = 8 ∨ n = 9 ∨ n = 10 ∨ n = 11 ∨ n = 12 := by omega
    unfold World.cell?
    rw [HK.out.2.1, HK.out.2.2]
    rcases this with rfl | rfl | rfl | rfl | rfl | rfl | rfl | rfl | rfl | rfl | rfl | rfl | rfl <;> cases hx <;> exact ⟨rfl, rfl⟩
  generalize (w.alloc (.cells #[.int .i32 98, .int .i32 102, .int .i32 100, .int .i32 60, .int .i32 62, .int .i32 119, .int .i32 121, .int .i32 116, .int .i32 117, .int .i32 108, .int .i32 99, .int .i32 112, .int .i32 110] 21)).alloc (.cells #[.int .i64 6, .int .i64 7, .int .i64 16, .int .i64 12, .int .i64 13, .int .i64 21, .int .i64 23, .int .i64 25, .int .i64 26, .int .i64 27, .int .i64 28, .int .i64 34, .int .i64 35] 32) = W at HK HC ⊢
  go_loopw [5] (fun t wr => ∃ i : Nat, t = .int .i64 i ∧ i ≤ 13 ∧ (∀ j p, j < i → mtL[j]? = some p → decide (p.1 = c) = false) ∧ wr = W) (fun t _ => 13 - (intOf t).toNat)
  case atStart => exact ⟨0, rfl, by decide, fun j p h => absurd h (Nat.not_lt_zero _), rfl⟩
  case round =>
    obtain ⟨i, rfl, hi, hno, rfl⟩ := hrel
    have HN : Hid (∀ j p, j < i → mtL[j]? = some p → decide (p.1 = c) = false) := hno
    clear hno
    by_cases hlt : i < 13
    · have hlt' : (i : Int) < 13 := by omega
      obtain ⟨x, hx⟩ : ∃ x, mtL[i]? = some x := ⟨mtL[i]'hlt, List.getElem?_eq_getElem _⟩
      obtain ⟨q0, q1⟩ := HC.out i x hx
      have HX : Hid (mtL[i]? = some x) := hx
      clear hx
      obtain ⟨x0, x1⟩ := x
      simp only at q0 q1
      by_cases he : x0 = c
      · subst he
        go_wp2
        go_ret
        exact ⟨ret_int (by rw [← HR.out]; unfold metR; rw [find_at HX.out HN.out (decide_eq_true rfl)]), HK.out.1⟩
      · have hb : (x0 == c) = false := by simp [he]
        go_wp2
        refine ⟨⟨i + 1, by go_num, by omega, fun j p hj hp => ?_, by first | trivial | rfl⟩, by simp [intOf]; omega⟩
        by_cases k : j = i
        · subst k
          rw [HX.out] at hp
          cases hp
          exact decide_eq_false he
        · exact HN.out j p (by omega) hp
    · have hge : ¬ ((i : Int) < 13) := by omega
      go_wp2
      go_ret
      exact ⟨ret_int (by rw [← HR.out]; unfold metR; rw [find_no (fun j q hj hq => HN.out j q (by have : j < 13 := hj; omega) hq)]), HK.out.1⟩
theorem rnam_any (a : Int) (far : Bool) (w : World) : Calls Tryd.prog 47 #[.int .i64 a, .bool far] w fun e w' => e = .returned (.int .i64 (namR a far)) ∧ Below w.heap.size w w' := by
  have HK : Hid (Below w.heap.size w (((w.alloc (.cells #[.int .i64 8, .int .i64 7, .int .i64 5, .int .i64 6, .int .i64 9, .int .i64 10, .int .i64 12, .int .i64 13, .int .i64 14] 28)).alloc (.cells #[.int .i64 4, .int .i64 5, .int .i64 10, .int .i64 11, .int .i64 8, .int .i64 9, .int .i64 14, .int .i64 34, .int .i64 35] 32)).alloc (.cells #[.int .i64 6, .int .i64 7, .int .i64 34, .int .i64 35, .int .i64 12, .int .i64 13, .int .i64 16, .int .i64 40, .int .i64 40] 32)) ∧ (((w.alloc (.cells #[.int .i64 8, .int .i64 7, .int .i64 5, .int .i64 6, .int .i64 9, .int .i64 10, .int .i64 12, .int .i64 13, .int .i64 14] 28)).alloc (.cells #[.int .i64 4, .int .i64 5, .int .i64 10, .int .i64 11, .int .i64 8, .int .i64 9, .int .i64 14, .int .i64 34, .int .i64 35] 32)).alloc (.cells #[.int .i64 6, .int .i64 7, .int .i64 34, .int .i64 35, .int .i64 12, .int .i64 13, .int .i64 16, .int .i64 40, .int .i64 40] 32)).heap[w.heap.size]? = some (.cells #[.int .i64 8, .int .i64 7, .int .i64 5, .int .i64 6, .int .i64 9, .int .i64 10, .int .i64 12, .int .i64 13, .int .i64 14] 28 (0, 0)) ∧ (((w.alloc (.cells #[.int .i64 8, .int .i64 7, .int .i64 5, .int .i64 6, .int .i64 9, .int .i64 10, .int .i64 12, .int .i64 13, .int .i64 14] 28)).alloc (.cells #[.int .i64 4, .int .i64 5, .int .i64 10, .int .i64 11, .int .i64 8, .int .i64 9, .int .i64 14, .int .i64 34, .int .i64 35] 32)).alloc (.cells #[.int .i64 6, .int .i64 7, .int .i64 34, .int .i64 35, .int .i64 12, .int .i64 13, .int .i64 16, .int .i64 40, .int .i64 40] 32)).heap[w.heap.size + 1]? = some (.cells #[.int .i64 4, .int .i64 5, .int .i64 10, .int .i64 11, .int .i64 8, .int .i64 9, .int .i64 14, .int .i64 34, .int .i64 35] 32 (0, 0)) ∧ (((w.alloc (.cells #[.int .i64 8, .int .i64 7, .int .i64 5, .int .i64 6, .int .i64 9, .int .i64 10, .int .i64 12, .int .i64 13, .int .i64 14] 28)).alloc (.cells #[.int .i64 4, .int .i64 5, .int .i64 10, .int .i64 11, .int .i64 8, .int .i64 9, .int .i64 14, .int .i64 34, .int .i64 35] 32)).alloc (.cells #[.int .i64 6, .int .i64 7, .int .i64 34, .int .i64 35, .int .i64 12, .int .i64 13, .int .i64 16, .int .i64 40, .int .i64 40] 32)).heap[w.heap.size + 1 + 1]? = some (.cells #[.int .i64 6, .int .i64 7, .int .i64 34, .int .i64 35, .int .i64 12, .int .i64 13, .int .i64 16, .int .i64 40, .int .i64 40] 32 (0, 0))) := by
    have e1 : (w.alloc (.cells #[.int .i64 8, .int .i64 7, .int .i64 5, .int .i64 6, .int .i64 9, .int .i64 10, .int .i64 12, .int .i64 13, .int .i64 14] 28)).heap.size = w.heap.size + 1 := by simp
    have e2 : ((w.alloc (.cells #[.int .i64 8, .int .i64 7, .int .i64 5, .int .i64 6, .int .i64 9, .int .i64 10, .int .i64 12, .int .i64 13, .int .i64 14] 28)).alloc (.cells #[.int .i64 4, .int .i64 5, .int .i64 10, .int .i64 11, .int .i64 8, .int .i64 9, .int .i64 14, .int .i64 34, .int .i64 35] 32)).heap.size = w.heap.size + 1 + 1 := by simp
    have hn := World.alloc_heap_new (w.alloc (.cells #[.int .i64 8, .int .i64 7, .int .i64 5, .int .i64 6, .int .i64 9, .int .i64 10, .int .i64 12, .int .i64 13, .int .i64 14] 28)) (.cells #[.int .i64 4, .int .i64 5, .int .i64 10, .int .i64 11, .int .i64 8, .int .i64 9, .int .i64 14, .int .i64 34, .int .i64 35] 32)
    have hm := World.alloc_heap_new ((w.alloc (.cells #[.int .i64 8, .int .i64 7, .int .i64 5, .int .i64 6, .int .i64 9, .int .i64 10, .int .i64 12, .int .i64 13, .int .i64 14] 28)).alloc (.cells #[.int .i64 4, .int .i64 5, .int .i64 10, .int .i64 11, .int .i64 8, .int .i64 9, .int .i64 14, .int .i64 34, .int .i64 35] 32)) (.cells #[.int .i64 6, .int .i64 7, .int .i64 34, .int .i64 35, .int .i64 12, .int .i64 13, .int .i64 16, .int .i64 40, .int .i64 40] 32)
    rw [e1] at hn
    rw [e2] at hm
    exact ⟨(((Below.refl _ w).alloc (Nat.le_refl _) _).alloc (by simp) _).alloc (by simp; omega) _, (Below.heap_alloc _ _ _ (by simp; omega)).trans ((Below.heap_alloc _ _ _ (by simp)).trans (World.alloc_heap_new _ _)), (Below.heap_alloc _ _ _ (by simp)).trans hn, hm⟩
  obtain ⟨R, hR⟩ : ∃ R, namR a far = R := ⟨_, rfl⟩
  have HR : Hid (namR a far = R) := hR
  rw [hR]
  clear hR
  go_enter Tryd.func47, Tryd.ntmps47
  go_upto_region 5 with (fail)
  have HC : Hid (∀ (n : Nat) x, nmL[n]? = some x → (((w.alloc (.cells #[.int .i64 8, .int .i64 7, .int .i64 5, .int .i64 6, .int .i64 9, .int .i64 10, .int .i64 12, .int .i64 13, .int .i64 14] 28)).alloc (.cells #[.int .i64 4, .int .i64 5, .int .i64 10, .int .i64 11, .int .i64 8, .int .i64 9, .int .i64 14, .int .i64 34, .int .i64 35] 32)).alloc (.cells #[.int .i64 6, .int .i64 7, .int .i64 34, .int .i64 35, .int .i64 12, .int .i64 13, .int .i64 16, .int .i64 40, .int .i64 40] 32)).cell? ⟨w.heap.size, n, none⟩ = some (.int .i64 x.1) ∧ (((w.alloc (.cells #[.int .i64 8, .int .i64 7, .int .i64 5, .int .i64 6, .int .i64 9, .int .i64 10, .int .i64 12, .int .i64 13, .int .i64 14] 28)).alloc (.cells #[.int .i64 4, .int .i64 5, .int .i64 10, .int .i64 11, .int .i64 8, .int .i64 9, .int .i64 14, .int .i64 34, .int .i64 35] 32)).alloc (.cells #[.int .i64 6, .int .i64 7, .int .i64 34, .int .i64 35, .int .i64 12, .int .i64 13, .int .i64 16, .int .i64 40, .int .i64 40] 32)).cell? ⟨w.heap.size + 1, n, none⟩ = some (.int .i64 x.2.1) ∧ (((w.alloc (.cells #[.int .i64 8, .int .i64 7, .int .i64 5, .int .i64 6, .int .i64 9, .int .i64 10, .int .i64 12, .int .i64 13, .int .i64 14] 28)).alloc (.cells #[.int .i64 4, .int .i64 5, .int .i64 10, .int .i64 11, .int .i64 8, .int .i64 9, .int .i64 14, .int .i64 34, .int .i64 35] 32)).alloc (.cells #[.int .i64 6, .int .i64 7, .int .i64 34, .int .i64 35, .int .i64 12, .int .i64 13, .int .i64 16, .int .i64 40, .int .i64 40] 32)).cell? ⟨w.heap.size + 1 + 1, n, none⟩ = some (.int .i64 x.2.2)) := fun n x hx => by
    have hl := (List.getElem?_eq_some_iff.1 hx).1
    have hl : n < 9 := hl
    have : n = 0  ∨ n = 1 ∨ n = 2 ∨ n = 3 ∨ n = 4 ∨ n = 5 ∨ n = 6 ∨ n = 7 ∨ n = 8 := by omega
    unfold World.cell?
    rw [HK.out.2.1, HK.out.2.2.1, HK.out.2.2.2]
    rcases this with rfl | rfl | rfl | rfl | rfl | rfl | rfl | rfl | rfl <;> cases hx <;> exact ⟨rfl, rfl, rfl⟩
  generalize ((w.alloc (.cells #[.int .i64 8, .int .i64 7, .int .i64 5, .int .i64 6, .int .i64 9, .int .i64 10, .int .i64 12, .int .i64 13, .int .i64 14] 28)).alloc (.cells #[.int .i64 4, .int .i64 5, .int .i64 10, .int .i64 11, .int .i64 8, .int .i64 9, .int .i64 14, .int .i64 34, .int .i64 35] 32)).alloc (.cells #[.int .i64 6, .int .i64 7, .int .i64 34, .int .i64 35, .int .i64 12, .int .i64 13, .int .i64 16, .int .i64 40, .int .i64 40] 32) = W at HK HC ⊢
  go_loopw [8] (fun t wr => ∃ i : Nat, t = .int .i64 i ∧ i ≤ 9 ∧ (∀ j p, j < i → nmL[j]? = some p → decide (p.1 = a) = false) ∧ wr = W) (fun t _ => 9 - (intOf t).toNat)
  case atStart => exact ⟨0, rfl, by decide, fun j p h => absurd h (Nat.not_lt_zero _), rfl⟩
  case round =>
    obtain ⟨i, rfl, hi, hno, rfl⟩ := hrel
    have HN : Hid (∀ j p, j < i → nmL[j]? = some p → decide (p.1 = a) = false) := hno
    clear hno
    by_cases hlt : i < 9
    · have hlt' : (i : Int) < 9 := by omega
      obtain ⟨x, hx⟩ : ∃ x, nmL[i]? = some x := ⟨nmL[i]'hlt, List.getElem?_eq_getElem _⟩
      obtain ⟨q0, q1, q2⟩ := HC.out i x hx
      have HX : Hid (nmL[i]? = some x) := hx
      clear hx
      obtain ⟨x0, x1, x2⟩ := x
      simp only at q0 q1 q2
      by_cases he : x0 = a
      · subst he
        cases far
        all_goals
          go_wp2
          go_ret
          exact ⟨ret_int (by rw [← HR.out]; unfold namR; rw [find_at HX.out HN.out (decide_eq_true rfl)]; rfl), HK.out.1⟩
      · have hb : (x0 == a) = false := by simp [he]
        go_wp2
        refine ⟨⟨i + 1, by go_num, by omega, fun j p hj hp => ?_, by first | trivial | rfl⟩, by simp [intOf]; omega⟩
        by_cases k : j = i
        · subst k
          rw [HX.out] at hp
          cases hp
          exact decide_eq_false he
        · exact HN.out j p (by omega) hp
    · have hge : ¬ ((i : Int) < 9) := by omega
      go_wp2
      go_ret
      exact ⟨ret_int (by rw [← HR.out]; unfold namR; rw [find_no (fun j q hj hq => HN.out j q (by have : j < 9 := hj; omega) hq)]), HK.out.1⟩
end
end Go.Proofs.YtmaolbibbjngcaaDoor
