/-
  The document's own control of layer 19. Conditions: the key's Char is a number of 32 bits.
-/
import Derived.Test.YtmaolbibbjngcaaDoorIRfi
namespace Go.Proofs.YtmaolbibbjngcaaDoor
open Go.RowKit
section
set_option maxRecDepth 100000
set_option maxHeartbeats 2000000
theorem rctr_any (c : Int) (c0 : -2147483648 ≤ c) (c1 : c ≤ 2147483647) (w : World) : Calls Tryd.prog 46 #[.int .i32 c] w fun e w' => e = .returned (.agg (cmc (ctrR c))) ∧ Below w.heap.size w w' := by
  have HB : Hid (∀ o o', Below w.heap.size w ((w.alloc o).alloc o')) := fun o o' => ((Below.refl _ w).alloc (Nat.le_refl _) o).alloc (by simp) o'
  have HK : Hid (((w.alloc (.cells (cmc cmz) 34)).alloc (.cells #[.int .i64 29, .int .i64 8, .int .i64 4, .int .i64 40, .int .i64 14, .int .i64 9, .int .i64 5, .int .i64 37, .int .i64 15, .int .i64 1, .int .i64 2, .int .i64 18, .int .i64 38, .int .i64 3, .int .i64 11, .int .i64 40, .int .i64 10, .int .i64 40, .int .i64 36, .int .i64 40, .int .i64 24, .int .i64 19, .int .i64 40, .int .i64 20, .int .i64 40, .int .i64 22, .int .i64 40, .int .i64 40, .int .i64 40, .int .i64 40, .int .i64 33, .int .i64 32] 32)).heap[w.heap.size]? = some (.cells (cmc cmz) 34 (0, 0)) ∧ ((w.alloc (.cells (cmc cmz) 34)).alloc (.cells #[.int .i64 29, .int .i64 8, .int .i64 4, .int .i64 40, .int .i64 14, .int .i64 9, .int .i64 5, .int .i64 37, .int .i64 15, .int .i64 1, .int .i64 2, .int .i64 18, .int .i64 38, .int .i64 3, .int .i64 11, .int .i64 40, .int .i64 10, .int .i64 40, .int .i64 36, .int .i64 40, .int .i64 24, .int .i64 19, .int .i64 40, .int .i64 20, .int .i64 40, .int .i64 22, .int .i64 40, .int .i64 40, .int .i64 40, .int .i64 40, .int .i64 33, .int .i64 32] 32)).heap[w.heap.size + 1]? = some (.cells #[.int .i64 29, .int .i64 8, .int .i64 4, .int .i64 40, .int .i64 14, .int .i64 9, .int .i64 5, .int .i64 37, .int .i64 15, .int .i64 1, .int .i64 2, .int .i64 18, .int .i64 38, .int .i64 3, .int .i64 11, .int .i64 40, .int .i64 10, .int .i64 40, .int .i64 36, .int .i64 40, .int .i64 24, .int .i64 19, .int .i64 40, .int .i64 20, .int .i64 40, .int .i64 22, .int .i64 40, .int .i64 40, .int .i64 40, .int .i64 40, .int .i64 33, .int .i64 32] 32 (0, 0))) := by
    have e1 : (w.alloc (.cells (cmc cmz) 34)).heap.size = w.heap.size + 1 := by simp
    have hn := World.alloc_heap_new (w.alloc (.cells (cmc cmz) 34)) (.cells #[.int .i64 29, .int .i64 8, .int .i64 4, .int .i64 40, .int .i64 14, .int .i64 9, .int .i64 5, .int .i64 37, .int .i64 15, .int .i64 1, .int .i64 2, .int .i64 18, .int .i64 38, .int .i64 3, .int .i64 11, .int .i64 40, .int .i64 10, .int .i64 40, .int .i64 36, .int .i64 40, .int .i64 24, .int .i64 19, .int .i64 40, .int .i64 20, .int .i64 40, .int .i64 22, .int .i64 40, .int .i64 40, .int .i64 40, .int .i64 40, .int .i64 33, .int .i64 32] 32)
    rw [e1] at hn
    exact ⟨(Below.heap_alloc _ _ _ (by simp)).trans (World.alloc_heap_new _ _), hn⟩
  unfold ctrR
  by_cases h63 : c = 63
  · subst h63
    rw [if_pos rfl]
    unfold cmc
    go_enter Tryd.func46, Tryd.ntmps46
    go_wp2
    exact bodyPost_ret (v := .agg #[.int .i64 15, .int .i64 0, .string ⟨#[]⟩, .int .u8 0]) (by simp [results, Tryd.results46, go_sem]) rfl ⟨rfl, HB.out _ _⟩
  rw [if_neg h63]
  have e63 : (c == 63) = false := by simp [h63]
  by_cases h64 : c = 64
  · subst h64
    rw [if_pos rfl]
    unfold cmc
    go_enter Tryd.func46, Tryd.ntmps46
    go_wp2
    exact bodyPost_ret (v := .agg #[.int .i64 29, .int .i64 0, .string ⟨#[]⟩, .int .u8 64]) (by simp [results, Tryd.results46, go_sem]) rfl ⟨rfl, HB.out _ _⟩
  rw [if_neg h64]
  have e64 : (c == 64) = false := by simp [h64]
  by_cases h73 : c = 73
  · subst h73
    rw [if_pos rfl]
    have hi := fun W => rins_any ⟨#[9]⟩ W
    rw [show insC ⟨#[9]⟩ = ⟨1, 0, ⟨#[9]⟩, 0⟩ from if_neg (fun e => by cases congrArg ByteArray.size e)] at hi ⊢
    simp only [cmc, cmz] at hi HK ⊢
    have HI : Hid (∀ W : World, Calls Tryd.prog 43 #[.string ⟨#[9]⟩] W fun e w' => e = .returned (.agg #[.int .i64 1, .int .i64 0, .string ⟨#[9]⟩, .int .u8 0]) ∧ Below W.heap.size W w') := hi
    clear hi
    go_enter Tryd.func46, Tryd.ntmps46
    go_wp2_with (go_at_call 43; refine (HI.out _).mono ?_; rintro e w1 ⟨rfl, hb⟩; have HR : Hid (w1.heap[w.heap.size]? = some (.cells #[.int .i64 0, .int .i64 0, .string ⟨#[]⟩, .int .u8 0] 34 (0, 0)) ∧ Below w.heap.size w w1) := ⟨(hb.block _ (Array.getElem?_eq_some_iff.1 HK.out.1).1).trans HK.out.1, (HB.out _ _).trans (hb.mono (HB.out _ _).size)⟩; clear hb; obtain ⟨⟨r0, r1, r2, r3⟩, ⟨s0, s1, s2, s3⟩⟩ := box4 HR.out.1)
    obtain ⟨q0, q1, q2, q3⟩ := (box4 (set4 (u0 := .int .i64 1) (u1 := .int .i64 0) (u2 := .string ⟨#[9]⟩) (u3 := .int .u8 0) HR.out.1)).1
    have hz : Below w.heap.size w _ := (((HR.out.2.setCell (p := ⟨w.heap.size, 0, none⟩) (Nat.le_refl _) (.int .i64 1)).setCell (p := ⟨w.heap.size, 1, none⟩) (Nat.le_refl _) (.int .i64 0)).setCell (p := ⟨w.heap.size, 2, none⟩) (Nat.le_refl _) (.string ⟨#[9]⟩)).setCell (p := ⟨w.heap.size, 3, none⟩) (Nat.le_refl _) (.int .u8 0)
    exact bodyPost_ret (v := .agg #[.int .i64 1, .int .i64 0, .string ⟨#[9]⟩, .int .u8 0]) (by simp [results, Tryd.results46, go_sem, q0, q1, q2, q3]) rfl ⟨rfl, hz⟩
  rw [if_neg h73]
  have e73 : (c == 73) = false := by simp [h73]
  by_cases hr : 64 < c ∧ c ≤ 95
  · rw [if_pos hr]
    obtain ⟨g0, g1⟩ := hr
    obtain ⟨n, hn⟩ : ∃ n : Nat, (c - 64).toNat = n := ⟨_, rfl⟩
    have hlt : n < 32 := by omega
    have hw : IntKind.i32.wrap (c - 64) = (n : Int) := by simp [IntKind.wrap, IntKind.bits, IntKind.signed]; omega
    rw [hn]
    obtain ⟨v, hv⟩ : ∃ v, ctkL.getD n 40 = v := ⟨_, rfl⟩
    have HV : Hid (∀ W : World, W.heap[w.heap.size + 1]? = some (.cells #[.int .i64 29, .int .i64 8, .int .i64 4, .int .i64 40, .int .i64 14, .int .i64 9, .int .i64 5, .int .i64 37, .int .i64 15, .int .i64 1, .int .i64 2, .int .i64 18, .int .i64 38, .int .i64 3, .int .i64 11, .int .i64 40, .int .i64 10, .int .i64 40, .int .i64 36, .int .i64 40, .int .i64 24, .int .i64 19, .int .i64 40, .int .i64 20, .int .i64 40, .int .i64 22, .int .i64 40, .int .i64 40, .int .i64 40, .int .i64 40, .int .i64 33, .int .i64 32] 32 (0, 0)) → W.cell? ⟨w.heap.size + 1, n, none⟩ = some (.int .i64 v)) := fun W hW => by
      have hc : ∀ m : Nat, m < 32 → (#[.int .i64 29, .int .i64 8, .int .i64 4, .int .i64 40, .int .i64 14, .int .i64 9, .int .i64 5, .int .i64 37, .int .i64 15, .int .i64 1, .int .i64 2, .int .i64 18, .int .i64 38, .int .i64 3, .int .i64 11, .int .i64 40, .int .i64 10, .int .i64 40, .int .i64 36, .int .i64 40, .int .i64 24, .int .i64 19, .int .i64 40, .int .i64 20, .int .i64 40, .int .i64 22, .int .i64 40, .int .i64 40, .int .i64 40, .int .i64 40, .int .i64 33, .int .i64 32] : Array Value)[m]? = some (.int .i64 (ctkL.getD m 40)) := by
        intro m hm
        have : m = 0  ∨ m = 1 ∨ m = 2 ∨ m = 3 ∨ m = 4 ∨ m = 5 ∨ m = 6 ∨ m = 7 ∨ m = 8 ∨ m = 9 ∨ m = 10 ∨ m = 11 ∨ m = 12 ∨ m = 13 ∨ m = 14 ∨ m = 15 ∨ m = 16 ∨ m = 17 ∨ m = 18 ∨ m = 19 ∨ m = 20 ∨ m = 21 ∨ m = 22 ∨ m = 23 ∨ m = 24 ∨ m = 25 ∨ m = 26 ∨ m = 27 ∨ m = 28 ∨ m = 29 ∨ m = 30 ∨ m = 31 := by omega
        rcases this with rfl | rfl | rfl | rfl | rfl | rfl | rfl | rfl | rfl | rfl | rfl | rfl | rfl | rfl | rfl | rfl | rfl | rfl | rfl | rfl | rfl | rfl | rfl | rfl | rfl | rfl | rfl | rfl | rfl | rfl | rfl | rfl <;> rfl
      unfold World.cell?
      rw [hW, ← hv]
      exact hc n hlt
    rw [hv]
    simp only [cmc, cmz] at HK ⊢
    clear hn hv
    have hlt' : (n : Int) < 32 := by omega
    go_enter Tryd.func46, Tryd.ntmps46
    go_upto_region 2 with (fail)
    have HB2 : Hid (Below w.heap.size w ((w.alloc (.cells #[.int .i64 0, .int .i64 0, .string ⟨#[]⟩, .int .u8 0] 34)).alloc (.cells #[.int .i64 29, .int .i64 8, .int .i64 4, .int .i64 40, .int .i64 14, .int .i64 9, .int .i64 5, .int .i64 37, .int .i64 15, .int .i64 1, .int .i64 2, .int .i64 18, .int .i64 38, .int .i64 3, .int .i64 11, .int .i64 40, .int .i64 10, .int .i64 40, .int .i64 36, .int .i64 40, .int .i64 24, .int .i64 19, .int .i64 40, .int .i64 20, .int .i64 40, .int .i64 22, .int .i64 40, .int .i64 40, .int .i64 40, .int .i64 40, .int .i64 33, .int .i64 32] 32))) := HB.out _ _
    generalize (w.alloc (.cells #[.int .i64 0, .int .i64 0, .string ⟨#[]⟩, .int .u8 0] 34)).alloc (.cells #[.int .i64 29, .int .i64 8, .int .i64 4, .int .i64 40, .int .i64 14, .int .i64 9, .int .i64 5, .int .i64 37, .int .i64 15, .int .i64 1, .int .i64 2, .int .i64 18, .int .i64 38, .int .i64 3, .int .i64 11, .int .i64 40, .int .i64 10, .int .i64 40, .int .i64 36, .int .i64 40, .int .i64 24, .int .i64 19, .int .i64 40, .int .i64 20, .int .i64 40, .int .i64 22, .int .i64 40, .int .i64 40, .int .i64 40, .int .i64 40, .int .i64 33, .int .i64 32] 32) = W at HK HB2 ⊢
    obtain ⟨⟨r0, r1, r2, r3⟩, ⟨s0, s1, s2, s3⟩⟩ := box4 HK.out.1
    have hv := HV.out W HK.out.2
    go_wp2
    obtain ⟨q0, q1, q2, q3⟩ := (box4 (set4 (u0 := .int .i64 v) (u1 := .int .i64 0) (u2 := .string ⟨#[]⟩) (u3 := .int .u8 0) HK.out.1)).1
    have hz : Below w.heap.size w _ := (((HB2.out.setCell (p := ⟨w.heap.size, 0, none⟩) (Nat.le_refl _) (.int .i64 v)).setCell (p := ⟨w.heap.size, 1, none⟩) (Nat.le_refl _) (.int .i64 0)).setCell (p := ⟨w.heap.size, 2, none⟩) (Nat.le_refl _) (.string ⟨#[]⟩)).setCell (p := ⟨w.heap.size, 3, none⟩) (Nat.le_refl _) (.int .u8 0)
    exact bodyPost_ret (v := .agg #[.int .i64 v, .int .i64 0, .string ⟨#[]⟩, .int .u8 0]) (by simp [results, Tryd.results46, go_sem, q0, q1, q2, q3]) rfl ⟨rfl, hz⟩
  · rw [if_neg hr]
    unfold unb cmc
    clear HK
    by_cases g0 : 64 < c
    · have g1 : ¬ c ≤ 95 := fun h => hr ⟨g0, h⟩
      clear hr
      go_enter Tryd.func46, Tryd.ntmps46
      go_wp2
      exact bodyPost_ret (v := .agg #[.int .i64 40, .int .i64 0, .string ⟨#[]⟩, .int .u8 0]) (by simp [results, Tryd.results46, go_sem]) rfl ⟨rfl, HB.out _ _⟩
    · clear hr
      go_enter Tryd.func46, Tryd.ntmps46
      go_wp2
      exact bodyPost_ret (v := .agg #[.int .i64 40, .int .i64 0, .string ⟨#[]⟩, .int .u8 0]) (by simp [results, Tryd.results46, go_sem]) rfl ⟨rfl, HB.out _ _⟩
end
end Go.Proofs.YtmaolbibbjngcaaDoor
