/-
  The document's own second of layer 19. No conditions beyond.
-/
import Derived.Test.YtmaolbibbjngcaaDoorIRfi
namespace Go.Proofs.YtmaolbibbjngcaaDoor
open Go.RowKit
section
set_option maxRecDepth 100000
set_option maxHeartbeats 2000000
theorem rsec_of (b : ByteArray) (hb : b = ⟨#[120]⟩ ∨ b = ⟨#[109]⟩ ∨ b = ⟨#[39]⟩) (k : Ky) (w : World) : Calls Tryd.prog 36 #[.string b, kyv k] w fun e w' => e = .returned (.agg (cmc (secR b k))) ∧ Below w.heap.size w w' := by
  have HB : Hid (∀ o o', Below w.heap.size w ((w.alloc o).alloc o')) := fun o o' => ((Below.refl _ w).alloc (Nat.le_refl _) o).alloc (by simp) o'
  obtain ⟨⟨R0, R1, R2, R3⟩, hR⟩ : ∃ R, secR b k = R := ⟨_, rfl⟩
  have HR : Hid (secR b k = ⟨R0, R1, R2, R3⟩) := hR
  rw [hR]
  clear hR
  obtain ⟨a, c, ct, m, sh, tx⟩ := k
  unfold secR chrR letR chrR at HR
  simp only at HR
  unfold kyv cmc
  by_cases h2 : a = 2
  · subst h2
    cases m
    · by_cases g : c = 71
      · subst g
        clear hb
        go_enter Tryd.func36, Tryd.ntmps36
        go_wp2
        exact bodyPost_ret (v := .agg #[.int .i64 R0, .int .i64 R1, .string R2, .int .u8 R3]) (by have e := HR.out; simp  at e; obtain ⟨rfl, rfl, rfl, rfl⟩ := e; simp [results, Tryd.results36, go_sem]) rfl ⟨rfl, HB.out _ _⟩
      have eg : (c == 71) = false := by simp [g]
      by_cases i : c = 88
      · subst i
        rcases hb with rfl | rfl | rfl
        all_goals
          go_enter Tryd.func36, Tryd.ntmps36
          go_wp2
          exact bodyPost_ret (v := .agg #[.int .i64 R0, .int .i64 R1, .string R2, .int .u8 R3]) (by have e := HR.out; simp  at e; obtain ⟨rfl, rfl, rfl, rfl⟩ := e; simp [results, Tryd.results36, go_sem]) rfl ⟨rfl, HB.out _ _⟩
      have ei : (c == 88) = false := by simp [i]
      rcases hb with rfl | rfl | rfl
      all_goals
        go_enter Tryd.func36, Tryd.ntmps36
        go_wp2
        exact bodyPost_ret (v := .agg #[.int .i64 R0, .int .i64 R1, .string R2, .int .u8 R3]) (by have e := HR.out; simp [g, i] at e; obtain ⟨rfl, rfl, rfl, rfl⟩ := e; simp [results, Tryd.results36, go_sem]) rfl ⟨rfl, HB.out _ _⟩
    · rcases hb with rfl | rfl | rfl
      all_goals
        go_enter Tryd.func36, Tryd.ntmps36
        go_wp2
        exact bodyPost_ret (v := .agg #[.int .i64 R0, .int .i64 R1, .string R2, .int .u8 R3]) (by have e := HR.out; simp  at e; obtain ⟨rfl, rfl, rfl, rfl⟩ := e; simp [results, Tryd.results36, go_sem]) rfl ⟨rfl, HB.out _ _⟩
  have e2 : (a == 2) = false := by simp [h2]
  by_cases h1 : a = 1
  rotate_left
  · have e1 : (a == 1) = false := by simp [h1]
    rcases hb with rfl | rfl | rfl
    all_goals
      go_enter Tryd.func36, Tryd.ntmps36
      go_wp2
      exact bodyPost_ret (v := .agg #[.int .i64 R0, .int .i64 R1, .string R2, .int .u8 R3]) (by have e := HR.out; simp [h1, h2] at e; obtain ⟨rfl, rfl, rfl, rfl⟩ := e; simp [results, Tryd.results36, go_sem]) rfl ⟨rfl, HB.out _ _⟩
  subst h1
  clear h2 e2
  cases ct
  rotate_left
  · rcases hb with rfl | rfl | rfl
    all_goals
      go_enter Tryd.func36, Tryd.ntmps36
      go_wp2
      exact bodyPost_ret (v := .agg #[.int .i64 R0, .int .i64 R1, .string R2, .int .u8 R3]) (by have e := HR.out; simp  at e; obtain ⟨rfl, rfl, rfl, rfl⟩ := e; simp [results, Tryd.results36, go_sem]) rfl ⟨rfl, HB.out _ _⟩
  cases m
  rotate_left
  · rcases hb with rfl | rfl | rfl
    all_goals
      go_enter Tryd.func36, Tryd.ntmps36
      go_wp2
      exact bodyPost_ret (v := .agg #[.int .i64 R0, .int .i64 R1, .string R2, .int .u8 R3]) (by have e := HR.out; simp  at e; obtain ⟨rfl, rfl, rfl, rfl⟩ := e; simp [results, Tryd.results36, go_sem]) rfl ⟨rfl, HB.out _ _⟩
  rcases hb with rfl | rfl | rfl
  · by_cases g : c = 117
    · subst g
      go_enter Tryd.func36, Tryd.ntmps36
      go_wp2
      exact bodyPost_ret (v := .agg #[.int .i64 R0, .int .i64 R1, .string R2, .int .u8 R3]) (by have e := HR.out; simp  at e; obtain ⟨rfl, rfl, rfl, rfl⟩ := e; simp [results, Tryd.results36, go_sem]) rfl ⟨rfl, HB.out _ _⟩
    have eg : (c == 117) = false := by simp [g]
    by_cases i : c = 114
    · subst i
      go_enter Tryd.func36, Tryd.ntmps36
      go_wp2
      exact bodyPost_ret (v := .agg #[.int .i64 R0, .int .i64 R1, .string R2, .int .u8 R3]) (by have e := HR.out; simp  at e; obtain ⟨rfl, rfl, rfl, rfl⟩ := e; simp [results, Tryd.results36, go_sem]) rfl ⟨rfl, HB.out _ _⟩
    have ei : (c == 114) = false := by simp [i]
    by_cases l : c = 64
    · subst l
      go_enter Tryd.func36, Tryd.ntmps36
      go_wp2
      exact bodyPost_ret (v := .agg #[.int .i64 R0, .int .i64 R1, .string R2, .int .u8 R3]) (by have e := HR.out; simp  at e; obtain ⟨rfl, rfl, rfl, rfl⟩ := e; simp [results, Tryd.results36, go_sem]) rfl ⟨rfl, HB.out _ _⟩
    have el : (c == 64) = false := by simp [l]
    by_cases p0 : 97 ≤ c
    · by_cases p1 : c ≤ 122
      · go_enter Tryd.func36, Tryd.ntmps36
        go_wp2
        exact bodyPost_ret (v := .agg #[.int .i64 R0, .int .i64 R1, .string R2, .int .u8 R3]) (by have e := HR.out; simp [g, i] at e; obtain ⟨rfl, rfl, rfl, rfl⟩ := e; simp [results, Tryd.results36, go_sem]) rfl ⟨rfl, HB.out _ _⟩
      · go_enter Tryd.func36, Tryd.ntmps36
        go_wp2
        exact bodyPost_ret (v := .agg #[.int .i64 R0, .int .i64 R1, .string R2, .int .u8 R3]) (by have e := HR.out; simp [g, i] at e; obtain ⟨rfl, rfl, rfl, rfl⟩ := e; simp [results, Tryd.results36, go_sem]) rfl ⟨rfl, HB.out _ _⟩
    · go_enter Tryd.func36, Tryd.ntmps36
      go_wp2
      exact bodyPost_ret (v := .agg #[.int .i64 R0, .int .i64 R1, .string R2, .int .u8 R3]) (by have e := HR.out; simp [g, i] at e; obtain ⟨rfl, rfl, rfl, rfl⟩ := e; simp [results, Tryd.results36, go_sem]) rfl ⟨rfl, HB.out _ _⟩
  all_goals
    obtain ⟨x, hx⟩ : ∃ x, IntKind.u8.wrap c = x := ⟨_, rfl⟩
    rw [hx] at HR
    by_cases l : c = 64
    · subst l
      simp [IntKind.wrap, IntKind.bits, IntKind.signed] at hx
      subst hx
      go_enter Tryd.func36, Tryd.ntmps36
      go_wp2
      exact bodyPost_ret (v := .agg #[.int .i64 R0, .int .i64 R1, .string R2, .int .u8 R3]) (by have e := HR.out; simp  at e; obtain ⟨rfl, rfl, rfl, rfl⟩ := e; simp [results, Tryd.results36, go_sem]) rfl ⟨rfl, HB.out _ _⟩
    have el : (c == 64) = false := by simp [l]
    by_cases p0 : 97 ≤ c
    · by_cases p1 : c ≤ 122
      · go_enter Tryd.func36, Tryd.ntmps36
        go_wp2
        exact bodyPost_ret (v := .agg #[.int .i64 R0, .int .i64 R1, .string R2, .int .u8 R3]) (by have e := HR.out; simp [l, p0, p1] at e; obtain ⟨rfl, rfl, rfl, rfl⟩ := e; simp [results, Tryd.results36, go_sem]) rfl ⟨rfl, HB.out _ _⟩
      · clear hx
        have p1' : ¬ (97 ≤ c ∧ c ≤ 122) := fun h => p1 h.2
        go_enter Tryd.func36, Tryd.ntmps36
        go_wp2
        exact bodyPost_ret (v := .agg #[.int .i64 R0, .int .i64 R1, .string R2, .int .u8 R3]) (by have e := HR.out; simp [l, p1'] at e; obtain ⟨rfl, rfl, rfl, rfl⟩ := e; simp [results, Tryd.results36, go_sem]) rfl ⟨rfl, HB.out _ _⟩
    · clear hx
      have p0' : ¬ (97 ≤ c ∧ c ≤ 122) := fun h => p0 h.1
      go_enter Tryd.func36, Tryd.ntmps36
      go_wp2
      exact bodyPost_ret (v := .agg #[.int .i64 R0, .int .i64 R1, .string R2, .int .u8 R3]) (by have e := HR.out; simp [l, p0'] at e; obtain ⟨rfl, rfl, rfl, rfl⟩ := e; simp [results, Tryd.results36, go_sem]) rfl ⟨rfl, HB.out _ _⟩
end
end Go.Proofs.YtmaolbibbjngcaaDoor
