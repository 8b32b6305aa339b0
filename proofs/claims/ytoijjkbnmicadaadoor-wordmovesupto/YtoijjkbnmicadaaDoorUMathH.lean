/-
  Plain facts on the document's way to cut a unit off: a first byte's number, the bytes that follow. No program is named here; no conditions.
-/
import Derived.Test.YtoijjkbnmicadaaDoorUMathE
namespace Bod
open Go Go.Lib

/-- the number that a first byte c0 and k bytes behind it make -/
def accC (s : ByteArray) (c0 : Int) : Nat → Int
  | 0 => c0
  | k + 1 => accC s c0 k * 64 + (bt s (k + 1) : Int) - 128
def leadM (b : Nat) : Int := if b < 128 then 0 else if b < 192 then -1 else if b < 224 then 1 else if b < 240 then 2 else if b < 248 then 3 else -1
def leadC (b : Nat) : Int := if b < 128 then b else if b < 192 then 0 else if b < 224 then (b : Int) - 192 else if b < 240 then (b : Int) - 224 else if b < 248 then (b : Int) - 240 else 0
def sizeN (r : Int) : Int := if r < 128 then 1 else if r < 2048 then 2 else if r < 65536 then 3 else 4
def contAll (s : ByteArray) (k : Nat) : Prop := ∀ j, 1 ≤ j → j ≤ k → 128 ≤ bt s j ∧ bt s j ≤ 191

theorem contAll_succ {s : ByteArray} {k : Nat} (h : contAll s k) (h1 : 128 ≤ bt s (k + 1)) (h2 : bt s (k + 1) ≤ 191) : contAll s (k + 1) := fun j a b => by
  by_cases e : j = k + 1
  · subst e; exact ⟨h1, h2⟩
  · exact h j a (by omega)

theorem accC_bd {s : ByteArray} {c0 : Int} (h0 : 0 ≤ c0) : ∀ k, contAll s k → 0 ≤ accC s c0 k ∧ accC s c0 k < (c0 + 1) * 64 ^ k
  | 0, _ => by simp only [accC]; omega
  | k + 1, h => by
    obtain ⟨a, b⟩ := accC_bd h0 k (fun j x y => h j x (by omega))
    obtain ⟨c, d⟩ := h (k + 1) (by omega) (by omega)
    simp only [accC]
    refine ⟨by omega, ?_⟩
    rw [Int.pow_succ, ← Int.mul_assoc]
    omega

theorem accC_le {s : ByteArray} {c0 : Int} {k m : Nat} (hc : (c0 + 1) * 64 ^ m ≤ 2097152) (h0 : 0 ≤ c0) (hk : contAll s k) (hlt : k < m) : 0 ≤ accC s c0 k ∧ accC s c0 k * 64 + 64 ≤ 2097152 := by
  obtain ⟨a, b⟩ := accC_bd h0 k hk
  refine ⟨a, ?_⟩
  have h1 : (c0 + 1) * 64 ^ (k + 1) ≤ (c0 + 1) * 64 ^ m := Int.mul_le_mul_of_nonneg_left (by
    have : (64 : Nat) ^ (k + 1) ≤ 64 ^ m := Nat.pow_le_pow_right (by omega) (by omega)
    exact_mod_cast this) (by omega)
  rw [Int.pow_succ, ← Int.mul_assoc] at h1
  omega

/-- what 'begins' answers, from the first byte's numbers -/
structure Ans (s : ByteArray) (c0 : Int) (m : Nat) (r : Int) : Prop where
  good : contAll s m → validRune (accC s c0 m) = true → sizeN (accC s c0 m) = m + 1 → r = accC s c0 m
  bad1 : ∀ j, 1 ≤ j → j ≤ m → ¬ (128 ≤ bt s j ∧ bt s j ≤ 191) → r = -1
  bad2 : contAll s m → validRune (accC s c0 m) = false → r = -1
  bad3 : contAll s m → sizeN (accC s c0 m) ≠ m + 1 → r = -1

theorem ch_one {s : ByteArray} (h : bt s 0 < 128) : ch s 0 = bt s 0 := by
  have e : un s 0 = (bt s 0, 1) := by unfold un decodeN; rw [if_pos h]
  unfold ch
  rw [e, if_neg (by simp only; omega)]
theorem ch_val {s : ByteArray} {c L : Nat} (h : un s 0 = (c, L)) (h2 : c ≠ 65533 ∨ L ≠ 1) : ch s 0 = c := by
  unfold ch
  rw [h, if_neg (by simp only; omega)]
theorem ch_none {s : ByteArray} (h : un s 0 = (65533, 1)) : ch s 0 = -1 := by
  unfold ch
  rw [h, if_pos ⟨rfl, rfl⟩]
theorem ch_nolead {s : ByteArray} (h : 128 ≤ bt s 0) (h2 : leadM (bt s 0) < 0 ∨ (s.size : Int) ≤ leadM (bt s 0)) : ch s 0 = -1 := by
  refine ch_none ?_
  have hb := bt_lt s 0
  unfold leadM at h2
  rw [if_neg (by omega)] at h2
  unfold un decodeN
  rw [if_neg (by omega)]
  have h3 : bt s 0 < 192 ∨ 248 ≤ bt s 0 ∨ (192 ≤ bt s 0 ∧ bt s 0 < 224 ∧ s.size ≤ 1) ∨ (224 ≤ bt s 0 ∧ bt s 0 < 240 ∧ s.size ≤ 2) ∨ (240 ≤ bt s 0 ∧ bt s 0 < 248 ∧ s.size ≤ 3) := by
    repeat' split at h2
    all_goals omega
  rw [if_neg (by omega), if_neg (by omega), if_neg (by omega)]

theorem valid_no (r : Int) : validRune r = false ↔ ¬ ((0 ≤ r ∧ r < 55296) ∨ (57343 < r ∧ r ≤ 1114111)) := by
  rw [← Bool.not_eq_true, valid_iff]
theorem sizeN_iff (r : Int) : (sizeN r = 1 ↔ r < 128) ∧ (sizeN r = 2 ↔ 128 ≤ r ∧ r < 2048) ∧ (sizeN r = 3 ↔ 2048 ≤ r ∧ r < 65536) ∧ (sizeN r = 4 ↔ 65536 ≤ r) := by
  unfold sizeN
  repeat' split
  all_goals omega

theorem ans_two {s : ByteArray} (h1 : 192 ≤ bt s 0) (h2 : bt s 0 < 224) (hs : 1 < s.size) : Ans s ((bt s 0 : Int) - 192) 1 (ch s 0) := by
  have hb := bt_lt s 1
  have ea : accC s ((bt s 0 : Int) - 192) 1 = ((bt s 0 : Int) - 192) * 64 + bt s 1 - 128 := by simp [accC]
  have hun : un s 0 = if bt s 1 / 64 = 2 ∧ 194 ≤ bt s 0 then (bt s 0 % 32 * 64 + bt s 1 % 64, 2) else (65533, 1) := by
    unfold un decodeN
    simp only [Nat.zero_add]
    by_cases c : bt s 1 / 64 = 2
    · rw [if_neg (by omega), if_pos ⟨by omega, by omega, c⟩]
      by_cases d : 194 ≤ bt s 0
      · rw [if_pos (by omega), if_pos ⟨c, d⟩]
      · rw [if_neg (by omega), if_neg (fun q => d q.2)]
    · rw [if_neg (by omega), if_neg (fun q => c q.2.2), if_neg (by omega), if_neg (by omega), if_neg (fun q => c q.1)]
  constructor
  · intro hc _ hz
    rw [ea] at hz ⊢
    obtain ⟨g1, g2⟩ := hc 1 (by omega) (by omega)
    rw [(show ((1 : Nat) : Int) + 1 = 2 by rfl), (sizeN_iff _).2.1] at hz
    rw [if_pos (by omega)] at hun
    rw [ch_val hun (.inr (by omega))]
    omega
  · intro j j1 j2 hn
    obtain rfl : j = 1 := by omega
    rw [if_neg (by omega)] at hun
    exact ch_none hun
  · intro hc hv
    rw [ea, valid_no] at hv
    obtain ⟨g1, g2⟩ := hc 1 (by omega) (by omega)
    omega
  · intro hc hz
    rw [ea] at hz
    obtain ⟨g1, g2⟩ := hc 1 (by omega) (by omega)
    rw [(show ((1 : Nat) : Int) + 1 = 2 by rfl), ne_eq, (sizeN_iff _).2.1] at hz
    rw [if_neg (by omega)] at hun
    exact ch_none hun

set_option maxHeartbeats 1000000 in
theorem ans_three {s : ByteArray} (h1 : 224 ≤ bt s 0) (h2 : bt s 0 < 240) (hs : 2 < s.size) : Ans s ((bt s 0 : Int) - 224) 2 (ch s 0) := by
  have hb1 := bt_lt s 1
  have hb2 := bt_lt s 2
  obtain ⟨b0, e0⟩ : ∃ b, bt s 0 = b := ⟨_, rfl⟩
  obtain ⟨b1, e1⟩ : ∃ b, bt s 1 = b := ⟨_, rfl⟩
  obtain ⟨b2, e2⟩ : ∃ b, bt s 2 = b := ⟨_, rfl⟩
  have ea : accC s ((bt s 0 : Int) - 224) 2 = (((b0 : Int) - 224) * 64 + b1 - 128) * 64 + b2 - 128 := by simp [accC, e0, e1, e2]
  have hun : un s 0 = if (b1 / 64 = 2 ∧ b2 / 64 = 2) ∧ (b0 % 16 * 4096 + b1 % 64 * 64 + b2 % 64 ≥ 2048 ∧ (b0 % 16 * 4096 + b1 % 64 * 64 + b2 % 64 < 55296 ∨ 57344 ≤ b0 % 16 * 4096 + b1 % 64 * 64 + b2 % 64)) then (b0 % 16 * 4096 + b1 % 64 * 64 + b2 % 64, 3) else (65533, 1) := by
    unfold un decodeN
    simp only [Nat.zero_add, e0, e1, e2]
    rw [e0] at h1 h2
    by_cases c : b1 / 64 = 2 ∧ b2 / 64 = 2
    · rw [if_neg (by omega), if_neg (by omega), if_pos ⟨by omega, ⟨by omega, c.1⟩, by omega, c.2⟩]
      by_cases d : (b0 % 16 * 4096 + b1 % 64 * 64 + b2 % 64 ≥ 2048 ∧ (b0 % 16 * 4096 + b1 % 64 * 64 + b2 % 64 < 55296 ∨ 57344 ≤ b0 % 16 * 4096 + b1 % 64 * 64 + b2 % 64))
      · rw [if_pos (by omega), if_pos ⟨c, d⟩]
      · rw [if_neg (by omega), if_neg (fun q => d q.2)]
    · rw [if_neg (by omega), if_neg (by omega), if_neg (fun q => c ⟨q.2.1.2, q.2.2.2⟩), if_neg (by omega), if_neg (fun q => c q.1)]
  rw [e1] at hb1
  rw [e2] at hb2
  rw [e0] at h1 h2
  constructor
  · intro hc hv hz
    rw [ea] at hz hv ⊢
    obtain ⟨g1, g2⟩ := hc 1 (by omega) (by omega)
    obtain ⟨g3, g4⟩ := hc 2 (by omega) (by omega)
    rw [e1] at g1 g2
    rw [e2] at g3 g4
    rw [(show ((2 : Nat) : Int) + 1 = 3 by rfl), (sizeN_iff _).2.2.1] at hz
    rw [valid_iff] at hv
    rw [if_pos (by omega)] at hun
    rw [ch_val hun (.inr (by omega))]
    omega
  · intro j j1 j2 hn
    have : j = 1 ∨ j = 2 := by omega
    rcases this with rfl | rfl
    · rw [e1] at hn
      rw [if_neg (by omega)] at hun
      exact ch_none hun
    · rw [e2] at hn
      rw [if_neg (by omega)] at hun
      exact ch_none hun
  · intro hc hv
    rw [ea, valid_no] at hv
    obtain ⟨g1, g2⟩ := hc 1 (by omega) (by omega)
    obtain ⟨g3, g4⟩ := hc 2 (by omega) (by omega)
    rw [e1] at g1 g2
    rw [e2] at g3 g4
    rw [if_neg (by omega)] at hun
    exact ch_none hun
  · intro hc hz
    rw [ea] at hz
    obtain ⟨g1, g2⟩ := hc 1 (by omega) (by omega)
    obtain ⟨g3, g4⟩ := hc 2 (by omega) (by omega)
    rw [e1] at g1 g2
    rw [e2] at g3 g4
    rw [(show ((2 : Nat) : Int) + 1 = 3 by rfl), ne_eq, (sizeN_iff _).2.2.1] at hz
    rw [if_neg (by omega)] at hun
    exact ch_none hun

set_option maxHeartbeats 1000000 in
theorem ans_four {s : ByteArray} (h1 : 240 ≤ bt s 0) (h2 : bt s 0 < 248) (hs : 3 < s.size) : Ans s ((bt s 0 : Int) - 240) 3 (ch s 0) := by
  have hb1 := bt_lt s 1
  have hb2 := bt_lt s 2
  have hb3 := bt_lt s 3
  obtain ⟨b0, e0⟩ : ∃ b, bt s 0 = b := ⟨_, rfl⟩
  obtain ⟨b1, e1⟩ : ∃ b, bt s 1 = b := ⟨_, rfl⟩
  obtain ⟨b2, e2⟩ : ∃ b, bt s 2 = b := ⟨_, rfl⟩
  obtain ⟨b3, e3⟩ : ∃ b, bt s 3 = b := ⟨_, rfl⟩
  have ea : accC s ((bt s 0 : Int) - 240) 3 = ((((b0 : Int) - 240) * 64 + b1 - 128) * 64 + b2 - 128) * 64 + b3 - 128 := by simp [accC, e0, e1, e2, e3]
  have hun : un s 0 = if (b1 / 64 = 2 ∧ b2 / 64 = 2 ∧ b3 / 64 = 2) ∧ (b0 % 8 * 262144 + b1 % 64 * 4096 + b2 % 64 * 64 + b3 % 64 ≥ 65536 ∧ b0 % 8 * 262144 + b1 % 64 * 4096 + b2 % 64 * 64 + b3 % 64 ≤ 1114111) then (b0 % 8 * 262144 + b1 % 64 * 4096 + b2 % 64 * 64 + b3 % 64, 4) else (65533, 1) := by
    unfold un decodeN
    simp only [Nat.zero_add, e0, e1, e2, e3]
    rw [e0] at h1 h2
    by_cases c : b1 / 64 = 2 ∧ b2 / 64 = 2 ∧ b3 / 64 = 2
    · rw [if_neg (by omega), if_neg (by omega), if_neg (by omega), if_pos ⟨by omega, ⟨by omega, c.1⟩, ⟨by omega, c.2.1⟩, by omega, c.2.2⟩]
      by_cases d : (b0 % 8 * 262144 + b1 % 64 * 4096 + b2 % 64 * 64 + b3 % 64 ≥ 65536 ∧ b0 % 8 * 262144 + b1 % 64 * 4096 + b2 % 64 * 64 + b3 % 64 ≤ 1114111)
      · rw [if_pos (by omega), if_pos ⟨c, d⟩]
      · rw [if_neg (by omega), if_neg (fun q => d q.2)]
    · rw [if_neg (by omega), if_neg (by omega), if_neg (by omega), if_neg (fun q => c ⟨q.2.1.2, q.2.2.1.2, q.2.2.2.2⟩), if_neg (fun q => c q.1)]
  rw [e1] at hb1
  rw [e2] at hb2
  rw [e3] at hb3
  rw [e0] at h1 h2
  constructor
  · intro hc hv hz
    rw [ea] at hz hv ⊢
    obtain ⟨g1, g2⟩ := hc 1 (by omega) (by omega)
    obtain ⟨g3, g4⟩ := hc 2 (by omega) (by omega)
    obtain ⟨g5, g6⟩ := hc 3 (by omega) (by omega)
    rw [e1] at g1 g2
    rw [e2] at g3 g4
    rw [e3] at g5 g6
    rw [(show ((3 : Nat) : Int) + 1 = 4 by rfl), (sizeN_iff _).2.2.2] at hz
    rw [valid_iff] at hv
    rw [if_pos (by omega)] at hun
    rw [ch_val hun (.inr (by omega))]
    omega
  · intro j j1 j2 hn
    have : j = 1 ∨ j = 2 ∨ j = 3 := by omega
    rcases this with rfl | rfl | rfl
    · rw [e1] at hn
      rw [if_neg (by omega)] at hun
      exact ch_none hun
    · rw [e2] at hn
      rw [if_neg (by omega)] at hun
      exact ch_none hun
    · rw [e3] at hn
      rw [if_neg (by omega)] at hun
      exact ch_none hun
  · intro hc hv
    rw [ea, valid_no] at hv
    obtain ⟨g1, g2⟩ := hc 1 (by omega) (by omega)
    obtain ⟨g3, g4⟩ := hc 2 (by omega) (by omega)
    obtain ⟨g5, g6⟩ := hc 3 (by omega) (by omega)
    rw [e1] at g1 g2
    rw [e2] at g3 g4
    rw [e3] at g5 g6
    rw [if_neg (by omega)] at hun
    exact ch_none hun
  · intro hc hz
    rw [ea] at hz
    obtain ⟨g1, g2⟩ := hc 1 (by omega) (by omega)
    obtain ⟨g3, g4⟩ := hc 2 (by omega) (by omega)
    obtain ⟨g5, g6⟩ := hc 3 (by omega) (by omega)
    rw [e1] at g1 g2
    rw [e2] at g3 g4
    rw [e3] at g5 g6
    rw [(show ((3 : Nat) : Int) + 1 = 4 by rfl), ne_eq, (sizeN_iff _).2.2.2] at hz
    rw [if_neg (by omega)] at hun
    exact ch_none hun

theorem ans_one {s : ByteArray} (h : bt s 0 < 128) : Ans s (bt s 0) 0 (ch s 0) := by
  constructor
  · intro _ _ _; exact ch_one h
  · intro j a b; omega
  · intro _ hv; rw [valid_no] at hv; simp only [accC] at hv; omega
  · intro _ hz
    simp only [accC] at hz
    rw [(show ((0 : Nat) : Int) + 1 = 1 by rfl), ne_eq, (sizeN_iff _).1] at hz
    omega

/-- a good unit's length is its character's -/
theorem sz_good {s : ByteArray} {i : Nat} (hc : 0 ≤ ch s i) (hi : i < s.size) : (sz s i : Int) = sizeN (ch s i) := by
  obtain ⟨h1, h2⟩ := good_bytes hi hc
  have hz := sz_in hi
  have hl : (encodeRune (ch s i)).length = sz s i := by
    rw [h2, ← Lib.size_eq, size_extract s i _ hz]; omega
  unfold encodeRune at hl
  rw [List.length_map] at hl
  rw [← hl]
  rcases enc_shape h1 with ⟨a, b, e⟩ | ⟨a, b, e⟩ | ⟨a, e⟩ | ⟨a, b, e⟩
  · rw [e]; exact ((sizeN_iff _).1.2 (by omega)).symm
  · rw [e]; exact ((sizeN_iff _).2.1.2 (by omega)).symm
  · rw [e]; exact ((sizeN_iff _).2.2.1.2 (by omega)).symm
  · rw [e]; exact ((sizeN_iff _).2.2.2.2 (by omega)).symm
end Bod
