/-
  Plain facts on encodings, the other way: what is encoded is decoded; what an encoding begins with is only begun. No program is named here; no conditions.
-/
import Derived.Test.YtoijjkbnmicadaaDoorUMathD
namespace Bod
open Go Go.Lib

theorem valid_iff (r : Int) : validRune r = true ↔ (0 ≤ r ∧ r < 55296) ∨ (57343 < r ∧ r ≤ 1114111) := by unfold validRune; rw [decide_eq_true_eq]

/-- the four shapes of an encoding -/
theorem enc_shape {r : Int} (h : validRune r = true) :
    (0 ≤ r ∧ r ≤ 127 ∧ encodeRuneZ r = [r]) ∨ (128 ≤ r ∧ r ≤ 2047 ∧ encodeRuneZ r = [192 + r / 64, 128 + r % 64]) ∨
    (((2048 ≤ r ∧ r < 55296) ∨ (57343 < r ∧ r ≤ 65535)) ∧ encodeRuneZ r = [224 + r / 4096, 128 + r / 64 % 64, 128 + r % 64]) ∨
    (65536 ≤ r ∧ r ≤ 1114111 ∧ encodeRuneZ r = [240 + r / 262144, 128 + r / 4096 % 64, 128 + r / 64 % 64, 128 + r % 64]) := by
  rw [valid_iff] at h
  by_cases h1 : r ≤ 127
  · exact .inl ⟨by omega, h1, encodeRuneZ_one (by omega) h1⟩
  · by_cases h2 : r ≤ 2047
    · exact .inr (.inl ⟨by omega, h2, encodeRuneZ_two (by omega) h2⟩)
    · by_cases h3 : r ≤ 65535
      · exact .inr (.inr (.inl ⟨by omega, encodeRuneZ_three (by omega)⟩))
      · exact .inr (.inr (.inr ⟨by omega, by omega, encodeRuneZ_four (by omega) (by omega)⟩))

/-- 'z' lies in the text s from i on -/
def At (s : ByteArray) (i : Nat) (z : List Int) : Prop := i + z.length ≤ s.size ∧ ∀ k, k < z.length → (bt s (i + k) : Int) = z[k]?.getD 0

set_option maxHeartbeats 2000000 in
theorem enc_dec {s : ByteArray} {i : Nat} {r : Int} (hv : validRune r = true) (h : At s i (encodeRuneZ r)) : ch s i = r ∧ sz s i = (encodeRuneZ r).length := by
  obtain ⟨hl, hb⟩ := h
  have key : un s i = (r.toNat, (encodeRuneZ r).length) := by
    unfold un
    rcases enc_shape hv with ⟨h1, h2, e⟩ | ⟨h1, h2, e⟩ | ⟨h1, e⟩ | ⟨h1, h2, e⟩
    · rw [e] at hl hb ⊢
      have b0 := hb 0 (by simp)
      simp only [List.length_cons, List.length_nil, List.getElem?_cons_zero, Option.getD_some, Nat.add_zero] at hl b0 ⊢
      unfold decodeN
      rw [if_pos (by omega)]
      exact Prod.ext (by simp only; omega) rfl
    · rw [e] at hl hb ⊢
      have b0 := hb 0 (by simp)
      have b1 := hb 1 (by simp)
      simp only [List.length_cons, List.length_nil, List.getElem?_cons_zero, List.getElem?_cons_succ, Option.getD_some, Nat.add_zero] at hl b0 b1 ⊢
      unfold decodeN
      rw [if_neg (by omega), if_pos (by omega), if_pos (by omega)]
      exact Prod.ext (by simp only; omega) rfl
    · rw [e] at hl hb ⊢
      have b0 := hb 0 (by simp)
      have b1 := hb 1 (by simp)
      have b2 := hb 2 (by simp)
      simp only [List.length_cons, List.length_nil, List.getElem?_cons_zero, List.getElem?_cons_succ, Option.getD_some, Nat.add_zero] at hl b0 b1 b2 ⊢
      unfold decodeN
      rw [if_neg (by omega), if_neg (by omega), if_pos (by omega), if_pos (by omega)]
      exact Prod.ext (by simp only; omega) rfl
    · rw [e] at hl hb ⊢
      have b0 := hb 0 (by simp)
      have b1 := hb 1 (by simp)
      have b2 := hb 2 (by simp)
      have b3 := hb 3 (by simp)
      simp only [List.length_cons, List.length_nil, List.getElem?_cons_zero, List.getElem?_cons_succ, Option.getD_some, Nat.add_zero] at hl b0 b1 b2 b3 ⊢
      unfold decodeN
      rw [if_neg (by omega), if_neg (by omega), if_neg (by omega), if_pos (by omega), if_pos (by omega)]
      exact Prod.ext (by simp only; omega) rfl
  unfold ch sz
  rw [key]
  have h0 : 0 ≤ r := by rw [valid_iff] at hv; omega
  refine ⟨?_, rfl⟩
  rw [if_neg]
  · simp only; omega
  · rintro ⟨q1, q2⟩
    simp only at q1 q2
    have : r = 65533 := by omega
    subst this
    have : (encodeRuneZ 65533).length = 3 := by decide
    omega

/-- FullRune's answer, by numbers -/
def fullN (n k lo hi b1 b2 : Nat) : Bool := if k ≤ n then true else if 1 < n ∧ (b1 < lo ∨ hi < b1) then true else if 2 < n ∧ (b2 < 128 ∨ 191 < b2) then true else false
def fullB (s : ByteArray) : Bool := fullN s.size (firstT (bt s 0) % 8) (accLo (firstT (bt s 0) / 16)) (accHi (firstT (bt s 0) / 16)) (bt s 1) (bt s 2)
def begB (s : ByteArray) : Bool := if s.size = 0 then false else !fullB s
end Bod
