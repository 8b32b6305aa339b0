/-
  The first unit of a piece of a text is the text's own, where the piece holds all of it. No program in this text; no conditions.
-/
import Derived.Test.YtoijjkbnmicadaaDoorUMathD
namespace Go.Proofs.YtoijjkbnmicadaaDoor
open Bod

set_option maxHeartbeats 4000000 in
theorem dec_short {n m b0 b1 b2 b3 : Nat} (hn : n ≤ m) (hL : (Lib.decodeN m b0 b1 b2 b3).2 ≤ n) : Lib.decodeN n b0 b1 b2 b3 = Lib.decodeN m b0 b1 b2 b3 := by
  by_cases hb : Lib.decodeN m b0 b1 b2 b3 = (65533, 1)
  · rw [hb]; exact dec_bad_mono hn hb
  · by_cases h0 : b0 < 128
    · simp only [Lib.decodeN, if_pos h0]
    · unfold Lib.decodeN at hb hL ⊢
      rw [if_neg h0] at hb hL ⊢
      rw [if_neg h0]
      by_cases c1 : b0 / 32 = 6 ∧ (1 < m ∧ b1 / 64 = 2)
      · rw [if_pos c1] at hb hL ⊢
        split at hb
        · rename_i g
          rw [if_pos g] at hL ⊢
          rw [if_pos (show b0 / 32 = 6 ∧ (1 < n ∧ b1 / 64 = 2) by simp only at hL; omega)]
        · exact absurd rfl hb
      · rw [if_neg c1] at hb hL ⊢
        rw [if_neg (show ¬ (b0 / 32 = 6 ∧ (1 < n ∧ b1 / 64 = 2)) by omega)]
        by_cases c2 : b0 / 16 = 14 ∧ (1 < m ∧ b1 / 64 = 2) ∧ (2 < m ∧ b2 / 64 = 2)
        · rw [if_pos c2] at hb hL ⊢
          split at hb
          · rename_i g
            rw [if_pos g] at hL ⊢
            rw [if_pos (show b0 / 16 = 14 ∧ (1 < n ∧ b1 / 64 = 2) ∧ (2 < n ∧ b2 / 64 = 2) by simp only at hL; omega)]
          · exact absurd rfl hb
        · rw [if_neg c2] at hb hL ⊢
          rw [if_neg (show ¬ (b0 / 16 = 14 ∧ (1 < n ∧ b1 / 64 = 2) ∧ (2 < n ∧ b2 / 64 = 2)) by omega)]
          by_cases c3 : b0 / 8 = 30 ∧ (1 < m ∧ b1 / 64 = 2) ∧ (2 < m ∧ b2 / 64 = 2) ∧ (3 < m ∧ b3 / 64 = 2)
          · rw [if_pos c3] at hb hL ⊢
            split at hb
            · rename_i g
              rw [if_pos g] at hL ⊢
              rw [if_pos (show b0 / 8 = 30 ∧ (1 < n ∧ b1 / 64 = 2) ∧ (2 < n ∧ b2 / 64 = 2) ∧ (3 < n ∧ b3 / 64 = 2) by simp only at hL; omega)]
            · exact absurd rfl hb
          · rw [if_neg c3] at hb
            exact absurd rfl hb
/-- the first unit of a piece that holds all of it -/
theorem un_first {s : ByteArray} {i j : Nat} (hi : i < s.size) (hj : i + sz s i ≤ j) (h : j ≤ s.size) : un (s.extract i j) 0 = un s i := by
  have hz := (dec_sz (s.size - i) (bt s i) (bt s (i + 1)) (bt s (i + 2)) (bt s (i + 3)) (by omega)).1
  have hz' : 1 ≤ sz s i := hz
  obtain ⟨n, rfl⟩ : ∃ n, j = i + n := ⟨j - i, by omega⟩
  rw [un_piece s i n (by omega) h]
  exact dec_short (by omega) (show sz s i ≤ n by omega)
theorem ch_first {s : ByteArray} {i j : Nat} (hi : i < s.size) (hj : i + sz s i ≤ j) (h : j ≤ s.size) : ch (s.extract i j) 0 = ch s i ∧ sz (s.extract i j) 0 = sz s i := by
  have := un_first hi hj h
  unfold ch sz
  rw [this]
  exact ⟨rfl, rfl⟩
end Go.Proofs.YtoijjkbnmicadaaDoor
