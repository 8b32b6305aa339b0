/-
  More plain facts on units: a piece of a text has the units of the text where it is long enough; whether an offset is a boundary is seen by three bytes at each side. No program is named here; no conditions.
-/
import Derived.Test.YtoijjkbnmicadaaDoorUMath
import Derived.Lib.Strings
namespace Bod
open Go Go.Lib

theorem bt_eq (s : ByteArray) (k : Nat) : bt s k = (s.data.toList[k]?.getD 0).toNat := by
  unfold bt
  cases s with
  | mk d =>
    show (d[k]!).toNat = _
    rw [getElem!_def, Array.getElem?_toList]
    cases d[k]? <;> rfl
theorem bt_out {s : ByteArray} {k : Nat} (h : s.size ≤ k) : bt s k = 0 := by
  rw [bt_eq, List.getElem?_eq_none (by rw [← Lib.size_eq]; exact h)]; rfl
theorem bt_extract (s : ByteArray) (a b k : Nat) : bt (s.extract a b) k = if a + k < b then bt s (a + k) else 0 := by
  rw [bt_eq, Lib.extract_data]
  by_cases h : a + k < b
  · rw [if_pos h, List.getElem?_take_of_lt (by omega), List.getElem?_drop, bt_eq]
  · rw [if_neg h, List.getElem?_take_eq_none (by omega)]; rfl
theorem size_extract (s : ByteArray) (a b : Nat) (hb : b ≤ s.size) : (s.extract a b).size = b - a := by simp; omega

theorem dec_cong {n m b0 b1 b2 b3 c1 c2 c3 : Nat} (h1 : 1 < n ↔ 1 < m) (h2 : 2 < n ↔ 2 < m) (h3 : 3 < n ↔ 3 < m) (e1 : 1 < n → b1 = c1) (e2 : 2 < n → b2 = c2) (e3 : 3 < n → b3 = c3) :
    decodeN n b0 b1 b2 b3 = decodeN m b0 c1 c2 c3 := by
  by_cases g1 : 1 < n
  · obtain rfl := e1 g1
    have g1' := h1.1 g1
    by_cases g2 : 2 < n
    · obtain rfl := e2 g2
      have g2' := h2.1 g2
      by_cases g3 : 3 < n
      · obtain rfl := e3 g3
        have g3' := h3.1 g3
        simp only [decodeN, g1, g1', g2, g2', g3, g3', true_and]
      · have g3' : ¬ 3 < m := fun h => g3 (h3.2 h)
        simp only [decodeN, g1, g1', g2, g2', g3, g3', true_and, false_and, and_false, if_false]
    · have g2' : ¬ 2 < m := fun h => g2 (h2.2 h)
      have g3 : ¬ 3 < n := by omega
      have g3' : ¬ 3 < m := by omega
      simp only [decodeN, g1, g1', g2, g2', g3, g3', true_and, false_and, and_false, if_false]
  · have g1' : ¬ 1 < m := fun h => g1 (h1.2 h)
    have g2 : ¬ 2 < n := by omega
    have g2' : ¬ 2 < m := by omega
    have g3 : ¬ 3 < n := by omega
    have g3' : ¬ 3 < m := by omega
    simp only [decodeN, g1, g1', g2, g2', g3, g3', false_and, and_false, if_false]

/-- a unit of a piece is the text's, where the piece goes on for four bytes or to the text's end -/
theorem un_extract (s : ByteArray) (a b j : Nat) (hb : b ≤ s.size) (hj : a + j < b) (h : a + j + 4 ≤ b ∨ b = s.size) : un (s.extract a b) j = un s (a + j) := by
  unfold un
  rw [size_extract s a b hb, bt_extract s a b j, bt_extract s a b _, bt_extract s a b _, bt_extract s a b _, if_pos hj]
  refine dec_cong (by omega) (by omega) (by omega) (fun g => ?_) (fun g => ?_) (fun g => ?_)
  · rw [if_pos (by omega)]; rfl
  · rw [if_pos (by omega)]; rfl
  · rw [if_pos (by omega)]; rfl
theorem sz_extract (s : ByteArray) (a b j : Nat) (hb : b ≤ s.size) (hj : a + j < b) (h : a + j + 4 ≤ b ∨ b = s.size) : sz (s.extract a b) j = sz s (a + j) := by
  unfold sz; rw [un_extract s a b j hb hj h]
theorem ch_extract (s : ByteArray) (a b j : Nat) (hb : b ≤ s.size) (hj : a + j < b) (h : a + j + 4 ≤ b ∨ b = s.size) : ch (s.extract a b) j = ch s (a + j) := by
  unfold ch; rw [un_extract s a b j hb hj h]

theorem B_iff3 {s : ByteArray} {i : Nat} (hi : i ≤ s.size) : B s i ↔ ∀ k, k < i → i ≤ k + 3 → k + sz s k ≤ i := by
  constructor
  · exact fun h k hk _ => h.2 k hk
  · refine fun h => ⟨hi, fun k hk => ?_⟩
    by_cases c : i ≤ k + 3
    · exact h k hk c
    · have := sz_le (s := s) (i := k) (by omega); omega

theorem B_local (s : ByteArray) (i : Nat) (hi : i ≤ s.size) : B (s.extract (i - 3) (min (i + 3) s.size)) (i - (i - 3)) ↔ B s i := by
  have hm : min (i + 3) s.size ≤ s.size := Nat.min_le_right _ _
  rw [B_iff3 (by rw [size_extract _ _ _ hm]; omega), B_iff3 hi]
  constructor
  · intro h k hk h3
    have := h (k - (i - 3)) (by omega) (by omega)
    rw [sz_extract s _ _ _ hm (by omega) (by omega), show i - 3 + (k - (i - 3)) = k by omega] at this
    omega
  · intro h j hj _
    have := h (i - 3 + j) (by omega) (by omega)
    rw [sz_extract s _ _ _ hm (by omega) (by omega)]
    omega
theorem bd_local (s : ByteArray) (i : Nat) (hi : i ≤ s.size) : bdZ (s.extract (i - 3) (min (i + 3) s.size)) ((i - (i - 3) : Nat) : Int) = bdZ s i := by
  rw [Bool.eq_iff_iff, bdZ_iff, bdZ_iff]
  exact B_local s i hi
end Bod
