/-
  Plain facts on encodings: what is decoded well is encoded by the same bytes; what is encoded is decoded; what begins no encoding begins none when it is cut shorter. No program is named here; no conditions.
-/
import Derived.Test.YtoijjkbnmicadaaDoorUMathB
import Derived.Lib.RuneBytes
import Derived.Lib.Small
namespace Bod
open Go Go.Lib

theorem bt_lt (s : ByteArray) (k : Nat) : bt s k < 256 := by unfold bt; exact (s.get! k).toNat_lt

set_option maxHeartbeats 4000000 in
/-- a good unit: a character, and its bytes are the character's encoding -/
theorem dec_enc {n b0 b1 b2 b3 c L : Nat} (h0 : b0 < 256) (h1 : b1 < 256) (h2 : b2 < 256) (_h3 : b3 < 256) (hd : decodeN n b0 b1 b2 b3 = (c, L)) (hg : ¬ (c = 65533 ∧ L = 1)) :
    validRune c = true ∧ encodeRuneZ c = ([(b0 : Int), b1, b2, b3]).take L := by
  have hp : ((0 ≤ (c : Int) ∧ (c : Int) < 0xD800) ∨ (0xDFFF < (c : Int) ∧ (c : Int) ≤ 0x10FFFF)) ∧ encodeRuneZ c = ([(b0 : Int), b1, b2, b3]).take L := by
    unfold decodeN at hd
    split at hd
    · cases hd
      exact ⟨by omega, by rw [encodeRuneZ_one (by omega) (by omega)]; rfl⟩
    · split at hd
      · split at hd
        · cases hd
          refine ⟨by omega, ?_⟩
          rw [encodeRuneZ_two (by omega) (by omega)]
          simp only [List.take_succ_cons, List.take_zero, List.cons.injEq, and_true]
          omega
        · cases hd; omega
      · split at hd
        · split at hd
          · cases hd
            refine ⟨by omega, ?_⟩
            rw [encodeRuneZ_three (by omega)]
            simp only [List.take_succ_cons, List.take_zero, List.cons.injEq, and_true]
            omega
          · cases hd; omega
        · split at hd
          · split at hd
            · cases hd
              refine ⟨by omega, ?_⟩
              rw [encodeRuneZ_four (by omega) (by omega)]
              simp only [List.take_succ_cons, List.take_zero, List.cons.injEq, and_true]
              omega
            · cases hd; omega
          · cases hd; omega
  exact ⟨by unfold validRune; exact decide_eq_true hp.1, hp.2⟩

set_option maxHeartbeats 4000000 in
theorem dec_bad_mono {n m b0 b1 b2 b3 : Nat} (hn : n ≤ m) (hb : decodeN m b0 b1 b2 b3 = (65533, 1)) : decodeN n b0 b1 b2 b3 = (65533, 1) := by
  by_cases h0 : b0 < 128
  · simp only [decodeN, if_pos h0] at hb
    have : b0 = 65533 := by simpa using hb
    omega
  · unfold decodeN at hb ⊢
    rw [if_neg h0] at hb ⊢
    by_cases c1 : b0 / 32 = 6 ∧ (1 < n ∧ b1 / 64 = 2)
    · rw [if_pos (show b0 / 32 = 6 ∧ (1 < m ∧ b1 / 64 = 2) by omega)] at hb
      rw [if_pos c1]; exact hb
    · rw [if_neg c1]
      by_cases c2 : b0 / 16 = 14 ∧ (1 < n ∧ b1 / 64 = 2) ∧ (2 < n ∧ b2 / 64 = 2)
      · rw [if_neg (show ¬ (b0 / 32 = 6 ∧ (1 < m ∧ b1 / 64 = 2)) by omega), if_pos (show b0 / 16 = 14 ∧ (1 < m ∧ b1 / 64 = 2) ∧ (2 < m ∧ b2 / 64 = 2) by omega)] at hb
        rw [if_pos c2]; exact hb
      · rw [if_neg c2]
        by_cases c3 : b0 / 8 = 30 ∧ (1 < n ∧ b1 / 64 = 2) ∧ (2 < n ∧ b2 / 64 = 2) ∧ (3 < n ∧ b3 / 64 = 2)
        · rw [if_neg (show ¬ (b0 / 32 = 6 ∧ (1 < m ∧ b1 / 64 = 2)) by omega), if_neg (show ¬ (b0 / 16 = 14 ∧ (1 < m ∧ b1 / 64 = 2) ∧ (2 < m ∧ b2 / 64 = 2)) by omega), if_pos (show b0 / 8 = 30 ∧ (1 < m ∧ b1 / 64 = 2) ∧ (2 < m ∧ b2 / 64 = 2) ∧ (3 < m ∧ b3 / 64 = 2) by omega)] at hb
          rw [if_pos c3]; exact hb
        · rw [if_neg c3]

theorem ch_bad {s : ByteArray} {i : Nat} : ch s i < 0 ↔ un s i = (65533, 1) := by
  unfold ch
  constructor
  · intro h
    split at h
    · rename_i g; exact Prod.ext g.1 g.2
    · omega
  · intro h; rw [h]; simp
theorem ch_neg {s : ByteArray} {i : Nat} (h : ch s i < 0) : ch s i = -1 ∧ sz s i = 1 := by
  have e := ch_bad.1 h
  unfold ch sz
  rw [e]; simp
/-- a piece of a text from i on: its first unit -/
theorem un_piece (s : ByteArray) (i n : Nat) (hn : 1 ≤ n) (h : i + n ≤ s.size) : un (s.extract i (i + n)) 0 = decodeN n (bt s i) (bt s (i + 1)) (bt s (i + 2)) (bt s (i + 3)) := by
  unfold un
  rw [size_extract s i (i + n) h, bt_extract, bt_extract, bt_extract, bt_extract, if_pos (by omega)]
  exact dec_cong (by omega) (by omega) (by omega) (fun g => if_pos (by omega)) (fun g => if_pos (by omega)) (fun g => if_pos (by omega))
theorem bad_piece {s : ByteArray} {i n : Nat} (hc : ch s i < 0) (hn : 1 ≤ n) (h : i + n ≤ s.size) : ch (s.extract i (i + n)) 0 = -1 := by
  have e := ch_bad.1 hc
  have e2 : un (s.extract i (i + n)) 0 = (65533, 1) := by
    rw [un_piece s i n hn h]
    exact dec_bad_mono (by omega) e
  exact (ch_neg (ch_bad.2 e2)).1

theorem data_get (s : ByteArray) (k : Nat) : ((s.data.toList[k]?.getD 0).toNat : Int) = (bt s k : Int) := by rw [bt_eq]
theorem ofZ (x : UInt8) : (x.toNat : Int).toNat.toUInt8 = x := by simp

/-- a good unit's bytes are its character's encoding -/
theorem good_bytes {s : ByteArray} {i : Nat} (hi : i < s.size) (hc : 0 ≤ ch s i) : validRune (ch s i) = true ∧ encodeRune (ch s i) = (s.extract i (i + sz s i)).data.toList := by
  have hg : ¬ ((un s i).1 = 65533 ∧ (un s i).2 = 1) := fun h => by
    have : ch s i < 0 := ch_bad.2 (Prod.ext h.1 h.2)
    omega
  have hcc : ch s i = ((un s i).1 : Int) := by unfold ch; rw [if_neg hg]
  obtain ⟨h1, h2⟩ := dec_enc (bt_lt s i) (bt_lt s (i + 1)) (bt_lt s (i + 2)) (bt_lt s (i + 3)) (c := (un s i).1) (L := (un s i).2) rfl hg
  rw [← hcc] at h1 h2
  refine ⟨h1, ?_⟩
  have hz := sz_in hi
  have h4 := sz_le hi
  apply List.ext_getElem?
  intro j
  unfold encodeRune
  rw [h2, Lib.extract_data]
  change (List.map _ (List.take (sz s i) _))[j]? = _
  by_cases hj : j < sz s i
  · rw [List.getElem?_take_of_lt (by omega), List.getElem?_drop, List.getElem?_map, List.getElem?_take_of_lt hj]
    have hlt : i + j < s.data.toList.length := by rw [← Lib.size_eq]; omega
    have e := data_get s (i + j)
    rw [List.getElem?_eq_getElem hlt] at e ⊢
    simp only [Option.getD_some] at e
    have : j = 0 ∨ j = 1 ∨ j = 2 ∨ j = 3 := by omega
    rcases this with rfl | rfl | rfl | rfl
    · simp only [Nat.add_zero] at e ⊢; simp [← e]
    · simp [← e]
    · simp [← e]
    · simp [← e]
  · rw [List.getElem?_take_eq_none (by omega), List.getElem?_eq_none (by simp; omega)]
end Bod
