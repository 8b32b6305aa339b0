/-
  Plain facts for what is written and read again: the encoding of a character by itself, its beginnings, and where each stands among the encodings of a list. No program is named here; no conditions.
-/
import Derived.Test.YtoijjkbnmicadaaDoorUMathE
namespace Bod
open Go Go.Lib

set_option maxHeartbeats 4000000 in
/-- the numbers of a character's encoding under the tables of Go's library -/
theorem enc_tabs {r : Int} (hv : validRune r = true) (b : Nat → Nat) (hb : ∀ k, k < (encodeRuneZ r).length → (b k : Int) = (encodeRuneZ r)[k]?.getD 0) :
    firstT (b 0) % 8 ≤ (encodeRuneZ r).length ∧ (2 ≤ (encodeRuneZ r).length → firstT (b 0) % 8 = (encodeRuneZ r).length) ∧
    (3 ≤ (encodeRuneZ r).length → accLo (firstT (b 0) / 16) ≤ b 1 ∧ b 1 ≤ accHi (firstT (b 0) / 16)) ∧ (4 ≤ (encodeRuneZ r).length → 128 ≤ b 2 ∧ b 2 ≤ 191) ∧
    (2 ≤ (encodeRuneZ r).length → b 1 / 64 = 2) ∧ (3 ≤ (encodeRuneZ r).length → b 2 / 64 = 2) ∧ (4 ≤ (encodeRuneZ r).length → b 3 / 64 = 2) := by
  rcases enc_shape hv with ⟨h1, h2, e⟩ | ⟨h1, h2, e⟩ | ⟨h1, e⟩ | ⟨h1, h2, e⟩
  · rw [e] at hb ⊢
    have b0 := hb 0 (by simp)
    simp only [List.length_cons, List.length_nil, List.getElem?_cons_zero, Option.getD_some] at b0 ⊢
    refine ⟨?_, by omega, by omega, by omega, by omega, by omega, by omega⟩
    unfold firstT; rw [if_pos (by omega)]; omega
  · rw [e] at hb ⊢
    have b0 := hb 0 (by simp)
    have b1 := hb 1 (by simp)
    simp only [List.length_cons, List.length_nil, List.getElem?_cons_zero, List.getElem?_cons_succ, Option.getD_some] at b0 b1 ⊢
    have hf : firstT (b 0) = 2 := firstT_C2 (by omega)
    rw [hf]
    omega
  · rw [e] at hb ⊢
    have b0 := hb 0 (by simp)
    have b1 := hb 1 (by simp)
    have b2 := hb 2 (by simp)
    simp only [List.length_cons, List.length_nil, List.getElem?_cons_zero, List.getElem?_cons_succ, Option.getD_some] at b0 b1 b2 ⊢
    by_cases g1 : b 0 = 224
    · rw [firstT_E0 g1, show accLo (19 / 16) = 160 from rfl, show accHi (19 / 16) = 191 from rfl]
      omega
    · by_cases g2 : b 0 = 237
      · rw [firstT_ED g2, show accLo (35 / 16) = 128 from rfl, show accHi (35 / 16) = 159 from rfl]
        omega
      · rw [firstT_E1 (by omega), show accLo (3 / 16) = 128 from rfl, show accHi (3 / 16) = 191 from rfl]
        omega
  · rw [e] at hb ⊢
    have b0 := hb 0 (by simp)
    have b1 := hb 1 (by simp)
    have b2 := hb 2 (by simp)
    have b3 := hb 3 (by simp)
    simp only [List.length_cons, List.length_nil, List.getElem?_cons_zero, List.getElem?_cons_succ, Option.getD_some] at b0 b1 b2 b3 ⊢
    by_cases g1 : b 0 = 240
    · rw [firstT_F0 g1, show accLo (52 / 16) = 144 from rfl, show accHi (52 / 16) = 191 from rfl]
      omega
    · by_cases g2 : b 0 = 244
      · rw [firstT_F4 g2, show accLo (68 / 16) = 128 from rfl, show accHi (68 / 16) = 143 from rfl]
        omega
      · rw [firstT_F1 (by omega), show accLo (4 / 16) = 128 from rfl, show accHi (4 / 16) = 191 from rfl]
        omega

/-- a text that is just a character's encoding -/
theorem beg_whole {e : ByteArray} {r : Int} (hv : validRune r = true) (hs : e.size = (encodeRuneZ r).length) (h : At e 0 (encodeRuneZ r)) : begB e = false := by
  have ht := enc_tabs hv (bt e) (fun k hk => by have := h.2 k hk; rwa [Nat.zero_add] at this)
  have hl := encodeRuneZ_length r
  unfold begB fullB fullN
  rw [if_neg (by omega), hs, if_pos ht.1]; rfl
theorem beg_part {e : ByteArray} {r : Int} {k : Nat} (hv : validRune r = true) (hs : e.size = (encodeRuneZ r).length) (h : At e 0 (encodeRuneZ r)) (h1 : 1 ≤ k) (h2 : k < (encodeRuneZ r).length) : begB (e.extract 0 k) = true := by
  obtain ⟨_, t2, t3, t4, _⟩ := enc_tabs hv (bt e) (fun k hk => by have := h.2 k hk; rwa [Nat.zero_add] at this)
  have hl := encodeRuneZ_length r
  have hps := size_extract e 0 k (by omega)
  have hp : (e.extract 0 k).size = k := by omega
  have e0 : bt (e.extract 0 k) 0 = bt e 0 := by rw [bt_extract, if_pos (by omega)]
  have e1 : 1 < k → bt (e.extract 0 k) 1 = bt e 1 := fun g => by rw [bt_extract, if_pos (by omega)]
  have e2 : 2 < k → bt (e.extract 0 k) 2 = bt e 2 := fun g => by rw [bt_extract, if_pos (by omega)]
  unfold begB
  rw [if_neg (by omega)]
  unfold fullB
  rw [hp, e0]
  unfold fullN
  rw [t2 (by omega), if_neg (by omega)]
  by_cases g1 : 1 < k
  · rw [e1 g1]
    have := t3 (by omega)
    rw [if_neg (by omega)]
    by_cases g2 : 2 < k
    · rw [e2 g2]
      have := t4 (by omega)
      rw [if_neg (by omega)]; rfl
    · rw [if_neg (fun q => g2 q.1)]; rfl
  · rw [if_neg (fun q => g1 q.1), if_neg (by omega)]; rfl

theorem offs_ones {p : ByteArray} (h : ∀ i, i < p.size → sz p i = 1) : ∀ (f i : Nat), p.size - i ≤ f → (offs p i).length = p.size - i
  | 0, i, hf => by rw [offs_end (by omega)]; simp; omega
  | f + 1, i, hf => by
    by_cases hi : i < p.size
    · rw [offs_step hi, h i hi, List.length_cons, offs_ones h f (i + 1) (by omega)]; omega
    · rw [offs_end (by omega)]; simp; omega

set_option maxHeartbeats 4000000 in
theorem count_part {e : ByteArray} {r : Int} {k : Nat} (hv : validRune r = true) (hs : e.size = (encodeRuneZ r).length) (h : At e 0 (encodeRuneZ r)) (h1 : 1 ≤ k) (h2 : k < (encodeRuneZ r).length) : (offs (e.extract 0 k) 0).length = k := by
  have hps := size_extract e 0 k (by omega)
  have hl := encodeRuneZ_length r
  have hb : ∀ j, j < (encodeRuneZ r).length → (bt e j : Int) = (encodeRuneZ r)[j]?.getD 0 := fun j hj => by have := h.2 j hj; rwa [Nat.zero_add] at this
  obtain ⟨_, _, _, _, t5, t6, _⟩ := enc_tabs hv (bt e) hb
  rw [offs_ones (fun i hi => ?_) (e.extract 0 k).size 0 (by omega), hps]; omega
  rw [hps] at hi
  by_cases i0 : i = 0
  · subst i0
    have hu : un (e.extract 0 k) 0 = decodeN k (bt e 0) (bt e 1) (bt e 2) (bt e 3) := by
      have := un_piece e 0 k h1 (by omega)
      simpa using this
    unfold sz
    rw [hu]
    rcases enc_shape hv with ⟨q1, q2, q⟩ | ⟨q1, q2, q⟩ | ⟨q1, q⟩ | ⟨q1, q2, q⟩
    · rw [q] at h2; simp at h2; omega
    · rw [q] at h2 hb
      have b0 := hb 0 (by simp)
      simp only [List.length_cons, List.length_nil, List.getElem?_cons_zero, Option.getD_some] at b0 h2
      unfold decodeN
      rw [if_neg (by omega), if_neg (by omega), if_neg (by omega), if_neg (by omega)]
    · rw [q] at h2 hb
      have b0 := hb 0 (by simp)
      simp only [List.length_cons, List.length_nil, List.getElem?_cons_zero, Option.getD_some] at b0 h2
      unfold decodeN
      rw [if_neg (by omega), if_neg (by omega), if_neg (by omega), if_neg (by omega)]
    · rw [q] at h2 hb
      have b0 := hb 0 (by simp)
      simp only [List.length_cons, List.length_nil, List.getElem?_cons_zero, Option.getD_some] at b0 h2
      unfold decodeN
      rw [if_neg (by omega), if_neg (by omega), if_neg (by omega), if_neg (by omega)]
  · apply sz_cont
    rw [bt_extract, if_pos (by omega), Nat.zero_add]
    have : i = 1 ∨ i = 2 := by omega
    rcases this with rfl | rfl
    · exact t5 (by omega)
    · exact t6 (by omega)

/-- where an encoding stands among bytes -/
theorem at_of_data {s : ByteArray} {i : Nat} {r : Int} {u v : List UInt8} (hd : s.data.toList = u ++ encodeRune r ++ v) (hi : i = u.length) : At s i (encodeRuneZ r) := by
  subst hi
  have hlen : (encodeRune r).length = (encodeRuneZ r).length := by simp [encodeRune]
  refine ⟨by rw [Lib.size_eq, hd]; simp only [List.length_append]; omega, fun k hk => ?_⟩
  rw [bt_eq, hd, List.append_assoc, List.getElem?_append_right (by omega), Nat.add_sub_cancel_left, List.getElem?_append_left (by omega)]
  simp only [encodeRune, List.getElem?_map, List.getElem?_eq_getElem hk, Option.map_some, Option.getD_some]
  have := encodeRuneZ_byte r (encodeRuneZ r)[k] (List.getElem_mem hk)
  simp
  omega
end Bod
