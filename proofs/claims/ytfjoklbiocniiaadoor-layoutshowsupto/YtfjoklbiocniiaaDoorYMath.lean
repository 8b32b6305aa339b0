/-
  A cluster's class and its first byte: plain facts. No program is walked in this text; no conditions.
-/
import Derived.Test.YtfjoklbiocniiaaDoorPkB
import Derived.Test.YtfjoklbiocniiaaDoorPkA
namespace Go.Proofs.YtfjoklbiocniiaaDoor
open Bod Wid

theorem dec_ascii (n b0 b1 b2 b3 : Nat) (h : b0 < 128) : Lib.decodeN n b0 b1 b2 b3 = (b0, 1) := by
  unfold Lib.decodeN
  rw [if_pos h]
theorem ch_ascii {s : ByteArray} {i : Nat} (h : bt s i < 128) : ch s i = bt s i ∧ sz s i = 1 := by
  have e : un s i = (bt s i, 1) := dec_ascii _ _ _ _ _ h
  unfold ch sz
  rw [e]
  exact ⟨if_neg (by simp only; omega), rfl⟩
theorem clF_k (s : ByteArray) : ∀ (r : List Nat) (c : Clu) (a : Int), (c.k = cls (ch s c.fr) ∨ c.k = 1) → ∀ d ∈ clF s c a r, d.k = cls (ch s d.fr) ∨ d.k = 1
  | [], c, _, h, d, hd => by simp only [clF, List.mem_singleton] at hd; rw [hd]; exact h
  | i :: r, c, a, h, d, hd => by
    simp only [clF] at hd
    split at hd
    · refine clF_k s r _ _ ?_ d hd
      unfold gro
      simp only
      split
      · exact .inr rfl
      · exact h
    · rcases List.mem_cons.1 hd with rfl | hd
      · exact h
      · exact clF_k s r _ _ (.inl rfl) d hd
theorem cl_k (s : ByteArray) : ∀ d ∈ cl s, d.k = cls (ch s d.fr) ∨ d.k = 1 := by
  intro d hd
  unfold cl at hd
  cases ho : offs s 0 with
  | nil => rw [ho] at hd; simp [clL] at hd
  | cons i r =>
    rw [ho] at hd
    exact clF_k s r _ _ (.inl rfl) d hd
theorem cls_two {c : Int} (h : cls c = 2) : (0 ≤ c ∧ c ≤ 31) ∨ (127 ≤ c ∧ c ≤ 159) := by
  unfold cls bad at h
  split at h
  · cases h
  · split at h
    · cases h
    · split at h
      · omega
      · split at h
        · cases h
        · split at h
          · cases h
          · split at h <;> cases h
/-- the first byte of a control -/
theorem ctl_byte {s : ByteArray} {d : Clu} (hd : d ∈ cl s) (hk : d.k = 2) {c : UInt8} {r : List UInt8} (hs : sub s d.fr d.to = c :: r) : c.toNat < 32 ∨ c.toNat = 127 ∨ 128 ≤ c.toNat := by
  obtain ⟨h1, h2⟩ := cl_span hd
  have hb : bt s d.fr = c.toNat := by
    have e : (sub s d.fr d.to)[0]? = some c := by rw [hs]; rfl
    rw [bt_eq]
    have e2 : (sub s d.fr d.to)[0]? = s.data.toList[d.fr]? := by
      unfold sub
      rw [ByteArray.data_extract, Array.toList_extract, List.extract_eq_take_drop, List.getElem?_take, if_pos (by omega), List.getElem?_drop, Nat.add_zero]
    rw [← e2, e]; rfl
  rcases cl_k s d hd with h | h
  · rw [hk] at h
    by_cases hlt : bt s d.fr < 128
    · have := (ch_ascii hlt).1
      rw [this] at h
      have := cls_two h.symm
      omega
    · omega
  · omega
end Go.Proofs.YtfjoklbiocniiaaDoor
