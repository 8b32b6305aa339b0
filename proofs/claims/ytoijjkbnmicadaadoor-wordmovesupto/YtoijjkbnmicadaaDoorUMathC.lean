/-
  More plain facts: from a boundary to the next one and back; what Down, Up, Next, Prev answer at a boundary, within a unit, and out of range. No program is named here; no conditions.
-/
import Derived.Test.YtoijjkbnmicadaaDoorUMath
namespace Bod
open Go Go.Lib

theorem dnF_of {s : ByteArray} {i d : Nat} (hi : i < s.size) (h : Dn s i d) : dnF s i = d := (dnF_Dn hi).uniq h
theorem downZ_in {s : ByteArray} {i d : Nat} (hi : i < s.size) (h : Dn s i d) : downZ s i = d := by
  unfold downZ
  by_cases h0 : (i : Int) ≤ 0
  · rw [if_pos h0]; have := h.le; omega
  · rw [if_neg h0, if_neg (by omega), Int.toNat_natCast, dnF_of hi h]
theorem nextZ_in {s : ByteArray} {i d : Nat} (hi : i < s.size) (h : Dn s i d) : nextZ s i = ((d + sz s d : Nat) : Int) := by
  unfold nextZ
  rw [if_neg (by omega), if_neg (by omega), Int.toNat_natCast, dnF_of hi h]; omega
theorem Dn.self {s : ByteArray} {a : Nat} (ha : B s a) (hi : a < s.size) : Dn s a a := ⟨Nat.le_refl _, ha, by have := sz_pos hi; omega⟩
theorem Dn.within {s : ByteArray} {a k : Nat} (ha : B s a) (h1 : a ≤ k) (h2 : k < a + sz s a) : Dn s k a := ⟨h1, ha, h2⟩
theorem next_B {s : ByteArray} {a : Nat} (ha : B s a) (hi : a < s.size) : nextZ s a = ((a + sz s a : Nat) : Int) := nextZ_in hi (Dn.self ha hi)
theorem prev_B {s : ByteArray} {a : Nat} (ha : B s a) (hi : a < s.size) : prevZ s ((a + sz s a : Nat) : Int) = a := by
  have h1 := sz_pos hi
  have h2 := sz_in hi
  unfold prevZ
  rw [if_neg (by omega), show (((a + sz s a : Nat) : Int) - 1) = ((a + sz s a - 1 : Nat) : Int) by omega]
  exact downZ_in (by omega) (Dn.within ha (by omega) (by omega))
theorem bd_B {s : ByteArray} {a : Nat} (ha : B s a) : bdZ s a = true := (bdZ_iff s a).2 ha
theorem bd_in {s : ByteArray} {a k : Nat} (h1 : a < k) (h2 : k < a + sz s a) : bdZ s k = false := by
  cases h : bdZ s k with
  | false => rfl
  | true => exact absurd ((bdZ_iff s k).1 h) (not_B h1 h2)
theorem down_in' {s : ByteArray} {a k : Nat} (ha : B s a) (hi : a < s.size) (h1 : a ≤ k) (h2 : k < a + sz s a) : downZ s k = a := by
  have := sz_in hi
  exact downZ_in (by omega) (Dn.within ha h1 h2)
theorem next_in' {s : ByteArray} {a k : Nat} (ha : B s a) (hi : a < s.size) (h1 : a ≤ k) (h2 : k < a + sz s a) : nextZ s k = ((a + sz s a : Nat) : Int) := by
  have := sz_in hi
  exact nextZ_in (by omega) (Dn.within ha h1 h2)
theorem up_in' {s : ByteArray} {a k : Nat} (ha : B s a) (hi : a < s.size) (h1 : a < k) (h2 : k < a + sz s a) : upZ s k = ((a + sz s a : Nat) : Int) := by
  unfold upZ
  rw [bd_in h1 h2]
  exact next_in' ha hi (by omega) h2
theorem prev_in' {s : ByteArray} {a k : Nat} (ha : B s a) (hi : a < s.size) (h1 : a < k) (h2 : k < a + sz s a) : prevZ s k = a := by
  unfold prevZ
  rw [if_neg (by omega), show ((k : Int) - 1) = ((k - 1 : Nat) : Int) by omega]
  exact down_in' ha hi (by omega) (by omega)
theorem next_end (s : ByteArray) : nextZ s s.size = s.size := by
  unfold nextZ
  rw [if_neg (by omega), if_pos (by omega)]
theorem prev_zero (s : ByteArray) : prevZ s 0 = 0 := rfl

/-- what the law asks of Down and Up within range -/
theorem updown_in (s : ByteArray) (i : Nat) (hi : i ≤ s.size) : downZ s i ≤ i ∧ (i : Int) ≤ upZ s i ∧ bdZ s i = decide (downZ s i = upZ s i) ∧ downZ s (upZ s i) = upZ s i ∧ upZ s (downZ s i) = downZ s i := by
  by_cases hb : B s i
  · have h1 := bd_B hb
    have h2 : downZ s i = i := by simpa [bdZ] using h1
    have h3 : upZ s i = i := by unfold upZ; rw [h1]; rfl
    rw [h2, h3, h1, h2]
    simp
  · have hlt : i < s.size := by
      by_cases e : i = s.size
      · subst e; exact absurd (B_end s) hb
      · omega
    obtain ⟨d, hd⟩ : ∃ d, dnF s i = d := ⟨_, rfl⟩
    have D := dnF_Dn hlt
    rw [hd] at D
    have hdl := D.le
    have hdg := D.gt
    have hne : d ≠ i := fun e => hb (e ▸ D.bd)
    have hds : d < s.size := by omega
    have e1 := down_in' D.bd hds hdl hdg
    have e2 := up_in' D.bd hds (by omega) hdg
    have e3 := bd_B (B_next D.bd hds)
    have e4 : downZ s ((d + sz s d : Nat) : Int) = ((d + sz s d : Nat) : Int) := by simpa [bdZ] using e3
    have e5 : upZ s (d : Int) = d := by unfold upZ; rw [bd_B D.bd]; rfl
    rw [e1, e2, bd_in (by omega) hdg, e4, e5]
    refine ⟨by omega, by omega, ?_, rfl, rfl⟩
    rw [eq_comm, decide_eq_false_iff_not]; omega
theorem updown_out (s : ByteArray) (i : Int) (h : i < 0 ∨ (s.size : Int) < i) : bdZ s i = false ∧ downZ s i = upZ s i ∧ (downZ s i = 0 ∨ downZ s i = s.size) := by
  have hb := bdZ_out s i h
  refine ⟨hb, ?_, ?_⟩
  · unfold upZ
    rw [hb]
    unfold downZ nextZ
    rcases h with h | h
    · rw [if_pos (by omega), if_neg (by simp), if_pos h]
    · rw [if_neg (by omega), if_pos (by omega), if_neg (by simp), if_neg (by omega), if_pos (by omega)]
  · unfold downZ
    rcases h with h | h
    · rw [if_pos (by omega)]; exact .inl rfl
    · rw [if_neg (by omega), if_pos (by omega)]; exact .inr rfl
end Bod
