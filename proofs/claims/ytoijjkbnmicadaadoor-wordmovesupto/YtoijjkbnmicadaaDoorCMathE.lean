/-
  Whether an offset is a cluster's boundary hangs on four bytes at each side: plain facts. No program in this text; no conditions.
-/
import Derived.Test.YtoijjkbnmicadaaDoorCMathD
import Derived.Test.YtoijjkbnmicadaaDoorUMathG
import Derived.Test.YtoijjkbnmicadaaDoorUMathB
namespace Go.Proofs.YtoijjkbnmicadaaDoor
open Bod Wid

theorem prev_dn {s : ByteArray} {i : Nat} (h0 : 0 < i) (h1 : i < s.size) : prevZ s i = dnF s (i - 1) := by
  unfold prevZ
  rw [if_neg (by omega), show ((i : Int) - 1) = ((i - 1 : Nat) : Int) by omega]
  exact downZ_in (by omega) (dnF_Dn (by omega))

theorem cb_near {s t : ByteArray} {i j : Nat} (h0 : 0 < i) (h1 : i < s.size) (h2 : 0 < j) (h3 : j < t.size) (hm : min i 4 = min j 4) (hu : ∀ d, d ≤ 4 → d ≤ i → un s (i - d) = un t (j - d)) : cbZ s i = cbZ t j := by
  have hz : ∀ d, d ≤ 4 → d ≤ i → sz s (i - d) = sz t (j - d) := fun d a b => by unfold sz; rw [hu d a b]
  have hc : ∀ d, d ≤ 4 → d ≤ i → ch s (i - d) = ch t (j - d) := fun d a b => by unfold ch; rw [hu d a b]
  have hb : B s i ↔ B t j := by
    rw [B_iff3 (by omega), B_iff3 (by omega)]
    constructor
    · intro h k hk hk3
      have := h (i - (j - k)) (by omega) (by omega)
      rw [hz (j - k) (by omega) (by omega), show j - (j - k) = k by omega] at this
      omega
    · intro h k hk hk3
      have := h (j - (i - k)) (by omega) (by omega)
      rw [← hz (i - k) (by omega) (by omega), show i - (i - k) = k by omega] at this
      omega
  have hbz : bdZ s i = bdZ t j := by
    rw [Bool.eq_iff_iff, bdZ_iff, bdZ_iff]; exact hb
  have he : ∃ e, e ≤ 4 ∧ e ≤ i ∧ dnF s (i - 1) = i - e ∧ dnF t (j - 1) = j - e := by
    have z2 : 2 ≤ i → sz s (i - 1 - 1) = sz t (j - 1 - 1) := fun h => hz 2 (by omega) h
    have z3 : 3 ≤ i → sz s (i - 1 - 2) = sz t (j - 1 - 2) := fun h => hz 3 (by omega) h
    have z4 : 4 ≤ i → sz s (i - 1 - 3) = sz t (j - 1 - 3) := fun h => hz 4 (by omega) h
    unfold dnF
    by_cases c1 : 1 ≤ i - 1 ∧ i - 1 < i - 1 - 1 + sz s (i - 1 - 1)
    · have := z2 (by omega)
      rw [if_pos c1, if_pos (by omega)]
      exact ⟨2, by omega, by omega, by omega, by omega⟩
    · have d1 : ¬ (1 ≤ j - 1 ∧ j - 1 < j - 1 - 1 + sz t (j - 1 - 1)) := fun h => by have := z2 (by omega); omega
      rw [if_neg c1, if_neg d1]
      by_cases c2 : 2 ≤ i - 1 ∧ i - 1 < i - 1 - 2 + sz s (i - 1 - 2)
      · have := z3 (by omega)
        rw [if_pos c2, if_pos (by omega)]
        exact ⟨3, by omega, by omega, by omega, by omega⟩
      · have d2 : ¬ (2 ≤ j - 1 ∧ j - 1 < j - 1 - 2 + sz t (j - 1 - 2)) := fun h => by have := z3 (by omega); omega
        rw [if_neg c2, if_neg d2]
        by_cases c3 : 3 ≤ i - 1 ∧ i - 1 < i - 1 - 3 + sz s (i - 1 - 3)
        · have := z4 (by omega)
          rw [if_pos c3, if_pos (by omega)]
          exact ⟨4, by omega, by omega, by omega, by omega⟩
        · have d3 : ¬ (3 ≤ j - 1 ∧ j - 1 < j - 1 - 3 + sz t (j - 1 - 3)) := fun h => by have := z4 (by omega); omega
          rw [if_neg c3, if_neg d3]
          exact ⟨1, by omega, by omega, by omega, by omega⟩
  obtain ⟨e, e1, e2, e3, e4⟩ := he
  have c0 := hc 0 (by omega) (by omega)
  unfold cbZ
  rw [hbz, prev_dn h0 h1, prev_dn h2 h3, e3, e4, Int.toNat_natCast, Int.toNat_natCast, Int.toNat_natCast, Int.toNat_natCast, hc e e1 e2, decide_eq_false (by omega), decide_eq_false (by omega), decide_eq_false (by omega), decide_eq_false (by omega)]
  simp only [Nat.sub_zero] at c0
  rw [c0]

theorem un_left4 (a b : ByteArray) (i : Nat) (h : i + 4 ≤ a.size) : un (a ++ b) i = un a i := by
  unfold un
  rw [size_app, bt_append, bt_append, bt_append, bt_append, if_pos (by omega), if_pos (by omega), if_pos (by omega), if_pos (by omega)]
  exact dec_cong (by omega) (by omega) (by omega) (fun _ => rfl) (fun _ => rfl) (fun _ => rfl)

/-- what the law asks: of the piece, and of the piece between others -/
theorem near_piece {a : ByteArray} {i : Nat} (h0 : 0 < i) (h1 : i < a.size) : cbZ (a.extract (i - 4) (min a.size (i + 4))) ((i - (i - 4) : Nat) : Int) = cbZ a i := by
  have hs := size_extract a (i - 4) (min a.size (i + 4)) (by omega)
  refine cb_near (by omega) (by rw [hs]; omega) h0 h1 (by omega) fun d h2 h3 => ?_
  rw [un_extract a (i - 4) (min a.size (i + 4)) (i - (i - 4) - d) (by omega) (by omega) (by omega)]
  congr 1
  omega
theorem near_between {a b c : ByteArray} {i : Nat} (h0 : 4 < i) (h1 : i + 4 < a.size) : cbZ (b ++ a.extract (i - 4) (i + 4) ++ c) ((b.size + 4 : Nat) : Int) = cbZ a i := by
  have hs := size_extract a (i - 4) (i + 4) (by omega)
  refine cb_near (by omega) (by rw [size_app, size_app, hs]; omega) (by omega) (by omega) (by omega) fun d h2 h3 => ?_
  rw [un_left4 _ _ _ (by rw [size_app, hs]; omega), show b.size + 4 - d = b.size + (4 - d) by omega, un_right,
    un_extract a (i - 4) (i + 4) (4 - d) (by omega) (by omega) (by omega)]
  congr 1
  omega
end Go.Proofs.YtoijjkbnmicadaaDoor
