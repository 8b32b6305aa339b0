/-
  Plain facts on units of bytes: where a unit begins, how long it is, which offsets are boundaries. No program is named here; no conditions.
-/
import Derived.Lib.DecodeNEq
namespace Bod
open Go Go.Lib

def bt (s : ByteArray) (k : Nat) : Nat := (s.get! k).toNat
def un (s : ByteArray) (i : Nat) : Nat × Nat := decodeN (s.size - i) (bt s i) (bt s (i + 1)) (bt s (i + 2)) (bt s (i + 3))
def sz (s : ByteArray) (i : Nat) : Nat := (un s i).2
def ch (s : ByteArray) (i : Nat) : Int := if (un s i).1 = 65533 ∧ (un s i).2 = 1 then -1 else ((un s i).1 : Int)

theorem dec_sz (n b0 b1 b2 b3 : Nat) (hn : 1 ≤ n) : 1 ≤ (decodeN n b0 b1 b2 b3).2 ∧ (decodeN n b0 b1 b2 b3).2 ≤ 4 ∧ (decodeN n b0 b1 b2 b3).2 ≤ n := by
  unfold decodeN
  repeat' split
  all_goals (simp only; omega)
theorem dec_rune (n b0 b1 b2 b3 : Nat) : (decodeN n b0 b1 b2 b3).1 ≤ 1114111 := by
  unfold decodeN
  repeat' split
  all_goals (simp only; omega)
theorem dec_cont (n b0 b1 b2 b3 : Nat) : (2 ≤ (decodeN n b0 b1 b2 b3).2 → b1 / 64 = 2) ∧ (3 ≤ (decodeN n b0 b1 b2 b3).2 → b2 / 64 = 2) ∧ (4 ≤ (decodeN n b0 b1 b2 b3).2 → b3 / 64 = 2) := by
  unfold decodeN
  repeat' split
  all_goals (simp only; omega)
theorem dec_in (n b0 b1 b2 b3 : Nat) (h : b0 / 64 = 2) : (decodeN n b0 b1 b2 b3).2 = 1 := by
  unfold decodeN
  repeat' split
  all_goals first | rfl | (exfalso; omega)

theorem sz_pos {s : ByteArray} {i : Nat} (h : i < s.size) : 1 ≤ sz s i := (dec_sz _ _ _ _ _ (by omega)).1
theorem sz_le {s : ByteArray} {i : Nat} (h : i < s.size) : sz s i ≤ 4 := (dec_sz _ _ _ _ _ (by omega)).2.1
theorem sz_in {s : ByteArray} {i : Nat} (h : i < s.size) : i + sz s i ≤ s.size := by
  have := (dec_sz (s.size - i) (bt s i) (bt s (i + 1)) (bt s (i + 2)) (bt s (i + 3)) (by omega)).2.2
  unfold sz un; omega
theorem ch_bd (s : ByteArray) (i : Nat) : -1 ≤ ch s i ∧ ch s i ≤ 1114111 := by
  have := dec_rune (s.size - i) (bt s i) (bt s (i + 1)) (bt s (i + 2)) (bt s (i + 3))
  unfold ch un
  split <;> omega
/-- a byte within an encoding is 80 to BF -/
theorem cont {s : ByteArray} {i k : Nat} (h1 : i < k) (h2 : k < i + sz s i) : bt s k / 64 = 2 := by
  obtain ⟨c1, c2, c3⟩ := dec_cont (s.size - i) (bt s i) (bt s (i + 1)) (bt s (i + 2)) (bt s (i + 3))
  have h4 : sz s i ≤ 4 := by
    unfold sz un decodeN
    repeat' split
    all_goals (simp only; omega)
  have e : sz s i = (decodeN (s.size - i) (bt s i) (bt s (i + 1)) (bt s (i + 2)) (bt s (i + 3))).2 := rfl
  rw [← e] at c1 c2 c3
  have : k = i + 1 ∨ k = i + 2 ∨ k = i + 3 := by omega
  rcases this with rfl | rfl | rfl
  · exact c1 (by omega)
  · exact c2 (by omega)
  · exact c3 (by omega)
theorem sz_cont {s : ByteArray} {k : Nat} (h : bt s k / 64 = 2) : sz s k = 1 := dec_in _ _ _ _ _ h

/-- j is a boundary: no unit that begins ahead of it reaches over it -/
def B (s : ByteArray) (j : Nat) : Prop := j ≤ s.size ∧ ∀ i, i < j → i + sz s i ≤ j

theorem B_zero (s : ByteArray) : B s 0 := ⟨by omega, fun i h => by omega⟩
theorem B_end (s : ByteArray) : B s s.size := ⟨Nat.le_refl _, fun _ h => sz_in h⟩
theorem B_next {s : ByteArray} {j : Nat} (h : B s j) (hj : j < s.size) : B s (j + sz s j) := by
  refine ⟨sz_in hj, fun i hi => ?_⟩
  by_cases h1 : i < j
  · have := h.2 i h1; omega
  · by_cases h2 : i = j
    · subst h2; omega
    · have := sz_cont (cont (s := s) (i := j) (k := i) (by omega) hi); omega
theorem not_B {s : ByteArray} {i k : Nat} (h1 : i < k) (h2 : k < i + sz s i) : ¬ B s k := fun h => by have := h.2 i h1; omega
theorem lead_B {s : ByteArray} {i : Nat} (hi : i < s.size) (h : 2 ≤ sz s i) : B s i := by
  refine ⟨by omega, fun k hk => ?_⟩
  by_cases c : i < k + sz s k
  · have := sz_cont (cont (s := s) (i := k) (k := i) hk c); omega
  · omega

/-- d is the greatest boundary that is not above i (i within the text) -/
structure Dn (s : ByteArray) (i d : Nat) : Prop where
  le : d ≤ i
  bd : B s d
  gt : i < d + sz s d
theorem Dn.uniq {s : ByteArray} {i d e : Nat} (h : Dn s i d) (k : Dn s i e) : d = e := by
  have a := h.le; have b := h.gt; have c := k.le; have g := k.gt
  by_cases h1 : d < e
  · exact absurd k.bd (not_B h1 (by omega))
  · by_cases h2 : e < d
    · exact absurd h.bd (not_B h2 (by omega))
    · omega

/-- what Down looks for: three bytes back -/
def dnF (s : ByteArray) (i : Nat) : Nat :=
  if 1 ≤ i ∧ i < i - 1 + sz s (i - 1) then i - 1
  else if 2 ≤ i ∧ i < i - 2 + sz s (i - 2) then i - 2
  else if 3 ≤ i ∧ i < i - 3 + sz s (i - 3) then i - 3
  else i
theorem dnF_Dn {s : ByteArray} {i : Nat} (hi : i < s.size) : Dn s i (dnF s i) := by
  unfold dnF
  split
  · rename_i h
    exact ⟨by omega, lead_B (by omega) (by omega), h.2⟩
  · split
    · rename_i h
      exact ⟨by omega, lead_B (by omega) (by omega), h.2⟩
    · split
      · rename_i h
        exact ⟨by omega, lead_B (by omega) (by omega), h.2⟩
      · rename_i h1 h2 h3
        refine ⟨Nat.le_refl _, ⟨by omega, fun k hk => ?_⟩, by have := sz_pos hi; omega⟩
        have h4 := sz_le (s := s) (i := k) (by omega)
        by_cases c1 : k = i - 1
        · subst c1; omega
        · by_cases c2 : k = i - 2
          · subst c2; omega
          · by_cases c3 : k = i - 3
            · subst c3; omega
            · omega
theorem dnF_le {s : ByteArray} {i : Nat} : dnF s i ≤ i := by unfold dnF; repeat' split
                                                             all_goals omega
theorem dnF_B {s : ByteArray} {i : Nat} (hi : i < s.size) : dnF s i = i ↔ B s i :=
  ⟨fun h => by have := (dnF_Dn hi).bd; rwa [h] at this, fun h => (dnF_Dn hi).uniq ⟨Nat.le_refl _, h, by have := sz_pos hi; omega⟩⟩

/-- Down, Boundary, Next, Up, Prev of any number -/
def downZ (s : ByteArray) (i : Int) : Int := if i ≤ 0 then 0 else if (s.size : Int) ≤ i then s.size else dnF s i.toNat
def bdZ (s : ByteArray) (i : Int) : Bool := decide (downZ s i = i)
def nextZ (s : ByteArray) (i : Int) : Int := if i < 0 then 0 else if (s.size : Int) ≤ i then s.size else dnF s i.toNat + sz s (dnF s i.toNat)
def upZ (s : ByteArray) (i : Int) : Int := if bdZ s i then i else nextZ s i
def prevZ (s : ByteArray) (i : Int) : Int := if i ≤ 0 then 0 else downZ s (i - 1)

theorem downZ_bd (s : ByteArray) (i : Int) : 0 ≤ downZ s i ∧ downZ s i ≤ s.size := by
  unfold downZ
  split
  · omega
  · split
    · omega
    · have := dnF_le (s := s) (i := i.toNat); omega
theorem bdZ_iff (s : ByteArray) (i : Nat) : bdZ s i = true ↔ B s i := by
  unfold bdZ downZ
  rw [decide_eq_true_eq]
  by_cases h0 : i = 0
  · subst h0; simp [B_zero]
  · rw [if_neg (by omega)]
    by_cases h1 : (s.size : Int) ≤ i
    · rw [if_pos h1]
      constructor
      · intro h
        have : i = s.size := by omega
        subst this; exact B_end s
      · intro h; have := h.1; omega
    · rw [if_neg h1, ← dnF_B (by omega)]
      simp only [Int.toNat_natCast]
      omega
theorem bdZ_out (s : ByteArray) (i : Int) (h : i < 0 ∨ (s.size : Int) < i) : bdZ s i = false := by
  have := downZ_bd s i
  unfold bdZ
  rw [decide_eq_false_iff_not]
  omega

/-! the offsets at which the units from i on begin -/
def offsF (s : ByteArray) : Nat → Nat → List Nat
  | 0, _ => []
  | f + 1, i => if i < s.size then i :: offsF s f (i + sz s i) else []
def offs (s : ByteArray) (i : Nat) : List Nat := offsF s (s.size - i) i
theorem offsF_enough (s : ByteArray) : ∀ (f g i : Nat), s.size - i ≤ f → s.size - i ≤ g → offsF s f i = offsF s g i
  | 0, 0, _, _, _ => rfl
  | 0, g + 1, i, h, _ => by simp only [offsF]; rw [if_neg (by omega)]
  | f + 1, 0, i, _, h => by simp only [offsF]; rw [if_neg (by omega)]
  | f + 1, g + 1, i, h1, h2 => by
    simp only [offsF]
    by_cases h : i < s.size
    · rw [if_pos h, if_pos h, offsF_enough s f g (i + sz s i) (by have := sz_pos h; omega) (by have := sz_pos h; omega)]
    · rw [if_neg h, if_neg h]
theorem offs_step {s : ByteArray} {i : Nat} (h : i < s.size) : offs s i = i :: offs s (i + sz s i) := by
  unfold offs
  rw [offsF_enough s (s.size - i) (s.size - i + 1) i (Nat.le_refl _) (by omega)]
  simp only [offsF]
  rw [if_pos h, offsF_enough s (s.size - i) (s.size - (i + sz s i)) _ (by omega) (Nat.le_refl _)]
theorem offs_end {s : ByteArray} {i : Nat} (h : s.size ≤ i) : offs s i = [] := by
  unfold offs
  have : s.size - i = 0 := by omega
  rw [this]; rfl
theorem offs_len (s : ByteArray) : ∀ (f i : Nat), s.size - i ≤ f → (offs s i).length ≤ s.size - i
  | 0, i, h => by rw [offs_end (by omega)]; simp
  | f + 1, i, h => by
    by_cases hi : i < s.size
    · rw [offs_step hi]
      have h1 := sz_pos hi
      have h2 := sz_in hi
      have := offs_len s f (i + sz s i) (by omega)
      simp only [List.length_cons]; omega
    · rw [offs_end (by omega)]; simp
theorem offs_len_le (s : ByteArray) : (offs s 0).length ≤ s.size := by have := offs_len s s.size 0 (by omega); omega
end Bod
