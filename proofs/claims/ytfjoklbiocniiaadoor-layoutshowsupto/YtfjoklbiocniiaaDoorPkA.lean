/-
  Plain facts on units of bytes, encodings and boundaries, text by text. No program is walked in this text; no conditions.
-/
import Derived.Lib.DecodeNEq
import Derived.Lib.Strings
import Derived.Lib.RuneBytes
import Derived.Lib.Small
namespace Bod
open Go Go.Lib

def bt (s : ByteArray) (k : Nat) : Nat := (s.get! k).toNat
def un (s : ByteArray) (i : Nat) : Nat × Nat := decodeN (s.size - i) (bt s i) (bt s (i + 1)) (bt s (i + 2)) (bt s (i + 3))
def sz (s : ByteArray) (i : Nat) : Nat := (un s i).2
def ch (s : ByteArray) (i : Nat) : Int := if (un s i).1 = 65533 ∧ (un s i).2 = 1 then -1 else ((un s i).1 : Int)

theorem dec_sz (n b0 b1 b2 b3 : Nat) (hn : 1 ≤ n) : 1 ≤ (decodeN n b0 b1 b2 b3).2 ∧ (decodeN n b0 b1 b2 b3).2 ≤ 4 ∧ (decodeN n b0 b1 b2 b3).2 ≤ n := by
  unfold decodeN
  repeat' split
  all_goals (simp only; omega)
theorem dec_rune (n b0 b1 b2 b3 : Nat) : (decodeN n b0 b1 b2 b3).1 ≤ 1114111 := by
  unfold decodeN
  repeat' split
  all_goals (simp only; omega)
theorem dec_cont (n b0 b1 b2 b3 : Nat) : (2 ≤ (decodeN n b0 b1 b2 b3).2 → b1 / 64 = 2) ∧ (3 ≤ (decodeN n b0 b1 b2 b3).2 → b2 / 64 = 2) ∧ (4 ≤ (decodeN n b0 b1 b2 b3).2 → b3 / 64 = 2) := by
  unfold decodeN
  repeat' split
  all_goals (simp only; omega)
theorem dec_in (n b0 b1 b2 b3 : Nat) (h : b0 / 64 = 2) : (decodeN n b0 b1 b2 b3).2 = 1 := by
  unfold decodeN
  repeat' split
  all_goals first | rfl | (exfalso; omega)

theorem sz_pos {s : ByteArray} {i : Nat} (h : i < s.size) : 1 ≤ sz s i := (dec_sz _ _ _ _ _ (by omega)).1
theorem sz_le {s : ByteArray} {i : Nat} (h : i < s.size) : sz s i ≤ 4 := (dec_sz _ _ _ _ _ (by omega)).2.1
theorem sz_in {s : ByteArray} {i : Nat} (h : i < s.size) : i + sz s i ≤ s.size := by
  have := (dec_sz (s.size - i) (bt s i) (bt s (i + 1)) (bt s (i + 2)) (bt s (i + 3)) (by omega)).2.2
  unfold sz un; omega
theorem ch_bd (s : ByteArray) (i : Nat) : -1 ≤ ch s i ∧ ch s i ≤ 1114111 := by
  have := dec_rune (s.size - i) (bt s i) (bt s (i + 1)) (bt s (i + 2)) (bt s (i + 3))
  unfold ch un
  split <;> omega
/-- a byte within an encoding is 80 to BF -/
theorem cont {s : ByteArray} {i k : Nat} (h1 : i < k) (h2 : k < i + sz s i) : bt s k / 64 = 2 := by
  obtain ⟨c1, c2, c3⟩ := dec_cont (s.size - i) (bt s i) (bt s (i + 1)) (bt s (i + 2)) (bt s (i + 3))
  have h4 : sz s i ≤ 4 := by
    unfold sz un decodeN
    repeat' split
    all_goals (simp only; omega)
  have e : sz s i = (decodeN (s.size - i) (bt s i) (bt s (i + 1)) (bt s (i + 2)) (bt s (i + 3))).2 := rfl
  rw [← e] at c1 c2 c3
  have : k = i + 1 ∨ k = i + 2 ∨ k = i + 3 := by omega
  rcases this with rfl | rfl | rfl
  · exact c1 (by omega)
  · exact c2 (by omega)
  · exact c3 (by omega)
theorem sz_cont {s : ByteArray} {k : Nat} (h : bt s k / 64 = 2) : sz s k = 1 := dec_in _ _ _ _ _ h

/-- j is a boundary: no unit that begins ahead of it reaches over it -/
def B (s : ByteArray) (j : Nat) : Prop := j ≤ s.size ∧ ∀ i, i < j → i + sz s i ≤ j

theorem B_zero (s : ByteArray) : B s 0 := ⟨by omega, fun i h => by omega⟩
theorem B_end (s : ByteArray) : B s s.size := ⟨Nat.le_refl _, fun _ h => sz_in h⟩
theorem B_next {s : ByteArray} {j : Nat} (h : B s j) (hj : j < s.size) : B s (j + sz s j) := by
  refine ⟨sz_in hj, fun i hi => ?_⟩
  by_cases h1 : i < j
  · have := h.2 i h1; omega
  · by_cases h2 : i = j
    · subst h2; omega
    · have := sz_cont (cont (s := s) (i := j) (k := i) (by omega) hi); omega
theorem not_B {s : ByteArray} {i k : Nat} (h1 : i < k) (h2 : k < i + sz s i) : ¬ B s k := fun h => by have := h.2 i h1; omega
theorem lead_B {s : ByteArray} {i : Nat} (hi : i < s.size) (h : 2 ≤ sz s i) : B s i := by
  refine ⟨by omega, fun k hk => ?_⟩
  by_cases c : i < k + sz s k
  · have := sz_cont (cont (s := s) (i := k) (k := i) hk c); omega
  · omega

/-- d is the greatest boundary that is not above i (i within the text) -/
structure Dn (s : ByteArray) (i d : Nat) : Prop where
  le : d ≤ i
  bd : B s d
  gt : i < d + sz s d
theorem Dn.uniq {s : ByteArray} {i d e : Nat} (h : Dn s i d) (k : Dn s i e) : d = e := by
  have a := h.le; have b := h.gt; have c := k.le; have g := k.gt
  by_cases h1 : d < e
  · exact absurd k.bd (not_B h1 (by omega))
  · by_cases h2 : e < d
    · exact absurd h.bd (not_B h2 (by omega))
    · omega

/-- what Down looks for: three bytes back -/
def dnF (s : ByteArray) (i : Nat) : Nat :=
  if 1 ≤ i ∧ i < i - 1 + sz s (i - 1) then i - 1
  else if 2 ≤ i ∧ i < i - 2 + sz s (i - 2) then i - 2
  else if 3 ≤ i ∧ i < i - 3 + sz s (i - 3) then i - 3
  else i
theorem dnF_Dn {s : ByteArray} {i : Nat} (hi : i < s.size) : Dn s i (dnF s i) := by
  unfold dnF
  split
  · rename_i h
    exact ⟨by omega, lead_B (by omega) (by omega), h.2⟩
  · split
    · rename_i h
      exact ⟨by omega, lead_B (by omega) (by omega), h.2⟩
    · split
      · rename_i h
        exact ⟨by omega, lead_B (by omega) (by omega), h.2⟩
      · rename_i h1 h2 h3
        refine ⟨Nat.le_refl _, ⟨by omega, fun k hk => ?_⟩, by have := sz_pos hi; omega⟩
        have h4 := sz_le (s := s) (i := k) (by omega)
        by_cases c1 : k = i - 1
        · subst c1; omega
        · by_cases c2 : k = i - 2
          · subst c2; omega
          · by_cases c3 : k = i - 3
            · subst c3; omega
            · omega
theorem dnF_le {s : ByteArray} {i : Nat} : dnF s i ≤ i := by unfold dnF; repeat' split
                                                             all_goals omega
theorem dnF_B {s : ByteArray} {i : Nat} (hi : i < s.size) : dnF s i = i ↔ B s i :=
  ⟨fun h => by have := (dnF_Dn hi).bd; rwa [h] at this, fun h => (dnF_Dn hi).uniq ⟨Nat.le_refl _, h, by have := sz_pos hi; omega⟩⟩

/-- Down, Boundary, Next, Up, Prev of any number -/
def downZ (s : ByteArray) (i : Int) : Int := if i ≤ 0 then 0 else if (s.size : Int) ≤ i then s.size else dnF s i.toNat
def bdZ (s : ByteArray) (i : Int) : Bool := decide (downZ s i = i)
def nextZ (s : ByteArray) (i : Int) : Int := if i < 0 then 0 else if (s.size : Int) ≤ i then s.size else dnF s i.toNat + sz s (dnF s i.toNat)
def upZ (s : ByteArray) (i : Int) : Int := if bdZ s i then i else nextZ s i
def prevZ (s : ByteArray) (i : Int) : Int := if i ≤ 0 then 0 else downZ s (i - 1)

theorem downZ_bd (s : ByteArray) (i : Int) : 0 ≤ downZ s i ∧ downZ s i ≤ s.size := by
  unfold downZ
  split
  · omega
  · split
    · omega
    · have := dnF_le (s := s) (i := i.toNat); omega
theorem bdZ_iff (s : ByteArray) (i : Nat) : bdZ s i = true ↔ B s i := by
  unfold bdZ downZ
  rw [decide_eq_true_eq]
  by_cases h0 : i = 0
  · subst h0; simp [B_zero]
  · rw [if_neg (by omega)]
    by_cases h1 : (s.size : Int) ≤ i
    · rw [if_pos h1]
      constructor
      · intro h
        have : i = s.size := by omega
        subst this; exact B_end s
      · intro h; have := h.1; omega
    · rw [if_neg h1, ← dnF_B (by omega)]
      simp only [Int.toNat_natCast]
      omega
theorem bdZ_out (s : ByteArray) (i : Int) (h : i < 0 ∨ (s.size : Int) < i) : bdZ s i = false := by
  have := downZ_bd s i
  unfold bdZ
  rw [decide_eq_false_iff_not]
  omega

/-! the offsets at which the units from i on begin -/
def offsF (s : ByteArray) : Nat → Nat → List Nat
  | 0, _ => []
  | f + 1, i => if i < s.size then i :: offsF s f (i + sz s i) else []
def offs (s : ByteArray) (i : Nat) : List Nat := offsF s (s.size - i) i
theorem offsF_enough (s : ByteArray) : ∀ (f g i : Nat), s.size - i ≤ f → s.size - i ≤ g → offsF s f i = offsF s g i
  | 0, 0, _, _, _ => rfl
  | 0, g + 1, i, h, _ => by simp only [offsF]; rw [if_neg (by omega)]
  | f + 1, 0, i, _, h => by simp only [offsF]; rw [if_neg (by omega)]
  | f + 1, g + 1, i, h1, h2 => by
    simp only [offsF]
    by_cases h : i < s.size
    · rw [if_pos h, if_pos h, offsF_enough s f g (i + sz s i) (by have := sz_pos h; omega) (by have := sz_pos h; omega)]
    · rw [if_neg h, if_neg h]
theorem offs_step {s : ByteArray} {i : Nat} (h : i < s.size) : offs s i = i :: offs s (i + sz s i) := by
  unfold offs
  rw [offsF_enough s (s.size - i) (s.size - i + 1) i (Nat.le_refl _) (by omega)]
  simp only [offsF]
  rw [if_pos h, offsF_enough s (s.size - i) (s.size - (i + sz s i)) _ (by omega) (Nat.le_refl _)]
theorem offs_end {s : ByteArray} {i : Nat} (h : s.size ≤ i) : offs s i = [] := by
  unfold offs
  have : s.size - i = 0 := by omega
  rw [this]; rfl
theorem offs_len (s : ByteArray) : ∀ (f i : Nat), s.size - i ≤ f → (offs s i).length ≤ s.size - i
  | 0, i, h => by rw [offs_end (by omega)]; simp
  | f + 1, i, h => by
    by_cases hi : i < s.size
    · rw [offs_step hi]
      have h1 := sz_pos hi
      have h2 := sz_in hi
      have := offs_len s f (i + sz s i) (by omega)
      simp only [List.length_cons]; omega
    · rw [offs_end (by omega)]; simp
theorem offs_len_le (s : ByteArray) : (offs s 0).length ≤ s.size := by have := offs_len s s.size 0 (by omega); omega
end Bod
namespace Bod
open Go Go.Lib

theorem bt_eq (s : ByteArray) (k : Nat) : bt s k = (s.data.toList[k]?.getD 0).toNat := by
  unfold bt
  cases s with
  | mk d =>
    show (d[k]!).toNat = _
    rw [getElem!_def, Array.getElem?_toList]
    cases d[k]? <;> rfl
theorem bt_out {s : ByteArray} {k : Nat} (h : s.size ≤ k) : bt s k = 0 := by
  rw [bt_eq, List.getElem?_eq_none (by rw [← Lib.size_eq]; exact h)]; rfl
theorem bt_extract (s : ByteArray) (a b k : Nat) : bt (s.extract a b) k = if a + k < b then bt s (a + k) else 0 := by
  rw [bt_eq, Lib.extract_data]
  by_cases h : a + k < b
  · rw [if_pos h, List.getElem?_take_of_lt (by omega), List.getElem?_drop, bt_eq]
  · rw [if_neg h, List.getElem?_take_eq_none (by omega)]; rfl
theorem size_extract (s : ByteArray) (a b : Nat) (hb : b ≤ s.size) : (s.extract a b).size = b - a := by simp; omega

theorem dec_cong {n m b0 b1 b2 b3 c1 c2 c3 : Nat} (h1 : 1 < n ↔ 1 < m) (h2 : 2 < n ↔ 2 < m) (h3 : 3 < n ↔ 3 < m) (e1 : 1 < n → b1 = c1) (e2 : 2 < n → b2 = c2) (e3 : 3 < n → b3 = c3) :
    decodeN n b0 b1 b2 b3 = decodeN m b0 c1 c2 c3 := by
  by_cases g1 : 1 < n
  · obtain rfl := e1 g1
    have g1' := h1.1 g1
    by_cases g2 : 2 < n
    · obtain rfl := e2 g2
      have g2' := h2.1 g2
      by_cases g3 : 3 < n
      · obtain rfl := e3 g3
        have g3' := h3.1 g3
        simp only [decodeN, g1, g1', g2, g2', g3, g3', true_and]
      · have g3' : ¬ 3 < m := fun h => g3 (h3.2 h)
        simp only [decodeN, g1, g1', g2, g2', g3, g3', true_and, false_and, and_false, if_false]
    · have g2' : ¬ 2 < m := fun h => g2 (h2.2 h)
      have g3 : ¬ 3 < n := by omega
      have g3' : ¬ 3 < m := by omega
      simp only [decodeN, g1, g1', g2, g2', g3, g3', true_and, false_and, and_false, if_false]
  · have g1' : ¬ 1 < m := fun h => g1 (h1.2 h)
    have g2 : ¬ 2 < n := by omega
    have g2' : ¬ 2 < m := by omega
    have g3 : ¬ 3 < n := by omega
    have g3' : ¬ 3 < m := by omega
    simp only [decodeN, g1, g1', g2, g2', g3, g3', false_and, and_false, if_false]

/-- a unit of a piece is the text's, where the piece goes on for four bytes or to the text's end -/
theorem un_extract (s : ByteArray) (a b j : Nat) (hb : b ≤ s.size) (hj : a + j < b) (h : a + j + 4 ≤ b ∨ b = s.size) : un (s.extract a b) j = un s (a + j) := by
  unfold un
  rw [size_extract s a b hb, bt_extract s a b j, bt_extract s a b _, bt_extract s a b _, bt_extract s a b _, if_pos hj]
  refine dec_cong (by omega) (by omega) (by omega) (fun g => ?_) (fun g => ?_) (fun g => ?_)
  · rw [if_pos (by omega)]; rfl
  · rw [if_pos (by omega)]; rfl
  · rw [if_pos (by omega)]; rfl
theorem sz_extract (s : ByteArray) (a b j : Nat) (hb : b ≤ s.size) (hj : a + j < b) (h : a + j + 4 ≤ b ∨ b = s.size) : sz (s.extract a b) j = sz s (a + j) := by
  unfold sz; rw [un_extract s a b j hb hj h]
theorem ch_extract (s : ByteArray) (a b j : Nat) (hb : b ≤ s.size) (hj : a + j < b) (h : a + j + 4 ≤ b ∨ b = s.size) : ch (s.extract a b) j = ch s (a + j) := by
  unfold ch; rw [un_extract s a b j hb hj h]

theorem B_iff3 {s : ByteArray} {i : Nat} (hi : i ≤ s.size) : B s i ↔ ∀ k, k < i → i ≤ k + 3 → k + sz s k ≤ i := by
  constructor
  · exact fun h k hk _ => h.2 k hk
  · refine fun h => ⟨hi, fun k hk => ?_⟩
    by_cases c : i ≤ k + 3
    · exact h k hk c
    · have := sz_le (s := s) (i := k) (by omega); omega

theorem B_local (s : ByteArray) (i : Nat) (hi : i ≤ s.size) : B (s.extract (i - 3) (min (i + 3) s.size)) (i - (i - 3)) ↔ B s i := by
  have hm : min (i + 3) s.size ≤ s.size := Nat.min_le_right _ _
  rw [B_iff3 (by rw [size_extract _ _ _ hm]; omega), B_iff3 hi]
  constructor
  · intro h k hk h3
    have := h (k - (i - 3)) (by omega) (by omega)
    rw [sz_extract s _ _ _ hm (by omega) (by omega), show i - 3 + (k - (i - 3)) = k by omega] at this
    omega
  · intro h j hj _
    have := h (i - 3 + j) (by omega) (by omega)
    rw [sz_extract s _ _ _ hm (by omega) (by omega)]
    omega
theorem bd_local (s : ByteArray) (i : Nat) (hi : i ≤ s.size) : bdZ (s.extract (i - 3) (min (i + 3) s.size)) ((i - (i - 3) : Nat) : Int) = bdZ s i := by
  rw [Bool.eq_iff_iff, bdZ_iff, bdZ_iff]
  exact B_local s i hi
end Bod
namespace Bod
open Go Go.Lib

theorem dnF_of {s : ByteArray} {i d : Nat} (hi : i < s.size) (h : Dn s i d) : dnF s i = d := (dnF_Dn hi).uniq h
theorem downZ_in {s : ByteArray} {i d : Nat} (hi : i < s.size) (h : Dn s i d) : downZ s i = d := by
  unfold downZ
  by_cases h0 : (i : Int) ≤ 0
  · rw [if_pos h0]; have := h.le; omega
  · rw [if_neg h0, if_neg (by omega), Int.toNat_natCast, dnF_of hi h]
theorem nextZ_in {s : ByteArray} {i d : Nat} (hi : i < s.size) (h : Dn s i d) : nextZ s i = ((d + sz s d : Nat) : Int) := by
  unfold nextZ
  rw [if_neg (by omega), if_neg (by omega), Int.toNat_natCast, dnF_of hi h]; omega
theorem Dn.self {s : ByteArray} {a : Nat} (ha : B s a) (hi : a < s.size) : Dn s a a := ⟨Nat.le_refl _, ha, by have := sz_pos hi; omega⟩
theorem Dn.within {s : ByteArray} {a k : Nat} (ha : B s a) (h1 : a ≤ k) (h2 : k < a + sz s a) : Dn s k a := ⟨h1, ha, h2⟩
theorem next_B {s : ByteArray} {a : Nat} (ha : B s a) (hi : a < s.size) : nextZ s a = ((a + sz s a : Nat) : Int) := nextZ_in hi (Dn.self ha hi)
theorem prev_B {s : ByteArray} {a : Nat} (ha : B s a) (hi : a < s.size) : prevZ s ((a + sz s a : Nat) : Int) = a := by
  have h1 := sz_pos hi
  have h2 := sz_in hi
  unfold prevZ
  rw [if_neg (by omega), show (((a + sz s a : Nat) : Int) - 1) = ((a + sz s a - 1 : Nat) : Int) by omega]
  exact downZ_in (by omega) (Dn.within ha (by omega) (by omega))
theorem bd_B {s : ByteArray} {a : Nat} (ha : B s a) : bdZ s a = true := (bdZ_iff s a).2 ha
theorem bd_in {s : ByteArray} {a k : Nat} (h1 : a < k) (h2 : k < a + sz s a) : bdZ s k = false := by
  cases h : bdZ s k with
  | false => rfl
  | true => exact absurd ((bdZ_iff s k).1 h) (not_B h1 h2)
theorem down_in' {s : ByteArray} {a k : Nat} (ha : B s a) (hi : a < s.size) (h1 : a ≤ k) (h2 : k < a + sz s a) : downZ s k = a := by
  have := sz_in hi
  exact downZ_in (by omega) (Dn.within ha h1 h2)
theorem next_in' {s : ByteArray} {a k : Nat} (ha : B s a) (hi : a < s.size) (h1 : a ≤ k) (h2 : k < a + sz s a) : nextZ s k = ((a + sz s a : Nat) : Int) := by
  have := sz_in hi
  exact nextZ_in (by omega) (Dn.within ha h1 h2)
theorem up_in' {s : ByteArray} {a k : Nat} (ha : B s a) (hi : a < s.size) (h1 : a < k) (h2 : k < a + sz s a) : upZ s k = ((a + sz s a : Nat) : Int) := by
  unfold upZ
  rw [bd_in h1 h2]
  exact next_in' ha hi (by omega) h2
theorem prev_in' {s : ByteArray} {a k : Nat} (ha : B s a) (hi : a < s.size) (h1 : a < k) (h2 : k < a + sz s a) : prevZ s k = a := by
  unfold prevZ
  rw [if_neg (by omega), show ((k : Int) - 1) = ((k - 1 : Nat) : Int) by omega]
  exact down_in' ha hi (by omega) (by omega)
theorem next_end (s : ByteArray) : nextZ s s.size = s.size := by
  unfold nextZ
  rw [if_neg (by omega), if_pos (by omega)]
theorem prev_zero (s : ByteArray) : prevZ s 0 = 0 := rfl

/-- what the law asks of Down and Up within range -/
theorem updown_in (s : ByteArray) (i : Nat) (hi : i ≤ s.size) : downZ s i ≤ i ∧ (i : Int) ≤ upZ s i ∧ bdZ s i = decide (downZ s i = upZ s i) ∧ downZ s (upZ s i) = upZ s i ∧ upZ s (downZ s i) = downZ s i := by
  by_cases hb : B s i
  · have h1 := bd_B hb
    have h2 : downZ s i = i := by simpa [bdZ] using h1
    have h3 : upZ s i = i := by unfold upZ; rw [h1]; rfl
    rw [h2, h3, h1, h2]
    simp
  · have hlt : i < s.size := by
      by_cases e : i = s.size
      · subst e; exact absurd (B_end s) hb
      · omega
    obtain ⟨d, hd⟩ : ∃ d, dnF s i = d := ⟨_, rfl⟩
    have D := dnF_Dn hlt
    rw [hd] at D
    have hdl := D.le
    have hdg := D.gt
    have hne : d ≠ i := fun e => hb (e ▸ D.bd)
    have hds : d < s.size := by omega
    have e1 := down_in' D.bd hds hdl hdg
    have e2 := up_in' D.bd hds (by omega) hdg
    have e3 := bd_B (B_next D.bd hds)
    have e4 : downZ s ((d + sz s d : Nat) : Int) = ((d + sz s d : Nat) : Int) := by simpa [bdZ] using e3
    have e5 : upZ s (d : Int) = d := by unfold upZ; rw [bd_B D.bd]; rfl
    rw [e1, e2, bd_in (by omega) hdg, e4, e5]
    refine ⟨by omega, by omega, ?_, rfl, rfl⟩
    rw [eq_comm, decide_eq_false_iff_not]; omega
theorem updown_out (s : ByteArray) (i : Int) (h : i < 0 ∨ (s.size : Int) < i) : bdZ s i = false ∧ downZ s i = upZ s i ∧ (downZ s i = 0 ∨ downZ s i = s.size) := by
  have hb := bdZ_out s i h
  refine ⟨hb, ?_, ?_⟩
  · unfold upZ
    rw [hb]
    unfold downZ nextZ
    rcases h with h | h
    · rw [if_pos (by omega), if_neg (by simp), if_pos h]
    · rw [if_neg (by omega), if_pos (by omega), if_neg (by simp), if_neg (by omega), if_pos (by omega)]
  · unfold downZ
    rcases h with h | h
    · rw [if_pos (by omega)]; exact .inl rfl
    · rw [if_neg (by omega), if_pos (by omega)]; exact .inr rfl
end Bod
namespace Bod
open Go Go.Lib

theorem bt_lt (s : ByteArray) (k : Nat) : bt s k < 256 := by unfold bt; exact (s.get! k).toNat_lt

set_option maxHeartbeats 4000000 in
/-- a good unit: a character, and its bytes are the character's encoding -/
theorem dec_enc {n b0 b1 b2 b3 c L : Nat} (h0 : b0 < 256) (h1 : b1 < 256) (h2 : b2 < 256) (_h3 : b3 < 256) (hd : decodeN n b0 b1 b2 b3 = (c, L)) (hg : ¬ (c = 65533 ∧ L = 1)) :
    validRune c = true ∧ encodeRuneZ c = ([(b0 : Int), b1, b2, b3]).take L := by
  have hp : ((0 ≤ (c : Int) ∧ (c : Int) < 0xD800) ∨ (0xDFFF < (c : Int) ∧ (c : Int) ≤ 0x10FFFF)) ∧ encodeRuneZ c = ([(b0 : Int), b1, b2, b3]).take L := by
    unfold decodeN at hd
    split at hd
    · cases hd
      exact ⟨by omega, by rw [encodeRuneZ_one (by omega) (by omega)]; rfl⟩
    · split at hd
      · split at hd
        · cases hd
          refine ⟨by omega, ?_⟩
          rw [encodeRuneZ_two (by omega) (by omega)]
          simp only [List.take_succ_cons, List.take_zero, List.cons.injEq, and_true]
          omega
        · cases hd; omega
      · split at hd
        · split at hd
          · cases hd
            refine ⟨by omega, ?_⟩
            rw [encodeRuneZ_three (by omega)]
            simp only [List.take_succ_cons, List.take_zero, List.cons.injEq, and_true]
            omega
          · cases hd; omega
        · split at hd
          · split at hd
            · cases hd
              refine ⟨by omega, ?_⟩
              rw [encodeRuneZ_four (by omega) (by omega)]
              simp only [List.take_succ_cons, List.take_zero, List.cons.injEq, and_true]
              omega
            · cases hd; omega
          · cases hd; omega
  exact ⟨by unfold validRune; exact decide_eq_true hp.1, hp.2⟩

set_option maxHeartbeats 4000000 in
theorem dec_bad_mono {n m b0 b1 b2 b3 : Nat} (hn : n ≤ m) (hb : decodeN m b0 b1 b2 b3 = (65533, 1)) : decodeN n b0 b1 b2 b3 = (65533, 1) := by
  by_cases h0 : b0 < 128
  · simp only [decodeN, if_pos h0] at hb
    have : b0 = 65533 := by simpa using hb
    omega
  · unfold decodeN at hb ⊢
    rw [if_neg h0] at hb ⊢
    by_cases c1 : b0 / 32 = 6 ∧ (1 < n ∧ b1 / 64 = 2)
    · rw [if_pos (show b0 / 32 = 6 ∧ (1 < m ∧ b1 / 64 = 2) by omega)] at hb
      rw [if_pos c1]; exact hb
    · rw [if_neg c1]
      by_cases c2 : b0 / 16 = 14 ∧ (1 < n ∧ b1 / 64 = 2) ∧ (2 < n ∧ b2 / 64 = 2)
      · rw [if_neg (show ¬ (b0 / 32 = 6 ∧ (1 < m ∧ b1 / 64 = 2)) by omega), if_pos (show b0 / 16 = 14 ∧ (1 < m ∧ b1 / 64 = 2) ∧ (2 < m ∧ b2 / 64 = 2) by omega)] at hb
        rw [if_pos c2]; exact hb
      · rw [if_neg c2]
        by_cases c3 : b0 / 8 = 30 ∧ (1 < n ∧ b1 / 64 = 2) ∧ (2 < n ∧ b2 / 64 = 2) ∧ (3 < n ∧ b3 / 64 = 2)
        · rw [if_neg (show ¬ (b0 / 32 = 6 ∧ (1 < m ∧ b1 / 64 = 2)) by omega), if_neg (show ¬ (b0 / 16 = 14 ∧ (1 < m ∧ b1 / 64 = 2) ∧ (2 < m ∧ b2 / 64 = 2)) by omega), if_pos (show b0 / 8 = 30 ∧ (1 < m ∧ b1 / 64 = 2) ∧ (2 < m ∧ b2 / 64 = 2) ∧ (3 < m ∧ b3 / 64 = 2) by omega)] at hb
          rw [if_pos c3]; exact hb
        · rw [if_neg c3]

theorem ch_bad {s : ByteArray} {i : Nat} : ch s i < 0 ↔ un s i = (65533, 1) := by
  unfold ch
  constructor
  · intro h
    split at h
    · rename_i g; exact Prod.ext g.1 g.2
    · omega
  · intro h; rw [h]; simp
theorem ch_neg {s : ByteArray} {i : Nat} (h : ch s i < 0) : ch s i = -1 ∧ sz s i = 1 := by
  have e := ch_bad.1 h
  unfold ch sz
  rw [e]; simp
/-- a piece of a text from i on: its first unit -/
theorem un_piece (s : ByteArray) (i n : Nat) (hn : 1 ≤ n) (h : i + n ≤ s.size) : un (s.extract i (i + n)) 0 = decodeN n (bt s i) (bt s (i + 1)) (bt s (i + 2)) (bt s (i + 3)) := by
  unfold un
  rw [size_extract s i (i + n) h, bt_extract, bt_extract, bt_extract, bt_extract, if_pos (by omega)]
  exact dec_cong (by omega) (by omega) (by omega) (fun g => if_pos (by omega)) (fun g => if_pos (by omega)) (fun g => if_pos (by omega))
theorem bad_piece {s : ByteArray} {i n : Nat} (hc : ch s i < 0) (hn : 1 ≤ n) (h : i + n ≤ s.size) : ch (s.extract i (i + n)) 0 = -1 := by
  have e := ch_bad.1 hc
  have e2 : un (s.extract i (i + n)) 0 = (65533, 1) := by
    rw [un_piece s i n hn h]
    exact dec_bad_mono (by omega) e
  exact (ch_neg (ch_bad.2 e2)).1

theorem data_get (s : ByteArray) (k : Nat) : ((s.data.toList[k]?.getD 0).toNat : Int) = (bt s k : Int) := by rw [bt_eq]
theorem ofZ (x : UInt8) : (x.toNat : Int).toNat.toUInt8 = x := by simp

/-- a good unit's bytes are its character's encoding -/
theorem good_bytes {s : ByteArray} {i : Nat} (hi : i < s.size) (hc : 0 ≤ ch s i) : validRune (ch s i) = true ∧ encodeRune (ch s i) = (s.extract i (i + sz s i)).data.toList := by
  have hg : ¬ ((un s i).1 = 65533 ∧ (un s i).2 = 1) := fun h => by
    have : ch s i < 0 := ch_bad.2 (Prod.ext h.1 h.2)
    omega
  have hcc : ch s i = ((un s i).1 : Int) := by unfold ch; rw [if_neg hg]
  obtain ⟨h1, h2⟩ := dec_enc (bt_lt s i) (bt_lt s (i + 1)) (bt_lt s (i + 2)) (bt_lt s (i + 3)) (c := (un s i).1) (L := (un s i).2) rfl hg
  rw [← hcc] at h1 h2
  refine ⟨h1, ?_⟩
  have hz := sz_in hi
  have h4 := sz_le hi
  apply List.ext_getElem?
  intro j
  unfold encodeRune
  rw [h2, Lib.extract_data]
  change (List.map _ (List.take (sz s i) _))[j]? = _
  by_cases hj : j < sz s i
  · rw [List.getElem?_take_of_lt (by omega), List.getElem?_drop, List.getElem?_map, List.getElem?_take_of_lt hj]
    have hlt : i + j < s.data.toList.length := by rw [← Lib.size_eq]; omega
    have e := data_get s (i + j)
    rw [List.getElem?_eq_getElem hlt] at e ⊢
    simp only [Option.getD_some] at e
    have : j = 0 ∨ j = 1 ∨ j = 2 ∨ j = 3 := by omega
    rcases this with rfl | rfl | rfl | rfl
    · simp only [Nat.add_zero] at e ⊢; simp [← e]
    · simp [← e]
    · simp [← e]
    · simp [← e]
  · rw [List.getElem?_take_eq_none (by omega), List.getElem?_eq_none (by simp; omega)]
end Bod
namespace Bod
open Go Go.Lib

theorem valid_iff (r : Int) : validRune r = true ↔ (0 ≤ r ∧ r < 55296) ∨ (57343 < r ∧ r ≤ 1114111) := by unfold validRune; rw [decide_eq_true_eq]

/-- the four shapes of an encoding -/
theorem enc_shape {r : Int} (h : validRune r = true) :
    (0 ≤ r ∧ r ≤ 127 ∧ encodeRuneZ r = [r]) ∨ (128 ≤ r ∧ r ≤ 2047 ∧ encodeRuneZ r = [192 + r / 64, 128 + r % 64]) ∨
    (((2048 ≤ r ∧ r < 55296) ∨ (57343 < r ∧ r ≤ 65535)) ∧ encodeRuneZ r = [224 + r / 4096, 128 + r / 64 % 64, 128 + r % 64]) ∨
    (65536 ≤ r ∧ r ≤ 1114111 ∧ encodeRuneZ r = [240 + r / 262144, 128 + r / 4096 % 64, 128 + r / 64 % 64, 128 + r % 64]) := by
  rw [valid_iff] at h
  by_cases h1 : r ≤ 127
  · exact .inl ⟨by omega, h1, encodeRuneZ_one (by omega) h1⟩
  · by_cases h2 : r ≤ 2047
    · exact .inr (.inl ⟨by omega, h2, encodeRuneZ_two (by omega) h2⟩)
    · by_cases h3 : r ≤ 65535
      · exact .inr (.inr (.inl ⟨by omega, encodeRuneZ_three (by omega)⟩))
      · exact .inr (.inr (.inr ⟨by omega, by omega, encodeRuneZ_four (by omega) (by omega)⟩))

/-- 'z' lies in the text s from i on -/
def At (s : ByteArray) (i : Nat) (z : List Int) : Prop := i + z.length ≤ s.size ∧ ∀ k, k < z.length → (bt s (i + k) : Int) = z[k]?.getD 0

set_option maxHeartbeats 2000000 in
theorem enc_dec {s : ByteArray} {i : Nat} {r : Int} (hv : validRune r = true) (h : At s i (encodeRuneZ r)) : ch s i = r ∧ sz s i = (encodeRuneZ r).length := by
  obtain ⟨hl, hb⟩ := h
  have key : un s i = (r.toNat, (encodeRuneZ r).length) := by
    unfold un
    rcases enc_shape hv with ⟨h1, h2, e⟩ | ⟨h1, h2, e⟩ | ⟨h1, e⟩ | ⟨h1, h2, e⟩
    · rw [e] at hl hb ⊢
      have b0 := hb 0 (by simp)
      simp only [List.length_cons, List.length_nil, List.getElem?_cons_zero, Option.getD_some, Nat.add_zero] at hl b0 ⊢
      unfold decodeN
      rw [if_pos (by omega)]
      exact Prod.ext (by simp only; omega) rfl
    · rw [e] at hl hb ⊢
      have b0 := hb 0 (by simp)
      have b1 := hb 1 (by simp)
      simp only [List.length_cons, List.length_nil, List.getElem?_cons_zero, List.getElem?_cons_succ, Option.getD_some, Nat.add_zero] at hl b0 b1 ⊢
      unfold decodeN
      rw [if_neg (by omega), if_pos (by omega), if_pos (by omega)]
      exact Prod.ext (by simp only; omega) rfl
    · rw [e] at hl hb ⊢
      have b0 := hb 0 (by simp)
      have b1 := hb 1 (by simp)
      have b2 := hb 2 (by simp)
      simp only [List.length_cons, List.length_nil, List.getElem?_cons_zero, List.getElem?_cons_succ, Option.getD_some, Nat.add_zero] at hl b0 b1 b2 ⊢
      unfold decodeN
      rw [if_neg (by omega), if_neg (by omega), if_pos (by omega), if_pos (by omega)]
      exact Prod.ext (by simp only; omega) rfl
    · rw [e] at hl hb ⊢
      have b0 := hb 0 (by simp)
      have b1 := hb 1 (by simp)
      have b2 := hb 2 (by simp)
      have b3 := hb 3 (by simp)
      simp only [List.length_cons, List.length_nil, List.getElem?_cons_zero, List.getElem?_cons_succ, Option.getD_some, Nat.add_zero] at hl b0 b1 b2 b3 ⊢
      unfold decodeN
      rw [if_neg (by omega), if_neg (by omega), if_neg (by omega), if_pos (by omega), if_pos (by omega)]
      exact Prod.ext (by simp only; omega) rfl
  unfold ch sz
  rw [key]
  have h0 : 0 ≤ r := by rw [valid_iff] at hv; omega
  refine ⟨?_, rfl⟩
  rw [if_neg]
  · simp only; omega
  · rintro ⟨q1, q2⟩
    simp only at q1 q2
    have : r = 65533 := by omega
    subst this
    have : (encodeRuneZ 65533).length = 3 := by decide
    omega

/-- FullRune's answer, by numbers -/
def fullN (n k lo hi b1 b2 : Nat) : Bool := if k ≤ n then true else if 1 < n ∧ (b1 < lo ∨ hi < b1) then true else if 2 < n ∧ (b2 < 128 ∨ 191 < b2) then true else false
def fullB (s : ByteArray) : Bool := fullN s.size (firstT (bt s 0) % 8) (accLo (firstT (bt s 0) / 16)) (accHi (firstT (bt s 0) / 16)) (bt s 1) (bt s 2)
def begB (s : ByteArray) : Bool := if s.size = 0 then false else !fullB s
end Bod
namespace Bod
open Go Go.Lib

set_option maxHeartbeats 4000000 in
/-- the numbers of a character's encoding under the tables of Go's library -/
theorem enc_tabs {r : Int} (hv : validRune r = true) (b : Nat → Nat) (hb : ∀ k, k < (encodeRuneZ r).length → (b k : Int) = (encodeRuneZ r)[k]?.getD 0) :
    firstT (b 0) % 8 ≤ (encodeRuneZ r).length ∧ (2 ≤ (encodeRuneZ r).length → firstT (b 0) % 8 = (encodeRuneZ r).length) ∧
    (3 ≤ (encodeRuneZ r).length → accLo (firstT (b 0) / 16) ≤ b 1 ∧ b 1 ≤ accHi (firstT (b 0) / 16)) ∧ (4 ≤ (encodeRuneZ r).length → 128 ≤ b 2 ∧ b 2 ≤ 191) ∧
    (2 ≤ (encodeRuneZ r).length → b 1 / 64 = 2) ∧ (3 ≤ (encodeRuneZ r).length → b 2 / 64 = 2) ∧ (4 ≤ (encodeRuneZ r).length → b 3 / 64 = 2) := by
  rcases enc_shape hv with ⟨h1, h2, e⟩ | ⟨h1, h2, e⟩ | ⟨h1, e⟩ | ⟨h1, h2, e⟩
  · rw [e] at hb ⊢
    have b0 := hb 0 (by simp)
    simp only [List.length_cons, List.length_nil, List.getElem?_cons_zero, Option.getD_some] at b0 ⊢
    refine ⟨?_, by omega, by omega, by omega, by omega, by omega, by omega⟩
    unfold firstT; rw [if_pos (by omega)]; omega
  · rw [e] at hb ⊢
    have b0 := hb 0 (by simp)
    have b1 := hb 1 (by simp)
    simp only [List.length_cons, List.length_nil, List.getElem?_cons_zero, List.getElem?_cons_succ, Option.getD_some] at b0 b1 ⊢
    have hf : firstT (b 0) = 2 := firstT_C2 (by omega)
    rw [hf]
    omega
  · rw [e] at hb ⊢
    have b0 := hb 0 (by simp)
    have b1 := hb 1 (by simp)
    have b2 := hb 2 (by simp)
    simp only [List.length_cons, List.length_nil, List.getElem?_cons_zero, List.getElem?_cons_succ, Option.getD_some] at b0 b1 b2 ⊢
    by_cases g1 : b 0 = 224
    · rw [firstT_E0 g1, show accLo (19 / 16) = 160 from rfl, show accHi (19 / 16) = 191 from rfl]
      omega
    · by_cases g2 : b 0 = 237
      · rw [firstT_ED g2, show accLo (35 / 16) = 128 from rfl, show accHi (35 / 16) = 159 from rfl]
        omega
      · rw [firstT_E1 (by omega), show accLo (3 / 16) = 128 from rfl, show accHi (3 / 16) = 191 from rfl]
        omega
  · rw [e] at hb ⊢
    have b0 := hb 0 (by simp)
    have b1 := hb 1 (by simp)
    have b2 := hb 2 (by simp)
    have b3 := hb 3 (by simp)
    simp only [List.length_cons, List.length_nil, List.getElem?_cons_zero, List.getElem?_cons_succ, Option.getD_some] at b0 b1 b2 b3 ⊢
    by_cases g1 : b 0 = 240
    · rw [firstT_F0 g1, show accLo (52 / 16) = 144 from rfl, show accHi (52 / 16) = 191 from rfl]
      omega
    · by_cases g2 : b 0 = 244
      · rw [firstT_F4 g2, show accLo (68 / 16) = 128 from rfl, show accHi (68 / 16) = 143 from rfl]
        omega
      · rw [firstT_F1 (by omega), show accLo (4 / 16) = 128 from rfl, show accHi (4 / 16) = 191 from rfl]
        omega

/-- a text that is just a character's encoding -/
theorem beg_whole {e : ByteArray} {r : Int} (hv : validRune r = true) (hs : e.size = (encodeRuneZ r).length) (h : At e 0 (encodeRuneZ r)) : begB e = false := by
  have ht := enc_tabs hv (bt e) (fun k hk => by have := h.2 k hk; rwa [Nat.zero_add] at this)
  have hl := encodeRuneZ_length r
  unfold begB fullB fullN
  rw [if_neg (by omega), hs, if_pos ht.1]; rfl
theorem beg_part {e : ByteArray} {r : Int} {k : Nat} (hv : validRune r = true) (hs : e.size = (encodeRuneZ r).length) (h : At e 0 (encodeRuneZ r)) (h1 : 1 ≤ k) (h2 : k < (encodeRuneZ r).length) : begB (e.extract 0 k) = true := by
  obtain ⟨_, t2, t3, t4, _⟩ := enc_tabs hv (bt e) (fun k hk => by have := h.2 k hk; rwa [Nat.zero_add] at this)
  have hl := encodeRuneZ_length r
  have hps := size_extract e 0 k (by omega)
  have hp : (e.extract 0 k).size = k := by omega
  have e0 : bt (e.extract 0 k) 0 = bt e 0 := by rw [bt_extract, if_pos (by omega)]
  have e1 : 1 < k → bt (e.extract 0 k) 1 = bt e 1 := fun g => by rw [bt_extract, if_pos (by omega)]
  have e2 : 2 < k → bt (e.extract 0 k) 2 = bt e 2 := fun g => by rw [bt_extract, if_pos (by omega)]
  unfold begB
  rw [if_neg (by omega)]
  unfold fullB
  rw [hp, e0]
  unfold fullN
  rw [t2 (by omega), if_neg (by omega)]
  by_cases g1 : 1 < k
  · rw [e1 g1]
    have := t3 (by omega)
    rw [if_neg (by omega)]
    by_cases g2 : 2 < k
    · rw [e2 g2]
      have := t4 (by omega)
      rw [if_neg (by omega)]; rfl
    · rw [if_neg (fun q => g2 q.1)]; rfl
  · rw [if_neg (fun q => g1 q.1), if_neg (by omega)]; rfl

theorem offs_ones {p : ByteArray} (h : ∀ i, i < p.size → sz p i = 1) : ∀ (f i : Nat), p.size - i ≤ f → (offs p i).length = p.size - i
  | 0, i, hf => by rw [offs_end (by omega)]; simp; omega
  | f + 1, i, hf => by
    by_cases hi : i < p.size
    · rw [offs_step hi, h i hi, List.length_cons, offs_ones h f (i + 1) (by omega)]; omega
    · rw [offs_end (by omega)]; simp; omega

set_option maxHeartbeats 4000000 in
theorem count_part {e : ByteArray} {r : Int} {k : Nat} (hv : validRune r = true) (hs : e.size = (encodeRuneZ r).length) (h : At e 0 (encodeRuneZ r)) (h1 : 1 ≤ k) (h2 : k < (encodeRuneZ r).length) : (offs (e.extract 0 k) 0).length = k := by
  have hps := size_extract e 0 k (by omega)
  have hl := encodeRuneZ_length r
  have hb : ∀ j, j < (encodeRuneZ r).length → (bt e j : Int) = (encodeRuneZ r)[j]?.getD 0 := fun j hj => by have := h.2 j hj; rwa [Nat.zero_add] at this
  obtain ⟨_, _, _, _, t5, t6, _⟩ := enc_tabs hv (bt e) hb
  rw [offs_ones (fun i hi => ?_) (e.extract 0 k).size 0 (by omega), hps]; omega
  rw [hps] at hi
  by_cases i0 : i = 0
  · subst i0
    have hu : un (e.extract 0 k) 0 = decodeN k (bt e 0) (bt e 1) (bt e 2) (bt e 3) := by
      have := un_piece e 0 k h1 (by omega)
      simpa using this
    unfold sz
    rw [hu]
    rcases enc_shape hv with ⟨q1, q2, q⟩ | ⟨q1, q2, q⟩ | ⟨q1, q⟩ | ⟨q1, q2, q⟩
    · rw [q] at h2; simp at h2; omega
    · rw [q] at h2 hb
      have b0 := hb 0 (by simp)
      simp only [List.length_cons, List.length_nil, List.getElem?_cons_zero, Option.getD_some] at b0 h2
      unfold decodeN
      rw [if_neg (by omega), if_neg (by omega), if_neg (by omega), if_neg (by omega)]
    · rw [q] at h2 hb
      have b0 := hb 0 (by simp)
      simp only [List.length_cons, List.length_nil, List.getElem?_cons_zero, Option.getD_some] at b0 h2
      unfold decodeN
      rw [if_neg (by omega), if_neg (by omega), if_neg (by omega), if_neg (by omega)]
    · rw [q] at h2 hb
      have b0 := hb 0 (by simp)
      simp only [List.length_cons, List.length_nil, List.getElem?_cons_zero, Option.getD_some] at b0 h2
      unfold decodeN
      rw [if_neg (by omega), if_neg (by omega), if_neg (by omega), if_neg (by omega)]
  · apply sz_cont
    rw [bt_extract, if_pos (by omega), Nat.zero_add]
    have : i = 1 ∨ i = 2 := by omega
    rcases this with rfl | rfl
    · exact t5 (by omega)
    · exact t6 (by omega)

/-- where an encoding stands among bytes -/
theorem at_of_data {s : ByteArray} {i : Nat} {r : Int} {u v : List UInt8} (hd : s.data.toList = u ++ encodeRune r ++ v) (hi : i = u.length) : At s i (encodeRuneZ r) := by
  subst hi
  have hlen : (encodeRune r).length = (encodeRuneZ r).length := by simp [encodeRune]
  refine ⟨by rw [Lib.size_eq, hd]; simp only [List.length_append]; omega, fun k hk => ?_⟩
  rw [bt_eq, hd, List.append_assoc, List.getElem?_append_right (by omega), Nat.add_sub_cancel_left, List.getElem?_append_left (by omega)]
  simp only [encodeRune, List.getElem?_map, List.getElem?_eq_getElem hk, Option.map_some, Option.getD_some]
  have := encodeRuneZ_byte r (encodeRuneZ r)[k] (List.getElem_mem hk)
  simp
  omega
end Bod
namespace Bod
open Go Go.Lib

set_option maxHeartbeats 4000000 in
theorem dec_tr {n m b0 b1 b2 b3 : Nat} (hn : n ≤ m) (hs : (decodeN m b0 b1 b2 b3).2 ≤ n) : decodeN n b0 b1 b2 b3 = decodeN m b0 b1 b2 b3 := by
  by_cases hb : decodeN m b0 b1 b2 b3 = (65533, 1)
  · rw [hb]; exact dec_bad_mono hn hb
  · have key : ∀ p, decodeN m b0 b1 b2 b3 = p → p ≠ (65533, 1) → p.2 ≤ n → decodeN n b0 b1 b2 b3 = p := by
      intro p hp hne hs2
      unfold decodeN at hp
      split at hp
      · rename_i h0
        subst hp
        unfold decodeN
        rw [if_pos h0]
      · rename_i h0
        split at hp
        · rename_i c
          split at hp
          · rename_i v
            subst hp
            simp only at hs2
            unfold decodeN
            rw [if_neg h0, if_pos (by omega), if_pos v]
          · exact absurd hp.symm hne
        · split at hp
          · rename_i c
            split at hp
            · rename_i v
              subst hp
              simp only at hs2
              unfold decodeN
              rw [if_neg h0, if_neg (by omega), if_pos (by omega), if_pos v]
            · exact absurd hp.symm hne
          · split at hp
            · rename_i c
              split at hp
              · rename_i v
                subst hp
                simp only at hs2
                unfold decodeN
                rw [if_neg h0, if_neg (by omega), if_neg (by omega), if_pos (by omega), if_pos v]
              · exact absurd hp.symm hne
            · exact absurd hp.symm hne
    exact key _ rfl hb hs

set_option maxHeartbeats 4000000 in
theorem dec_cut {n m b0 b1 b2 b3 : Nat} (hs : n < (decodeN m b0 b1 b2 b3).2) (h1 : 1 ≤ n) : decodeN n b0 b1 b2 b3 = (65533, 1) := by
  unfold decodeN at hs
  split at hs
  · simp only at hs; omega
  · rename_i h0
    split at hs
    · rename_i c
      split at hs
      · simp only at hs
        unfold decodeN
        rw [if_neg h0, if_neg (by omega), if_neg (by omega), if_neg (by omega)]
      · simp only at hs; omega
    · split at hs
      · rename_i c
        split at hs
        · simp only at hs
          unfold decodeN
          rw [if_neg h0, if_neg (by omega), if_neg (by omega), if_neg (by omega)]
        · simp only at hs; omega
      · split at hs
        · rename_i c
          split at hs
          · simp only at hs
            unfold decodeN
            rw [if_neg h0, if_neg (by omega), if_neg (by omega), if_neg (by omega)]
          · simp only at hs; omega
        · simp only at hs; omega
theorem dec_inner {n b0 b1 b2 b3 : Nat} (h : b0 / 64 = 2) : decodeN n b0 b1 b2 b3 = (65533, 1) := by
  unfold decodeN
  rw [if_neg (by omega), if_neg (by omega), if_neg (by omega), if_neg (by omega)]

theorem bt_append (a b : ByteArray) (k : Nat) : bt (a ++ b) k = if k < a.size then bt a k else bt b (k - a.size) := by
  have hd : (a ++ b).data.toList = a.data.toList ++ b.data.toList := by simp
  rw [bt_eq, hd]
  by_cases h : k < a.size
  · rw [if_pos h, List.getElem?_append_left (by rw [← Lib.size_eq]; exact h), bt_eq]
  · rw [if_neg h, List.getElem?_append_right (by rw [← Lib.size_eq]; omega), ← Lib.size_eq, bt_eq]
theorem size_app (a b : ByteArray) : (a ++ b).size = a.size + b.size := by simp [ByteArray.size_append]

theorem un_right (a b : ByteArray) (j : Nat) : un (a ++ b) (a.size + j) = un b j := by
  unfold un
  rw [size_app, bt_append, bt_append, bt_append, bt_append, if_neg (by omega), if_neg (by omega), if_neg (by omega), if_neg (by omega), show a.size + b.size - (a.size + j) = b.size - j by omega, show a.size + j - a.size = j by omega, show a.size + j + 1 - a.size = j + 1 by omega, show a.size + j + 2 - a.size = j + 2 by omega, show a.size + j + 3 - a.size = j + 3 by omega]
theorem un_left_bytes (a b : ByteArray) (i : Nat) (hi : i < a.size) : un a i = decodeN (a.size - i) (bt (a ++ b) i) (bt (a ++ b) (i + 1)) (bt (a ++ b) (i + 2)) (bt (a ++ b) (i + 3)) := by
  unfold un
  rw [bt_append a b i, if_pos hi]
  refine dec_cong Iff.rfl Iff.rfl Iff.rfl (fun g => ?_) (fun g => ?_) (fun g => ?_)
  · rw [bt_append, if_pos (by omega)]
  · rw [bt_append, if_pos (by omega)]
  · rw [bt_append, if_pos (by omega)]
theorem un_left (a b : ByteArray) (i : Nat) (hi : i < a.size) (h : i + sz (a ++ b) i ≤ a.size) : un a i = un (a ++ b) i := by
  rw [un_left_bytes a b i hi]
  refine dec_tr (by rw [size_app]; omega) ?_
  have : (un (a ++ b) i).2 = sz (a ++ b) i := rfl
  unfold un at this
  omega
theorem un_cut (a b : ByteArray) (i : Nat) (hi : i < a.size) (h : a.size < i + sz (a ++ b) i) : un a i = (65533, 1) := by
  rw [un_left_bytes a b i hi]
  have : (un (a ++ b) i).2 = sz (a ++ b) i := rfl
  unfold un at this
  exact dec_cut (m := (a ++ b).size - i) (by omega) (by omega)
theorem un_inner {s : ByteArray} {i : Nat} (h : bt s i / 64 = 2) : un s i = (65533, 1) := dec_inner h

/-! the units as a list of pairs -/
def pr (s : ByteArray) (i : Nat) : Int × Int := (ch s i, (sz s i : Int))
def us (s : ByteArray) (i : Nat) : List (Int × Int) := (offs s i).map (pr s)
theorem pr_congr {s t : ByteArray} {i j : Nat} (h : un s i = un t j) : pr s i = pr t j := by unfold pr ch sz; rw [h]
theorem pr_bad {s : ByteArray} {i : Nat} (h : un s i = (65533, 1)) : pr s i = (-1, 1) ∧ sz s i = 1 := by unfold pr ch sz; rw [h]; simp
theorem us_step {s : ByteArray} {i : Nat} (h : i < s.size) : us s i = pr s i :: us s (i + sz s i) := by unfold us; rw [offs_step h]; rfl
theorem us_end {s : ByteArray} {i : Nat} (h : s.size ≤ i) : us s i = [] := by unfold us; rw [offs_end h]; rfl

theorem us_right (a b : ByteArray) : ∀ (f j : Nat), b.size - j ≤ f → us (a ++ b) (a.size + j) = us b j
  | 0, j, h => by rw [us_end (by rw [size_app]; omega), us_end (by omega)]
  | f + 1, j, h => by
    by_cases hj : j < b.size
    · have e := un_right a b j
      have es : sz (a ++ b) (a.size + j) = sz b j := by unfold sz; rw [e]
      rw [us_step (by rw [size_app]; omega), us_step hj, pr_congr e, es, Nat.add_assoc, us_right a b f (j + sz b j) (by have := sz_pos hj; omega)]
    · rw [us_end (by rw [size_app]; omega), us_end (by omega)]

theorem us_left (a b : ByteArray) (d : Nat) (hd : B (a ++ b) d) (hda : d ≤ a.size) : ∀ (f i : Nat), i ≤ d → d - i ≤ f → ∃ P, us (a ++ b) i = P ++ us (a ++ b) d ∧ us a i = P ++ us a d
  | 0, i, h, hf => by
    have : i = d := by omega
    subst this; exact ⟨[], rfl, rfl⟩
  | f + 1, i, h, hf => by
    by_cases e : i = d
    · subst e; exact ⟨[], rfl, rfl⟩
    · have hlt : i < d := by omega
      have hz := hd.2 i hlt
      have hs := size_app a b
      have hp := sz_pos (s := a ++ b) (i := i) (by omega)
      have hu := un_left a b i (by omega) (by omega)
      have es : sz a i = sz (a ++ b) i := by unfold sz; rw [hu]
      obtain ⟨P, h1, h2⟩ := us_left a b d hd hda f (i + sz (a ++ b) i) (by omega) (by omega)
      refine ⟨pr (a ++ b) i :: P, ?_, ?_⟩
      · rw [us_step (by omega), h1]; rfl
      · rw [us_step (by omega), es, h2, pr_congr hu]; rfl

theorem us_bads {s : ByteArray} {e : Nat} (he : e ≤ s.size) : ∀ (f i : Nat), i ≤ e → e - i ≤ f → (∀ k, i ≤ k → k < e → un s k = (65533, 1)) → us s i = List.replicate (e - i) (-1, 1) ++ us s e
  | 0, i, h, hf, _ => by
    have : i = e := by omega
    subst this; simp
  | f + 1, i, h, hf, hb => by
    by_cases c : i = e
    · subst c; simp
    · obtain ⟨p1, p2⟩ := pr_bad (hb i (Nat.le_refl _) (by omega))
      rw [us_step (by omega), p1, p2, us_bads he f (i + 1) (by omega) (by omega) (fun k k1 k2 => hb k (by omega) k2), show e - i = (e - (i + 1)) + 1 by omega, List.replicate_succ]
      rfl

/-- the seam is a boundary -/
theorem us_seam_B {a b : ByteArray} (h : B (a ++ b) a.size) : us (a ++ b) 0 = us a 0 ++ us b 0 := by
  obtain ⟨P, h1, h2⟩ := us_left a b a.size h (Nat.le_refl _) a.size 0 (by omega) (by omega)
  have e := us_right a b b.size 0 (by omega)
  rw [Nat.add_zero] at e
  rw [h1, h2, us_end (s := a) (Nat.le_refl _), e]; simp

/-- the seam is none: one character lies over it -/
theorem us_seam_C {a b : ByteArray} {d : Nat} (h : Dn (a ++ b) a.size d) (hne : d ≠ a.size) (hs : a.size < (a ++ b).size) :
    ∃ P, us (a ++ b) 0 = P ++ pr (a ++ b) d :: us (a ++ b) (d + sz (a ++ b) d) ∧ us a 0 = P ++ List.replicate (a.size - d) (-1, 1) ∧ us b 0 = List.replicate (d + sz (a ++ b) d - a.size) (-1, 1) ++ us (a ++ b) (d + sz (a ++ b) d) ∧ 0 ≤ ch (a ++ b) d := by
  have hle := h.le
  have hgt := h.gt
  have hss := size_app a b
  have hin := sz_in (s := a ++ b) (i := d) (by omega)
  obtain ⟨P, h1, h2⟩ := us_left a b d h.bd (by omega) d 0 (by omega) (by omega)
  have hcont : ∀ k, d < k → k < d + sz (a ++ b) d → bt (a ++ b) k / 64 = 2 := fun k k1 k2 => cont k1 k2
  have hda := us_bads (s := a) (e := a.size) (Nat.le_refl _) a.size d (by omega) (by omega) (fun k k1 k2 => by
    by_cases e : k = d
    · subst e; exact un_cut a b k k2 (by omega)
    · have := hcont k (by omega) (by omega)
      rw [bt_append, if_pos k2] at this
      exact un_inner this)
  rw [us_end (s := a) (Nat.le_refl _), List.append_nil] at hda
  have hdb := us_bads (s := b) (e := d + sz (a ++ b) d - a.size) (by omega) b.size 0 (by omega) (by omega) (fun k k1 k2 => by
    have := hcont (a.size + k) (by omega) (by omega)
    rw [bt_append, if_neg (by omega), show a.size + k - a.size = k by omega] at this
    exact un_inner this)
  have e := us_right a b b.size (d + sz (a ++ b) d - a.size) (by omega)
  rw [show a.size + (d + sz (a ++ b) d - a.size) = d + sz (a ++ b) d by omega] at e
  rw [← e, Nat.sub_zero] at hdb
  refine ⟨P, by rw [h1, us_step (by omega)], by rw [h2, hda], hdb, ?_⟩
  unfold ch
  split
  · rename_i q
    have : sz (a ++ b) d = 1 := q.2
    omega
  · omega
end Bod
namespace Bod
open Go Go.Lib

/-- the number that a first byte c0 and k bytes behind it make -/
def accC (s : ByteArray) (c0 : Int) : Nat → Int
  | 0 => c0
  | k + 1 => accC s c0 k * 64 + (bt s (k + 1) : Int) - 128
def leadM (b : Nat) : Int := if b < 128 then 0 else if b < 192 then -1 else if b < 224 then 1 else if b < 240 then 2 else if b < 248 then 3 else -1
def leadC (b : Nat) : Int := if b < 128 then b else if b < 192 then 0 else if b < 224 then (b : Int) - 192 else if b < 240 then (b : Int) - 224 else if b < 248 then (b : Int) - 240 else 0
def sizeN (r : Int) : Int := if r < 128 then 1 else if r < 2048 then 2 else if r < 65536 then 3 else 4
def contAll (s : ByteArray) (k : Nat) : Prop := ∀ j, 1 ≤ j → j ≤ k → 128 ≤ bt s j ∧ bt s j ≤ 191

theorem contAll_succ {s : ByteArray} {k : Nat} (h : contAll s k) (h1 : 128 ≤ bt s (k + 1)) (h2 : bt s (k + 1) ≤ 191) : contAll s (k + 1) := fun j a b => by
  by_cases e : j = k + 1
  · subst e; exact ⟨h1, h2⟩
  · exact h j a (by omega)

theorem accC_bd {s : ByteArray} {c0 : Int} (h0 : 0 ≤ c0) : ∀ k, contAll s k → 0 ≤ accC s c0 k ∧ accC s c0 k < (c0 + 1) * 64 ^ k
  | 0, _ => by simp only [accC]; omega
  | k + 1, h => by
    obtain ⟨a, b⟩ := accC_bd h0 k (fun j x y => h j x (by omega))
    obtain ⟨c, d⟩ := h (k + 1) (by omega) (by omega)
    simp only [accC]
    refine ⟨by omega, ?_⟩
    rw [Int.pow_succ, ← Int.mul_assoc]
    omega

theorem accC_le {s : ByteArray} {c0 : Int} {k m : Nat} (hc : (c0 + 1) * 64 ^ m ≤ 2097152) (h0 : 0 ≤ c0) (hk : contAll s k) (hlt : k < m) : 0 ≤ accC s c0 k ∧ accC s c0 k * 64 + 64 ≤ 2097152 := by
  obtain ⟨a, b⟩ := accC_bd h0 k hk
  refine ⟨a, ?_⟩
  have h1 : (c0 + 1) * 64 ^ (k + 1) ≤ (c0 + 1) * 64 ^ m := Int.mul_le_mul_of_nonneg_left (by
    have : (64 : Nat) ^ (k + 1) ≤ 64 ^ m := Nat.pow_le_pow_right (by omega) (by omega)
    exact_mod_cast this) (by omega)
  rw [Int.pow_succ, ← Int.mul_assoc] at h1
  omega

/-- what 'begins' answers, from the first byte's numbers -/
structure Ans (s : ByteArray) (c0 : Int) (m : Nat) (r : Int) : Prop where
  good : contAll s m → validRune (accC s c0 m) = true → sizeN (accC s c0 m) = m + 1 → r = accC s c0 m
  bad1 : ∀ j, 1 ≤ j → j ≤ m → ¬ (128 ≤ bt s j ∧ bt s j ≤ 191) → r = -1
  bad2 : contAll s m → validRune (accC s c0 m) = false → r = -1
  bad3 : contAll s m → sizeN (accC s c0 m) ≠ m + 1 → r = -1

theorem ch_one {s : ByteArray} (h : bt s 0 < 128) : ch s 0 = bt s 0 := by
  have e : un s 0 = (bt s 0, 1) := by unfold un decodeN; rw [if_pos h]
  unfold ch
  rw [e, if_neg (by simp only; omega)]
theorem ch_val {s : ByteArray} {c L : Nat} (h : un s 0 = (c, L)) (h2 : c ≠ 65533 ∨ L ≠ 1) : ch s 0 = c := by
  unfold ch
  rw [h, if_neg (by simp only; omega)]
theorem ch_none {s : ByteArray} (h : un s 0 = (65533, 1)) : ch s 0 = -1 := by
  unfold ch
  rw [h, if_pos ⟨rfl, rfl⟩]
theorem ch_nolead {s : ByteArray} (h : 128 ≤ bt s 0) (h2 : leadM (bt s 0) < 0 ∨ (s.size : Int) ≤ leadM (bt s 0)) : ch s 0 = -1 := by
  refine ch_none ?_
  have hb := bt_lt s 0
  unfold leadM at h2
  rw [if_neg (by omega)] at h2
  unfold un decodeN
  rw [if_neg (by omega)]
  have h3 : bt s 0 < 192 ∨ 248 ≤ bt s 0 ∨ (192 ≤ bt s 0 ∧ bt s 0 < 224 ∧ s.size ≤ 1) ∨ (224 ≤ bt s 0 ∧ bt s 0 < 240 ∧ s.size ≤ 2) ∨ (240 ≤ bt s 0 ∧ bt s 0 < 248 ∧ s.size ≤ 3) := by
    repeat' split at h2
    all_goals omega
  rw [if_neg (by omega), if_neg (by omega), if_neg (by omega)]

theorem valid_no (r : Int) : validRune r = false ↔ ¬ ((0 ≤ r ∧ r < 55296) ∨ (57343 < r ∧ r ≤ 1114111)) := by
  rw [← Bool.not_eq_true, valid_iff]
theorem sizeN_iff (r : Int) : (sizeN r = 1 ↔ r < 128) ∧ (sizeN r = 2 ↔ 128 ≤ r ∧ r < 2048) ∧ (sizeN r = 3 ↔ 2048 ≤ r ∧ r < 65536) ∧ (sizeN r = 4 ↔ 65536 ≤ r) := by
  unfold sizeN
  repeat' split
  all_goals omega

theorem ans_two {s : ByteArray} (h1 : 192 ≤ bt s 0) (h2 : bt s 0 < 224) (hs : 1 < s.size) : Ans s ((bt s 0 : Int) - 192) 1 (ch s 0) := by
  have hb := bt_lt s 1
  have ea : accC s ((bt s 0 : Int) - 192) 1 = ((bt s 0 : Int) - 192) * 64 + bt s 1 - 128 := by simp [accC]
  have hun : un s 0 = if bt s 1 / 64 = 2 ∧ 194 ≤ bt s 0 then (bt s 0 % 32 * 64 + bt s 1 % 64, 2) else (65533, 1) := by
    unfold un decodeN
    simp only [Nat.zero_add]
    by_cases c : bt s 1 / 64 = 2
    · rw [if_neg (by omega), if_pos ⟨by omega, by omega, c⟩]
      by_cases d : 194 ≤ bt s 0
      · rw [if_pos (by omega), if_pos ⟨c, d⟩]
      · rw [if_neg (by omega), if_neg (fun q => d q.2)]
    · rw [if_neg (by omega), if_neg (fun q => c q.2.2), if_neg (by omega), if_neg (by omega), if_neg (fun q => c q.1)]
  constructor
  · intro hc _ hz
    rw [ea] at hz ⊢
    obtain ⟨g1, g2⟩ := hc 1 (by omega) (by omega)
    rw [(show ((1 : Nat) : Int) + 1 = 2 by rfl), (sizeN_iff _).2.1] at hz
    rw [if_pos (by omega)] at hun
    rw [ch_val hun (.inr (by omega))]
    omega
  · intro j j1 j2 hn
    obtain rfl : j = 1 := by omega
    rw [if_neg (by omega)] at hun
    exact ch_none hun
  · intro hc hv
    rw [ea, valid_no] at hv
    obtain ⟨g1, g2⟩ := hc 1 (by omega) (by omega)
    omega
  · intro hc hz
    rw [ea] at hz
    obtain ⟨g1, g2⟩ := hc 1 (by omega) (by omega)
    rw [(show ((1 : Nat) : Int) + 1 = 2 by rfl), ne_eq, (sizeN_iff _).2.1] at hz
    rw [if_neg (by omega)] at hun
    exact ch_none hun

set_option maxHeartbeats 1000000 in
theorem ans_three {s : ByteArray} (h1 : 224 ≤ bt s 0) (h2 : bt s 0 < 240) (hs : 2 < s.size) : Ans s ((bt s 0 : Int) - 224) 2 (ch s 0) := by
  have hb1 := bt_lt s 1
  have hb2 := bt_lt s 2
  obtain ⟨b0, e0⟩ : ∃ b, bt s 0 = b := ⟨_, rfl⟩
  obtain ⟨b1, e1⟩ : ∃ b, bt s 1 = b := ⟨_, rfl⟩
  obtain ⟨b2, e2⟩ : ∃ b, bt s 2 = b := ⟨_, rfl⟩
  have ea : accC s ((bt s 0 : Int) - 224) 2 = (((b0 : Int) - 224) * 64 + b1 - 128) * 64 + b2 - 128 := by simp [accC, e0, e1, e2]
  have hun : un s 0 = if (b1 / 64 = 2 ∧ b2 / 64 = 2) ∧ (b0 % 16 * 4096 + b1 % 64 * 64 + b2 % 64 ≥ 2048 ∧ (b0 % 16 * 4096 + b1 % 64 * 64 + b2 % 64 < 55296 ∨ 57344 ≤ b0 % 16 * 4096 + b1 % 64 * 64 + b2 % 64)) then (b0 % 16 * 4096 + b1 % 64 * 64 + b2 % 64, 3) else (65533, 1) := by
    unfold un decodeN
    simp only [Nat.zero_add, e0, e1, e2]
    rw [e0] at h1 h2
    by_cases c : b1 / 64 = 2 ∧ b2 / 64 = 2
    · rw [if_neg (by omega), if_neg (by omega), if_pos ⟨by omega, ⟨by omega, c.1⟩, by omega, c.2⟩]
      by_cases d : (b0 % 16 * 4096 + b1 % 64 * 64 + b2 % 64 ≥ 2048 ∧ (b0 % 16 * 4096 + b1 % 64 * 64 + b2 % 64 < 55296 ∨ 57344 ≤ b0 % 16 * 4096 + b1 % 64 * 64 + b2 % 64))
      · rw [if_pos (by omega), if_pos ⟨c, d⟩]
      · rw [if_neg (by omega), if_neg (fun q => d q.2)]
    · rw [if_neg (by omega), if_neg (by omega), if_neg (fun q => c ⟨q.2.1.2, q.2.2.2⟩), if_neg (by omega), if_neg (fun q => c q.1)]
  rw [e1] at hb1
  rw [e2] at hb2
  rw [e0] at h1 h2
  constructor
  · intro hc hv hz
    rw [ea] at hz hv ⊢
    obtain ⟨g1, g2⟩ := hc 1 (by omega) (by omega)
    obtain ⟨g3, g4⟩ := hc 2 (by omega) (by omega)
    rw [e1] at g1 g2
    rw [e2] at g3 g4
    rw [(show ((2 : Nat) : Int) + 1 = 3 by rfl), (sizeN_iff _).2.2.1] at hz
    rw [valid_iff] at hv
    rw [if_pos (by omega)] at hun
    rw [ch_val hun (.inr (by omega))]
    omega
  · intro j j1 j2 hn
    have : j = 1 ∨ j = 2 := by omega
    rcases this with rfl | rfl
    · rw [e1] at hn
      rw [if_neg (by omega)] at hun
      exact ch_none hun
    · rw [e2] at hn
      rw [if_neg (by omega)] at hun
      exact ch_none hun
  · intro hc hv
    rw [ea, valid_no] at hv
    obtain ⟨g1, g2⟩ := hc 1 (by omega) (by omega)
    obtain ⟨g3, g4⟩ := hc 2 (by omega) (by omega)
    rw [e1] at g1 g2
    rw [e2] at g3 g4
    rw [if_neg (by omega)] at hun
    exact ch_none hun
  · intro hc hz
    rw [ea] at hz
    obtain ⟨g1, g2⟩ := hc 1 (by omega) (by omega)
    obtain ⟨g3, g4⟩ := hc 2 (by omega) (by omega)
    rw [e1] at g1 g2
    rw [e2] at g3 g4
    rw [(show ((2 : Nat) : Int) + 1 = 3 by rfl), ne_eq, (sizeN_iff _).2.2.1] at hz
    rw [if_neg (by omega)] at hun
    exact ch_none hun

set_option maxHeartbeats 1000000 in
theorem ans_four {s : ByteArray} (h1 : 240 ≤ bt s 0) (h2 : bt s 0 < 248) (hs : 3 < s.size) : Ans s ((bt s 0 : Int) - 240) 3 (ch s 0) := by
  have hb1 := bt_lt s 1
  have hb2 := bt_lt s 2
  have hb3 := bt_lt s 3
  obtain ⟨b0, e0⟩ : ∃ b, bt s 0 = b := ⟨_, rfl⟩
  obtain ⟨b1, e1⟩ : ∃ b, bt s 1 = b := ⟨_, rfl⟩
  obtain ⟨b2, e2⟩ : ∃ b, bt s 2 = b := ⟨_, rfl⟩
  obtain ⟨b3, e3⟩ : ∃ b, bt s 3 = b := ⟨_, rfl⟩
  have ea : accC s ((bt s 0 : Int) - 240) 3 = ((((b0 : Int) - 240) * 64 + b1 - 128) * 64 + b2 - 128) * 64 + b3 - 128 := by simp [accC, e0, e1, e2, e3]
  have hun : un s 0 = if (b1 / 64 = 2 ∧ b2 / 64 = 2 ∧ b3 / 64 = 2) ∧ (b0 % 8 * 262144 + b1 % 64 * 4096 + b2 % 64 * 64 + b3 % 64 ≥ 65536 ∧ b0 % 8 * 262144 + b1 % 64 * 4096 + b2 % 64 * 64 + b3 % 64 ≤ 1114111) then (b0 % 8 * 262144 + b1 % 64 * 4096 + b2 % 64 * 64 + b3 % 64, 4) else (65533, 1) := by
    unfold un decodeN
    simp only [Nat.zero_add, e0, e1, e2, e3]
    rw [e0] at h1 h2
    by_cases c : b1 / 64 = 2 ∧ b2 / 64 = 2 ∧ b3 / 64 = 2
    · rw [if_neg (by omega), if_neg (by omega), if_neg (by omega), if_pos ⟨by omega, ⟨by omega, c.1⟩, ⟨by omega, c.2.1⟩, by omega, c.2.2⟩]
      by_cases d : (b0 % 8 * 262144 + b1 % 64 * 4096 + b2 % 64 * 64 + b3 % 64 ≥ 65536 ∧ b0 % 8 * 262144 + b1 % 64 * 4096 + b2 % 64 * 64 + b3 % 64 ≤ 1114111)
      · rw [if_pos (by omega), if_pos ⟨c, d⟩]
      · rw [if_neg (by omega), if_neg (fun q => d q.2)]
    · rw [if_neg (by omega), if_neg (by omega), if_neg (by omega), if_neg (fun q => c ⟨q.2.1.2, q.2.2.1.2, q.2.2.2.2⟩), if_neg (fun q => c q.1)]
  rw [e1] at hb1
  rw [e2] at hb2
  rw [e3] at hb3
  rw [e0] at h1 h2
  constructor
  · intro hc hv hz
    rw [ea] at hz hv ⊢
    obtain ⟨g1, g2⟩ := hc 1 (by omega) (by omega)
    obtain ⟨g3, g4⟩ := hc 2 (by omega) (by omega)
    obtain ⟨g5, g6⟩ := hc 3 (by omega) (by omega)
    rw [e1] at g1 g2
    rw [e2] at g3 g4
    rw [e3] at g5 g6
    rw [(show ((3 : Nat) : Int) + 1 = 4 by rfl), (sizeN_iff _).2.2.2] at hz
    rw [valid_iff] at hv
    rw [if_pos (by omega)] at hun
    rw [ch_val hun (.inr (by omega))]
    omega
  · intro j j1 j2 hn
    have : j = 1 ∨ j = 2 ∨ j = 3 := by omega
    rcases this with rfl | rfl | rfl
    · rw [e1] at hn
      rw [if_neg (by omega)] at hun
      exact ch_none hun
    · rw [e2] at hn
      rw [if_neg (by omega)] at hun
      exact ch_none hun
    · rw [e3] at hn
      rw [if_neg (by omega)] at hun
      exact ch_none hun
  · intro hc hv
    rw [ea, valid_no] at hv
    obtain ⟨g1, g2⟩ := hc 1 (by omega) (by omega)
    obtain ⟨g3, g4⟩ := hc 2 (by omega) (by omega)
    obtain ⟨g5, g6⟩ := hc 3 (by omega) (by omega)
    rw [e1] at g1 g2
    rw [e2] at g3 g4
    rw [e3] at g5 g6
    rw [if_neg (by omega)] at hun
    exact ch_none hun
  · intro hc hz
    rw [ea] at hz
    obtain ⟨g1, g2⟩ := hc 1 (by omega) (by omega)
    obtain ⟨g3, g4⟩ := hc 2 (by omega) (by omega)
    obtain ⟨g5, g6⟩ := hc 3 (by omega) (by omega)
    rw [e1] at g1 g2
    rw [e2] at g3 g4
    rw [e3] at g5 g6
    rw [(show ((3 : Nat) : Int) + 1 = 4 by rfl), ne_eq, (sizeN_iff _).2.2.2] at hz
    rw [if_neg (by omega)] at hun
    exact ch_none hun

theorem ans_one {s : ByteArray} (h : bt s 0 < 128) : Ans s (bt s 0) 0 (ch s 0) := by
  constructor
  · intro _ _ _; exact ch_one h
  · intro j a b; omega
  · intro _ hv; rw [valid_no] at hv; simp only [accC] at hv; omega
  · intro _ hz
    simp only [accC] at hz
    rw [(show ((0 : Nat) : Int) + 1 = 1 by rfl), ne_eq, (sizeN_iff _).1] at hz
    omega

/-- a good unit's length is its character's -/
theorem sz_good {s : ByteArray} {i : Nat} (hc : 0 ≤ ch s i) (hi : i < s.size) : (sz s i : Int) = sizeN (ch s i) := by
  obtain ⟨h1, h2⟩ := good_bytes hi hc
  have hz := sz_in hi
  have hl : (encodeRune (ch s i)).length = sz s i := by
    rw [h2, ← Lib.size_eq, size_extract s i _ hz]; omega
  unfold encodeRune at hl
  rw [List.length_map] at hl
  rw [← hl]
  rcases enc_shape h1 with ⟨a, b, e⟩ | ⟨a, b, e⟩ | ⟨a, e⟩ | ⟨a, b, e⟩
  · rw [e]; exact ((sizeN_iff _).1.2 (by omega)).symm
  · rw [e]; exact ((sizeN_iff _).2.1.2 (by omega)).symm
  · rw [e]; exact ((sizeN_iff _).2.2.1.2 (by omega)).symm
  · rw [e]; exact ((sizeN_iff _).2.2.2.2 (by omega)).symm
end Bod
namespace Bod
open Go Go.Lib

/-- all boundaries, rising -/
def bl (s : ByteArray) : List Nat := offs s 0 ++ [s.size]
theorem bl_len (s : ByteArray) : (bl s).length = (offs s 0).length + 1 := by simp [bl]

theorem mem_offs (s : ByteArray) : ∀ (f i : Nat), s.size - i ≤ f → B s i → ∀ j, j ∈ offs s i ↔ (i ≤ j ∧ j < s.size ∧ B s j)
  | 0, i, hf, _, j => by
    rw [offs_end (by omega)]
    constructor
    · intro h; cases h
    · intro h; omega
  | f + 1, i, hf, hB, j => by
    by_cases hi : i < s.size
    · have h1 := sz_pos hi
      rw [offs_step hi, List.mem_cons, mem_offs s f (i + sz s i) (by omega) (B_next hB hi) j]
      constructor
      · rintro (rfl | ⟨a, b, c⟩)
        · exact ⟨Nat.le_refl _, hi, hB⟩
        · exact ⟨by omega, b, c⟩
      · rintro ⟨a, b, c⟩
        by_cases e : j = i
        · exact .inl e
        · refine .inr ⟨?_, b, c⟩
          by_cases g : j < i + sz s i
          · exact absurd c (not_B (i := i) (by omega) g)
          · omega
    · rw [offs_end (by omega)]
      constructor
      · intro h; cases h
      · intro h; omega
theorem mem_bl (s : ByteArray) (j : Nat) : j ∈ bl s ↔ B s j := by
  unfold bl
  rw [List.mem_append, mem_offs s s.size 0 (by omega) (B_zero s) j, List.mem_singleton]
  constructor
  · rintro (h | rfl)
    · exact h.2.2
    · exact B_end s
  · intro h
    by_cases e : j = s.size
    · exact .inr e
    · exact .inl ⟨by omega, by have := h.1; omega, h⟩
theorem offs_ge (s : ByteArray) : ∀ (f i : Nat), s.size - i ≤ f → ∀ j, j ∈ offs s i → i ≤ j ∧ j < s.size
  | 0, i, hf, j, h => by rw [offs_end (by omega)] at h; cases h
  | f + 1, i, hf, j, h => by
    by_cases hi : i < s.size
    · have h1 := sz_pos hi
      rw [offs_step hi, List.mem_cons] at h
      rcases h with rfl | h
      · exact ⟨Nat.le_refl _, hi⟩
      · have := offs_ge s f _ (by omega) j h; omega
    · rw [offs_end (by omega)] at h; cases h
theorem offs_pw (s : ByteArray) : ∀ (f i : Nat), s.size - i ≤ f → (offs s i).Pairwise (· < ·)
  | 0, i, hf => by rw [offs_end (by omega)]; exact .nil
  | f + 1, i, hf => by
    by_cases hi : i < s.size
    · have h1 := sz_pos hi
      rw [offs_step hi]
      refine .cons (fun j hj => ?_) (offs_pw s f _ (by omega))
      have := offs_ge s f _ (by omega) j hj; omega
    · rw [offs_end (by omega)]; exact .nil
theorem bl_pw (s : ByteArray) : (bl s).Pairwise (· < ·) := by
  unfold bl
  rw [List.pairwise_append]
  refine ⟨offs_pw s _ 0 (Nat.le_refl _), List.pairwise_singleton _ _, fun a ha b hb => ?_⟩
  rw [List.mem_singleton] at hb
  have := offs_ge s _ 0 (Nat.le_refl _) a ha
  omega
def blAt (s : ByteArray) (k : Nat) : Nat := (bl s).getD k 0
theorem blAt_mem {s : ByteArray} {k : Nat} (h : k < (bl s).length) : blAt s k ∈ bl s := by
  unfold blAt
  rw [List.getD, List.getElem?_eq_getElem h]
  exact List.getElem_mem h
theorem blAt_B {s : ByteArray} {k : Nat} (h : k < (bl s).length) : B s (blAt s k) := (mem_bl s _).1 (blAt_mem h)
theorem blAt_lt {s : ByteArray} {j k : Nat} (hk : k < (bl s).length) (h : j < k) : blAt s j < blAt s k := by
  unfold blAt
  rw [List.getD, List.getD, List.getElem?_eq_getElem hk, List.getElem?_eq_getElem (show j < (bl s).length by omega)]
  exact List.pairwise_iff_getElem.1 (bl_pw s) j k _ _ h
theorem mem_blAt {s : ByteArray} {b : Nat} (h : B s b) : ∃ k, k < (bl s).length ∧ blAt s k = b := by
  obtain ⟨k, hk, e⟩ := List.getElem_of_mem ((mem_bl s b).2 h)
  refine ⟨k, hk, ?_⟩
  unfold blAt
  rw [List.getD, List.getElem?_eq_getElem hk]
  exact e

/-- d is what Down of i is, by the list -/
structure IsDown (s : ByteArray) (i : Int) (d : Nat) : Prop where
  bd : B s d
  lo : i < 0 → d = 0
  le : 0 ≤ i → (d : Int) ≤ i
  mx : ∀ b, B s b → (b : Int) ≤ i → b ≤ d
theorem IsDown.uniq {s : ByteArray} {i : Int} {d e : Nat} (h : IsDown s i d) (k : IsDown s i e) : d = e := by
  by_cases c : i < 0
  · rw [h.lo c, k.lo c]
  · have h1 := h.mx e k.bd (k.le (by omega))
    have h2 := k.mx d h.bd (h.le (by omega))
    omega
theorem isDown_downZ (s : ByteArray) (i : Int) : IsDown s i (downZ s i).toNat ∧ 0 ≤ downZ s i := by
  by_cases h0 : i ≤ 0
  · have e : downZ s i = 0 := by unfold downZ; rw [if_pos h0]
    rw [e]
    exact ⟨⟨B_zero s, fun _ => rfl, fun _ => by simp; omega, fun b _ hb => by omega⟩, by omega⟩
  · by_cases h1 : (s.size : Int) ≤ i
    · have e : downZ s i = s.size := by unfold downZ; rw [if_neg h0, if_pos h1]
      rw [e]
      exact ⟨⟨B_end s, fun _ => by omega, fun _ => by simp; omega, fun b hB _ => by have := hB.1; simp; omega⟩, by omega⟩
    · obtain ⟨k, rfl⟩ := Int.eq_ofNat_of_zero_le (show 0 ≤ i by omega)
      have hk : k < s.size := by omega
      have hD := dnF_Dn hk
      have e : downZ s k = dnF s k := downZ_in hk hD
      rw [e]
      refine ⟨⟨hD.bd, fun _ => by omega, fun _ => by have := hD.le; simp; omega, fun b hB hb => ?_⟩, by omega⟩
      simp only [Int.toNat_natCast]
      by_cases c : b ≤ dnF s k
      · exact c
      · exact absurd hB (not_B (i := dnF s k) (by omega) (by have := hD.gt; omega))
theorem down_of {s : ByteArray} {i : Int} {d : Nat} (h : IsDown s i d) : (d : Int) = downZ s i := by
  obtain ⟨a, b⟩ := isDown_downZ s i
  have := h.uniq a
  omega
theorem prev_eq (s : ByteArray) (i : Int) : prevZ s i = downZ s (i - 1) := by
  unfold prevZ
  by_cases h : i ≤ 0
  · rw [if_pos h]; unfold downZ; rw [if_pos (by omega)]
  · rw [if_neg h]

/-- u is what Next of i is, by the list -/
structure IsNext (s : ByteArray) (i : Int) (u : Nat) : Prop where
  bd : B s u
  mn : ∀ b, B s b → i < b → u ≤ b
  gt : i < u ∨ u = s.size
theorem IsNext.uniq {s : ByteArray} {i : Int} {u v : Nat} (h : IsNext s i u) (k : IsNext s i v) : u = v := by
  have a := h.bd.1
  have b := k.bd.1
  rcases h.gt with h1 | h1
  · rcases k.gt with k1 | k1
    · have := h.mn v k.bd k1; have := k.mn u h.bd h1; omega
    · have := k.mn u h.bd h1; omega
  · rcases k.gt with k1 | k1
    · have := h.mn v k.bd k1; omega
    · omega
theorem isNext_nextZ (s : ByteArray) (i : Int) : IsNext s i (nextZ s i).toNat ∧ 0 ≤ nextZ s i := by
  by_cases h0 : i < 0
  · have e : nextZ s i = 0 := by unfold nextZ; rw [if_pos h0]
    rw [e]
    exact ⟨⟨B_zero s, fun _ _ _ => by simp, .inl (by simp; omega)⟩, by omega⟩
  · by_cases h1 : (s.size : Int) ≤ i
    · have e : nextZ s i = s.size := by unfold nextZ; rw [if_neg h0, if_pos h1]
      rw [e]
      exact ⟨⟨B_end s, fun b hB hb => by have := hB.1; omega, .inr (by simp)⟩, by omega⟩
    · obtain ⟨k, rfl⟩ := Int.eq_ofNat_of_zero_le (show 0 ≤ i by omega)
      have hk : k < s.size := by omega
      have hD := dnF_Dn hk
      have hle := hD.le
      have e : nextZ s k = ((dnF s k + sz s (dnF s k) : Nat) : Int) := nextZ_in hk hD
      rw [e]
      refine ⟨⟨B_next hD.bd (by omega), fun b hB hb => ?_, .inl (by have := hD.gt; simp; omega)⟩, by omega⟩
      simp only [Int.toNat_natCast]
      by_cases c : dnF s k + sz s (dnF s k) ≤ b
      · exact c
      · exact absurd hB (not_B (i := dnF s k) (by omega) (by omega))
theorem next_of {s : ByteArray} {i : Int} {u : Nat} (h : IsNext s i u) : (u : Int) = nextZ s i := by
  obtain ⟨a, b⟩ := isNext_nextZ s i
  have := h.uniq a
  omega
theorem up_eq (s : ByteArray) (i : Int) : upZ s i = nextZ s (i - 1) := by
  unfold upZ
  cases hb : bdZ s i with
  | true =>
    have h0 : 0 ≤ i ∧ i ≤ s.size := by
      by_cases c : i < 0 ∨ (s.size : Int) < i
      · rw [bdZ_out s i c] at hb; cases hb
      · omega
    obtain ⟨k, rfl⟩ := Int.eq_ofNat_of_zero_le h0.1
    have hB := (bdZ_iff s k).1 hb
    rw [if_pos rfl]
    exact next_of ⟨hB, fun b _ h => by omega, .inl (by omega)⟩
  | false =>
    rw [if_neg (by simp)]
    obtain ⟨h, h0⟩ := isNext_nextZ s i
    have : IsNext s (i - 1) (nextZ s i).toNat := by
      refine ⟨h.bd, fun b hB hb2 => ?_, h.gt.imp (fun g => by omega) id⟩
      by_cases c : (b : Int) = i
      · subst c; rw [(bdZ_iff s b).2 hB] at hb; cases hb
      · exact h.mn b hB (by omega)
    have := next_of this
    omega
/-- what At of i is -/
def atB (s : ByteArray) (i : Int) : Bool := bdZ s i && decide (i < s.size)
def atC (s : ByteArray) (i : Int) : Int := if atB s i then ch s i.toNat else 0
def atS (s : ByteArray) (i : Int) : Int := if atB s i then sz s i.toNat else 0
theorem atB_iff (s : ByteArray) (i : Nat) : atB s i = true ↔ i ∈ offs s 0 := by
  unfold atB
  rw [Bool.and_eq_true, bdZ_iff, decide_eq_true_eq, mem_offs s s.size 0 (by omega) (B_zero s) i]
  constructor
  · rintro ⟨a, b⟩; exact ⟨by omega, by omega, a⟩
  · rintro ⟨_, b, c⟩; exact ⟨c, by omega⟩
theorem atB_neg (s : ByteArray) (i : Int) (h : i < 0) : atB s i = false := by
  unfold atB; rw [bdZ_out s i (.inl h)]; rfl
end Bod
