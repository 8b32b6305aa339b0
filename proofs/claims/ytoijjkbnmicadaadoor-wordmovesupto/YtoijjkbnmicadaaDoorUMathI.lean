/-
  Plain facts on the list of a text's boundaries, and what it tells of Down, Up, Next and Prev. No program is named here; no conditions.
-/
import Derived.Test.YtoijjkbnmicadaaDoorUMathC
namespace Bod
open Go Go.Lib

/-- all boundaries, rising -/
def bl (s : ByteArray) : List Nat := offs s 0 ++ [s.size]
theorem bl_len (s : ByteArray) : (bl s).length = (offs s 0).length + 1 := by simp [bl]

theorem mem_offs (s : ByteArray) : ∀ (f i : Nat), s.size - i ≤ f → B s i → ∀ j, j ∈ offs s i ↔ (i ≤ j ∧ j < s.size ∧ B s j)
  | 0, i, hf, _, j => by
    rw [offs_end (by omega)]
    constructor
    · intro h; cases h
    · intro h; omega
  | f + 1, i, hf, hB, j => by
    by_cases hi : i < s.size
    · have h1 := sz_pos hi
      rw [offs_step hi, List.mem_cons, mem_offs s f (i + sz s i) (by omega) (B_next hB hi) j]
      constructor
      · rintro (rfl | ⟨a, b, c⟩)
        · exact ⟨Nat.le_refl _, hi, hB⟩
        · exact ⟨by omega, b, c⟩
      · rintro ⟨a, b, c⟩
        by_cases e : j = i
        · exact .inl e
        · refine .inr ⟨?_, b, c⟩
          by_cases g : j < i + sz s i
          · exact absurd c (not_B (i := i) (by omega) g)
          · omega
    · rw [offs_end (by omega)]
      constructor
      · intro h; cases h
      · intro h; omega
theorem mem_bl (s : ByteArray) (j : Nat) : j ∈ bl s ↔ B s j := by
  unfold bl
  rw [List.mem_append, mem_offs s s.size 0 (by omega) (B_zero s) j, List.mem_singleton]
  constructor
  · rintro (h | rfl)
    · exact h.2.2
    · exact B_end s
  · intro h
    by_cases e : j = s.size
    · exact .inr e
    · exact .inl ⟨by omega, by have := h.1; omega, h⟩
theorem offs_ge (s : ByteArray) : ∀ (f i : Nat), s.size - i ≤ f → ∀ j, j ∈ offs s i → i ≤ j ∧ j < s.size
  | 0, i, hf, j, h => by rw [offs_end (by omega)] at h; cases h
  | f + 1, i, hf, j, h => by
    by_cases hi : i < s.size
    · have h1 := sz_pos hi
      rw [offs_step hi, List.mem_cons] at h
      rcases h with rfl | h
      · exact ⟨Nat.le_refl _, hi⟩
      · have := offs_ge s f _ (by omega) j h; omega
    · rw [offs_end (by omega)] at h; cases h
theorem offs_pw (s : ByteArray) : ∀ (f i : Nat), s.size - i ≤ f → (offs s i).Pairwise (· < ·)
  | 0, i, hf => by rw [offs_end (by omega)]; exact .nil
  | f + 1, i, hf => by
    by_cases hi : i < s.size
    · have h1 := sz_pos hi
      rw [offs_step hi]
      refine .cons (fun j hj => ?_) (offs_pw s f _ (by omega))
      have := offs_ge s f _ (by omega) j hj; omega
    · rw [offs_end (by omega)]; exact .nil
theorem bl_pw (s : ByteArray) : (bl s).Pairwise (· < ·) := by
  unfold bl
  rw [List.pairwise_append]
  refine ⟨offs_pw s _ 0 (Nat.le_refl _), List.pairwise_singleton _ _, fun a ha b hb => ?_⟩
  rw [List.mem_singleton] at hb
  have := offs_ge s _ 0 (Nat.le_refl _) a ha
  omega
def blAt (s : ByteArray) (k : Nat) : Nat := (bl s).getD k 0
theorem blAt_mem {s : ByteArray} {k : Nat} (h : k < (bl s).length) : blAt s k ∈ bl s := by
  unfold blAt
  rw [List.getD, List.getElem?_eq_getElem h]
  exact List.getElem_mem h
theorem blAt_B {s : ByteArray} {k : Nat} (h : k < (bl s).length) : B s (blAt s k) := (mem_bl s _).1 (blAt_mem h)
theorem blAt_lt {s : ByteArray} {j k : Nat} (hk : k < (bl s).length) (h : j < k) : blAt s j < blAt s k := by
  unfold blAt
  rw [List.getD, List.getD, List.getElem?_eq_getElem hk, List.getElem?_eq_getElem (show j < (bl s).length by omega)]
  exact List.pairwise_iff_getElem.1 (bl_pw s) j k _ _ h
theorem mem_blAt {s : ByteArray} {b : Nat} (h : B s b) : ∃ k, k < (bl s).length ∧ blAt s k = b := by
  obtain ⟨k, hk, e⟩ := List.getElem_of_mem ((mem_bl s b).2 h)
  refine ⟨k, hk, ?_⟩
  unfold blAt
  rw [List.getD, List.getElem?_eq_getElem hk]
  exact e

/-- d is what Down of i is, by the list -/
structure IsDown (s : ByteArray) (i : Int) (d : Nat) : Prop where
  bd : B s d
  lo : i < 0 → d = 0
  le : 0 ≤ i → (d : Int) ≤ i
  mx : ∀ b, B s b → (b : Int) ≤ i → b ≤ d
theorem IsDown.uniq {s : ByteArray} {i : Int} {d e : Nat} (h : IsDown s i d) (k : IsDown s i e) : d = e := by
  by_cases c : i < 0
  · rw [h.lo c, k.lo c]
  · have h1 := h.mx e k.bd (k.le (by omega))
    have h2 := k.mx d h.bd (h.le (by omega))
    omega
theorem isDown_downZ (s : ByteArray) (i : Int) : IsDown s i (downZ s i).toNat ∧ 0 ≤ downZ s i := by
  by_cases h0 : i ≤ 0
  · have e : downZ s i = 0 := by unfold downZ; rw [if_pos h0]
    rw [e]
    exact ⟨⟨B_zero s, fun _ => rfl, fun _ => by simp; omega, fun b _ hb => by omega⟩, by omega⟩
  · by_cases h1 : (s.size : Int) ≤ i
    · have e : downZ s i = s.size := by unfold downZ; rw [if_neg h0, if_pos h1]
      rw [e]
      exact ⟨⟨B_end s, fun _ => by omega, fun _ => by simp; omega, fun b hB _ => by have := hB.1; simp; omega⟩, by omega⟩
    · obtain ⟨k, rfl⟩ := Int.eq_ofNat_of_zero_le (show 0 ≤ i by omega)
      have hk : k < s.size := by omega
      have hD := dnF_Dn hk
      have e : downZ s k = dnF s k := downZ_in hk hD
      rw [e]
      refine ⟨⟨hD.bd, fun _ => by omega, fun _ => by have := hD.le; simp; omega, fun b hB hb => ?_⟩, by omega⟩
      simp only [Int.toNat_natCast]
      by_cases c : b ≤ dnF s k
      · exact c
      · exact absurd hB (not_B (i := dnF s k) (by omega) (by have := hD.gt; omega))
theorem down_of {s : ByteArray} {i : Int} {d : Nat} (h : IsDown s i d) : (d : Int) = downZ s i := by
  obtain ⟨a, b⟩ := isDown_downZ s i
  have := h.uniq a
  omega
theorem prev_eq (s : ByteArray) (i : Int) : prevZ s i = downZ s (i - 1) := by
  unfold prevZ
  by_cases h : i ≤ 0
  · rw [if_pos h]; unfold downZ; rw [if_pos (by omega)]
  · rw [if_neg h]

/-- u is what Next of i is, by the list -/
structure IsNext (s : ByteArray) (i : Int) (u : Nat) : Prop where
  bd : B s u
  mn : ∀ b, B s b → i < b → u ≤ b
  gt : i < u ∨ u = s.size
theorem IsNext.uniq {s : ByteArray} {i : Int} {u v : Nat} (h : IsNext s i u) (k : IsNext s i v) : u = v := by
  have a := h.bd.1
  have b := k.bd.1
  rcases h.gt with h1 | h1
  · rcases k.gt with k1 | k1
    · have := h.mn v k.bd k1; have := k.mn u h.bd h1; omega
    · have := k.mn u h.bd h1; omega
  · rcases k.gt with k1 | k1
    · have := h.mn v k.bd k1; omega
    · omega
theorem isNext_nextZ (s : ByteArray) (i : Int) : IsNext s i (nextZ s i).toNat ∧ 0 ≤ nextZ s i := by
  by_cases h0 : i < 0
  · have e : nextZ s i = 0 := by unfold nextZ; rw [if_pos h0]
    rw [e]
    exact ⟨⟨B_zero s, fun _ _ _ => by simp, .inl (by simp; omega)⟩, by omega⟩
  · by_cases h1 : (s.size : Int) ≤ i
    · have e : nextZ s i = s.size := by unfold nextZ; rw [if_neg h0, if_pos h1]
      rw [e]
      exact ⟨⟨B_end s, fun b hB hb => by have := hB.1; omega, .inr (by simp)⟩, by omega⟩
    · obtain ⟨k, rfl⟩ := Int.eq_ofNat_of_zero_le (show 0 ≤ i by omega)
      have hk : k < s.size := by omega
      have hD := dnF_Dn hk
      have hle := hD.le
      have e : nextZ s k = ((dnF s k + sz s (dnF s k) : Nat) : Int) := nextZ_in hk hD
      rw [e]
      refine ⟨⟨B_next hD.bd (by omega), fun b hB hb => ?_, .inl (by have := hD.gt; simp; omega)⟩, by omega⟩
      simp only [Int.toNat_natCast]
      by_cases c : dnF s k + sz s (dnF s k) ≤ b
      · exact c
      · exact absurd hB (not_B (i := dnF s k) (by omega) (by omega))
theorem next_of {s : ByteArray} {i : Int} {u : Nat} (h : IsNext s i u) : (u : Int) = nextZ s i := by
  obtain ⟨a, b⟩ := isNext_nextZ s i
  have := h.uniq a
  omega
theorem up_eq (s : ByteArray) (i : Int) : upZ s i = nextZ s (i - 1) := by
  unfold upZ
  cases hb : bdZ s i with
  | true =>
    have h0 : 0 ≤ i ∧ i ≤ s.size := by
      by_cases c : i < 0 ∨ (s.size : Int) < i
      · rw [bdZ_out s i c] at hb; cases hb
      · omega
    obtain ⟨k, rfl⟩ := Int.eq_ofNat_of_zero_le h0.1
    have hB := (bdZ_iff s k).1 hb
    rw [if_pos rfl]
    exact next_of ⟨hB, fun b _ h => by omega, .inl (by omega)⟩
  | false =>
    rw [if_neg (by simp)]
    obtain ⟨h, h0⟩ := isNext_nextZ s i
    have : IsNext s (i - 1) (nextZ s i).toNat := by
      refine ⟨h.bd, fun b hB hb2 => ?_, h.gt.imp (fun g => by omega) id⟩
      by_cases c : (b : Int) = i
      · subst c; rw [(bdZ_iff s b).2 hB] at hb; cases hb
      · exact h.mn b hB (by omega)
    have := next_of this
    omega
/-- what At of i is -/
def atB (s : ByteArray) (i : Int) : Bool := bdZ s i && decide (i < s.size)
def atC (s : ByteArray) (i : Int) : Int := if atB s i then ch s i.toNat else 0
def atS (s : ByteArray) (i : Int) : Int := if atB s i then sz s i.toNat else 0
theorem atB_iff (s : ByteArray) (i : Nat) : atB s i = true ↔ i ∈ offs s 0 := by
  unfold atB
  rw [Bool.and_eq_true, bdZ_iff, decide_eq_true_eq, mem_offs s s.size 0 (by omega) (B_zero s) i]
  constructor
  · rintro ⟨a, b⟩; exact ⟨by omega, by omega, a⟩
  · rintro ⟨_, b, c⟩; exact ⟨c, by omega⟩
theorem atB_neg (s : ByteArray) (i : Int) (h : i < 0) : atB s i = false := by
  unfold atB; rw [bdZ_out s i (.inl h)]; rfl
end Bod
