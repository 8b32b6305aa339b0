/-
  Package word in plain words: word characters, the pairs of small and large letters, the forms of a character; and facts about them. No program in this text; no conditions.
-/
import Derived.Test.YtoijjkbnmicadaaDoorCMath
namespace Go.Proofs.YtoijjkbnmicadaaDoor
open Bod Wid

/-- the characters from U+00AA on that are no word characters, whatever their class -/
def butR : List (Int × Int) := [(171, 180), (182, 185), (187, 191), (215, 215), (247, 247), (8192, 8203), (8206, 8303), (11776, 11903), (12288, 12292), (12296, 12320), (12336, 12336), (65072, 65135), (65281, 65295), (65306, 65312)]
/-- a word character -/
def wch (c : Int) : Bool := decide ((48 ≤ c ∧ c ≤ 57) ∨ (65 ≤ c ∧ c ≤ 90) ∨ (97 ≤ c ∧ c ≤ 122) ∨ c = 95) || (decide (170 ≤ c) && !inR butR c && decide (cls c = 3 ∨ cls c = 4 ∨ cls c = 0))
/-- pairs of the n small letters from a, step by step, each with the one by below -/
def prun (a : Int) (n : Nat) (step d : Int) : List (Int × Int) := ((List.range n).map fun (i : Nat) => (a + (i : Int) * step, a + (i : Int) * step - d)).filter fun p => decide (p.1 ≠ 305)
/-- the pairs of a small and a large letter -/
def prs : List (Int × Int) := prun 97 26 1 32 ++ prun 224 23 1 32 ++ prun 248 7 1 32 ++ [(255, 376)] ++ prun 257 28 2 1 ++ prun 331 23 2 1 ++ prun 945 17 1 32 ++ prun 963 7 1 32 ++ prun 1072 32 1 32 ++ prun 1104 16 1 80 ++ prun 1121 17 2 1
def upc (c : Int) : Int := match prs.find? (fun p => decide (p.1 = c)) with | some p => p.2 | none => c
def lowc (c : Int) : Int := match prs.find? (fun p => decide (p.2 = c)) with | some p => p.1 | none => c
theorem up_cases (c : Int) : (upc c = c ∧ ∀ p ∈ prs, p.1 ≠ c) ∨ (c, upc c) ∈ prs := by
  unfold upc
  cases h : prs.find? (fun p => decide (p.1 = c)) with
  | none =>
    refine .inl ⟨rfl, fun p hp e => ?_⟩
    have := List.find?_eq_none.1 h p hp
    simp [e] at this
  | some p =>
    refine .inr ?_
    have h1 : p.1 = c := by simpa using List.find?_some h
    have h2 := List.mem_of_find?_eq_some h
    show (c, p.2) ∈ prs
    rw [← h1]
    exact h2
theorem low_cases (c : Int) : (lowc c = c ∧ ∀ p ∈ prs, p.2 ≠ c) ∨ (lowc c, c) ∈ prs := by
  unfold lowc
  cases h : prs.find? (fun p => decide (p.2 = c)) with
  | none =>
    refine .inl ⟨rfl, fun p hp e => ?_⟩
    have := List.find?_eq_none.1 h p hp
    simp [e] at this
  | some p =>
    refine .inr ?_
    have h1 : p.2 = c := by simpa using List.find?_some h
    have h2 := List.mem_of_find?_eq_some h
    show (p.1, c) ∈ prs
    rw [← h1]
    exact h2
/-- of each pair: its forms, and what the two have in common -/
theorem prs_all : (prs.all fun p => decide (upc p.1 = p.2) && decide (lowc p.2 = p.1) && decide (upc p.2 = p.2) && decide (lowc p.1 = p.1) && (wch p.1 && wch p.2) && decide (cls p.1 = 0) && decide (cls p.2 = 0) && decide (65 ≤ p.1 ∧ p.1 < 2048) && decide (65 ≤ p.2 ∧ p.2 < 2048) && (decide (p.1 < 128) == decide (p.2 < 128)) && decide (p.1 ≠ p.2)) = true := by decide +kernel
theorem pair {a b : Int} (h : (a, b) ∈ prs) : (upc a = b ∧ lowc b = a ∧ upc b = b ∧ lowc a = a) ∧ (wch a = true ∧ wch b = true) ∧ (cls a = 0 ∧ cls b = 0) ∧ (65 ≤ a ∧ a < 2048) ∧ (65 ≤ b ∧ b < 2048) ∧ (a < 128 ↔ b < 128) ∧ a ≠ b := by
  have := List.all_eq_true.1 prs_all (a, b) h
  simp only [Bool.and_eq_true, decide_eq_true_eq, beq_iff_eq, decide_eq_decide] at this
  obtain ⟨⟨⟨⟨⟨⟨⟨⟨⟨⟨h1, h2⟩, h3⟩, h4⟩, h5⟩, h6⟩, h7⟩, h8⟩, h9⟩, h10⟩, h11⟩ := this
  exact ⟨⟨h1, h2, h3, h4⟩, h5, ⟨h6, h7⟩, h8, h9, h10, h11⟩
theorem up_wch (c : Int) : wch (upc c) = wch c := by
  rcases up_cases c with h | h
  · rw [h.1]
  · obtain ⟨_, ⟨h1, h2⟩, _⟩ := pair h; rw [h1, h2]
theorem low_wch (c : Int) : wch (lowc c) = wch c := by
  rcases low_cases c with h | h
  · rw [h.1]
  · obtain ⟨_, ⟨h1, h2⟩, _⟩ := pair h; rw [h1, h2]
theorem up_cls (c : Int) : cls (upc c) = cls c := by
  rcases up_cases c with h | h
  · rw [h.1]
  · obtain ⟨_, _, ⟨h1, h2⟩, _⟩ := pair h; rw [h1, h2]
theorem low_cls (c : Int) : cls (lowc c) = cls c := by
  rcases low_cases c with h | h
  · rw [h.1]
  · obtain ⟨_, _, ⟨h1, h2⟩, _⟩ := pair h; rw [h1, h2]
theorem up_eq {c d : Int} (hd : d < 65) : upc c = d ↔ c = d := by
  rcases up_cases c with h | h
  · rw [h.1]
  · obtain ⟨_, _, _, h1, h2, _⟩ := pair h
    constructor <;> intro e <;> omega
theorem low_eq {c d : Int} (hd : d < 65) : lowc c = d ↔ c = d := by
  rcases low_cases c with h | h
  · rw [h.1]
  · obtain ⟨_, _, _, h1, h2, _⟩ := pair h
    constructor <;> intro e <;> omega
theorem up_len (c : Int) : (upc c < 128 ↔ c < 128) ∧ (upc c < 2048 ↔ c < 2048) ∧ (upc c < 65536 ↔ c < 65536) := by
  rcases up_cases c with h | h
  · rw [h.1]; exact ⟨Iff.rfl, Iff.rfl, Iff.rfl⟩
  · obtain ⟨_, _, _, h1, h2, h3, _⟩ := pair h
    exact ⟨h3.symm, by omega, by omega⟩
theorem low_len (c : Int) : (lowc c < 128 ↔ c < 128) ∧ (lowc c < 2048 ↔ c < 2048) ∧ (lowc c < 65536 ↔ c < 65536) := by
  rcases low_cases c with h | h
  · rw [h.1]; exact ⟨Iff.rfl, Iff.rfl, Iff.rfl⟩
  · obtain ⟨_, _, _, h1, h2, h3, _⟩ := pair h
    exact ⟨h3, by omega, by omega⟩
/-- a form is a character just where the other is -/
theorem up_bad (c : Int) : bad (upc c) ↔ bad c := by
  rcases up_cases c with h | h
  · rw [h.1]
  · obtain ⟨_, _, _, h1, h2, _⟩ := pair h
    unfold bad; omega
theorem low_bad (c : Int) : bad (lowc c) ↔ bad c := by
  rcases low_cases c with h | h
  · rw [h.1]
  · obtain ⟨_, _, _, h1, h2, _⟩ := pair h
    unfold bad; omega
theorem up_up (c : Int) : upc (upc c) = upc c := by
  rcases up_cases c with h | h
  · rw [h.1, h.1]
  · exact (pair h).1.2.2.1
theorem low_low (c : Int) : lowc (lowc c) = lowc c := by
  rcases low_cases c with h | h
  · rw [h.1, h.1]
  · exact (pair h).1.2.2.2
theorem low_up (c : Int) : lowc (upc c) = lowc c := by
  rcases up_cases c with h | h
  · rw [h.1]
  · obtain ⟨⟨_, h1, _, h2⟩, _⟩ := pair h; rw [h1, h2]
theorem up_low (c : Int) : upc (lowc c) = upc c := by
  rcases low_cases c with h | h
  · rw [h.1]
  · obtain ⟨⟨h1, _, h2, _⟩, _⟩ := pair h; rw [h1, h2]
/-- what has another upper form has no other lower one, and leads back -/
theorem up_back {c : Int} (h : upc c ≠ c) : lowc c = c ∧ lowc (upc c) = c ∧ upc (upc c) = upc c := by
  rcases up_cases c with h1 | h1
  · exact absurd h1.1 h
  · obtain ⟨⟨_, e1, e2, e3⟩, _⟩ := pair h1; exact ⟨e3, e1, e2⟩
theorem low_back {c : Int} (h : lowc c ≠ c) : upc c = c ∧ upc (lowc c) = c ∧ lowc (lowc c) = lowc c := by
  rcases low_cases c with h1 | h1
  · exact absurd h1.1 h
  · obtain ⟨⟨e1, _, e2, e3⟩, _⟩ := pair h1; exact ⟨e2, e1, e3⟩
/-- what joins two units asks their classes and the ends of lines alone -/
theorem up_jn (a u : Int) : jn (upc a) (upc u) = jn a u := by
  unfold jn
  simp only [up_cls, up_eq (c := a) (d := 13) (by omega), up_eq (c := u) (d := 10) (by omega)]
theorem low_jn (a u : Int) : jn (lowc a) (lowc u) = jn a u := by
  unfold jn
  simp only [low_cls, low_eq (c := a) (d := 13) (by omega), low_eq (c := u) (d := 10) (by omega)]
end Go.Proofs.YtoijjkbnmicadaaDoor
