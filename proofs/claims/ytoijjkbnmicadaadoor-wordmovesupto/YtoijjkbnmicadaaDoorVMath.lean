/-
  Package width in plain words: the tables, the class of a character, its cells, the ranges of a class; and facts about them. No program in this text. No conditions.
-/
import Derived.Test.YtoijjkbnmicadaaDoorRows
namespace Go.Proofs.YtoijjkbnmicadaaDoor
namespace Wid

def mk : List (Int × Int) := [(768, 879), (1155, 1161), (1425, 1469), (1471, 1471), (1473, 1474), (1552, 1562), (1611, 1631), (1648, 1648), (1750, 1756), (2304, 2306), (2364, 2364), (2381, 2381), (3633, 3633), (3636, 3642), (3655, 3662), (4957, 4959), (6832, 6911), (7616, 7679), (8204, 8205), (8400, 8447), (12330, 12335), (12441, 12442), (65024, 65039), (65056, 65071), (127995, 127999), (917760, 917999)]
def wd : List (Int × Int) := [(4352, 4447), (8986, 8987), (9001, 9002), (9193, 9196), (9725, 9726), (9748, 9749), (9800, 9811), (9898, 9899), (11904, 12329), (12336, 12350), (12353, 12440), (12443, 19903), (19968, 42191), (43360, 43391), (44032, 55203), (63744, 64255), (65072, 65135), (65281, 65376), (65504, 65510), (94176, 101119), (110592, 111359), (127744, 127994), (128000, 128591), (128640, 128767), (129280, 129535), (131072, 196605), (196608, 262141)]
def flat : List (Int × Int) → List Int
  | [] => []
  | p :: r => p.1 :: p.2 :: flat r
def inR (l : List (Int × Int)) (c : Int) : Bool := l.any fun p => decide (p.1 ≤ c) && decide (c ≤ p.2)
abbrev bad (c : Int) : Prop := c < 0 ∨ 1114111 < c ∨ (55296 ≤ c ∧ c ≤ 57343)
def cls (c : Int) : Int :=
  if bad c then 5 else if c = 10 then 1 else if c ≤ 31 ∨ (127 ≤ c ∧ c ≤ 159) then 2 else if c < 768 then 0
  else if inR mk c = true then 3 else if inR wd c = true then 4 else 0
def cel (c : Int) : Int := if cls c = 1 then 0 else if cls c = 4 then 2 else if cls c = 2 ∧ c ≤ 127 then 2 else 1
def rng (k : Int) : List (Int × Int) :=
  if k = 1 then [(10, 10)] else if k = 2 then [(0, 9), (11, 31), (127, 159)] else if k = 3 then mk else if k = 4 then wd else []

/-- the ranges rise, all above lo -/
def rising (lo : Int) : List (Int × Int) → Bool
  | [] => true
  | p :: r => decide (lo < p.1) && decide (p.1 ≤ p.2) && rising p.2 r

theorem mk_rising : rising 767 mk = true := by decide +kernel
theorem wd_rising : rising 767 wd = true := by decide +kernel

theorem above : ∀ (l : List (Int × Int)) (lo x : Int), rising lo l = true → x ≤ lo → (∀ y ∈ flat l, x < y) ∧ inR l x = false
  | [], _, _, _, _ => ⟨fun y h => by simp [flat] at h, rfl⟩
  | p :: r, lo, x, h, hx => by
    simp only [rising, Bool.and_eq_true, decide_eq_true_eq] at h
    obtain ⟨⟨h1, h2⟩, h3⟩ := h
    obtain ⟨a, b⟩ := above r p.2 x h3 (by omega)
    refine ⟨fun y hy => ?_, ?_⟩
    · simp only [flat, List.mem_cons] at hy
      rcases hy with rfl | rfl | hy
      · omega
      · omega
      · exact a y hy
    · unfold inR at b ⊢
      rw [List.any_cons, b, Bool.or_false]
      simp; omega
theorem countP_none (l : List Int) (x : Int) (h : ∀ y ∈ l, x < y) : l.countP (fun y => decide (y < x)) = 0 ∧ l.contains x = false := by
  refine ⟨List.countP_eq_zero.2 fun y hy => ?_, ?_⟩
  · have := h y hy; simp; omega
  · cases hc : l.contains x with
    | false => rfl
    | true => have := h x (List.contains_iff_mem.1 hc); omega

theorem within_flat : ∀ (l : List (Int × Int)) (lo : Int), rising lo l = true → ∀ x : Int,
    ((flat l).contains x || decide ((flat l).countP (fun y => decide (y < x)) % 2 = 1)) = inR l x
  | [], _, _, x => by simp [flat, inR]
  | p :: r, lo, h, x => by
    simp only [rising, Bool.and_eq_true, decide_eq_true_eq] at h
    obtain ⟨⟨h1, h2⟩, h3⟩ := h
    have ih := within_flat r p.2 h3 x
    have e1 : inR (p :: r) x = ((decide (p.1 ≤ x) && decide (x ≤ p.2)) || inR r x) := rfl
    rw [e1]
    by_cases hx2 : x ≤ p.2
    · obtain ⟨a, b⟩ := above r p.2 x h3 hx2
      obtain ⟨c0, c1⟩ := countP_none _ _ a
      rw [b]
      simp only [flat, List.contains_cons, List.countP_cons, c0, c1]
      by_cases hx1 : x < p.1
      · have q1 : ¬ x = p.1 := by omega
        have q2 : ¬ x = p.2 := by omega
        have q3 : ¬ p.1 < x := by omega
        have q4 : ¬ p.2 < x := by omega
        have q5 : ¬ p.1 ≤ x := by omega
        simp [q1, q2, q3, q4, q5]
      · have q5 : p.1 ≤ x := by omega
        have q4 : ¬ p.2 < x := by omega
        by_cases q1 : x = p.1
        · simp [q1, h2]
        · have q3 : p.1 < x := by omega
          simp [q3, q4, q5, hx2]
    · have q1 : ¬ x = p.1 := by omega
      have q2 : ¬ x = p.2 := by omega
      have q3 : p.1 < x := by omega
      have q4 : p.2 < x := by omega
      rw [← ih]
      simp [flat, q1, q2, q3, q4, hx2]
      rw [show ∀ n : Nat, (n + 1 + 1) % 2 = n % 2 from fun n => by omega]

theorem flat_sorted : ∀ (l : List (Int × Int)) (lo : Int), rising lo l = true → (flat l).Pairwise (· ≤ ·)
  | [], _, _ => .nil
  | p :: r, lo, h => by
    simp only [rising, Bool.and_eq_true, decide_eq_true_eq] at h
    obtain ⟨⟨h1, h2⟩, h3⟩ := h
    have ih := flat_sorted r p.2 h3
    obtain ⟨a, _⟩ := above r p.2 p.2 h3 (Int.le_refl _)
    simp only [flat]
    refine .cons (fun y hy => ?_) (.cons (fun y hy => ?_) ih)
    · rcases List.mem_cons.1 hy with rfl | hy
      · exact h2
      · have := a y hy; omega
    · have := a y hy; omega
theorem flat_len : ∀ l : List (Int × Int), (flat l).length = 2 * l.length
  | [] => rfl
  | p :: r => by simp only [flat, List.length_cons, flat_len r]; omega
theorem flat_get : ∀ (l : List (Int × Int)) (k : Nat), k < l.length → (flat l).getD (2 * k) 0 = (l.getD k (0, 0)).1 ∧ (flat l).getD (2 * k + 1) 0 = (l.getD k (0, 0)).2
  | [], _, h => by simp at h
  | p :: r, 0, _ => by simp [flat]
  | p :: r, k + 1, h => by
    have := flat_get r k (by simpa using h)
    rw [show 2 * (k + 1) = 2 * k + 2 by omega]
    simpa [flat] using this
end Wid
end Go.Proofs.YtoijjkbnmicadaaDoor
