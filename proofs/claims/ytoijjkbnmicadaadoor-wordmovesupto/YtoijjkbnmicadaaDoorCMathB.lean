/-
  Counting clusters in plain words: how many there are, what their cells come to. No program in this text; no conditions.
-/
import Derived.Test.YtoijjkbnmicadaaDoorCMath
namespace Go.Proofs.YtoijjkbnmicadaaDoor
open Bod Wid

theorem clF_len (s : ByteArray) : ∀ (r : List Nat) (c : Clu) (a : Int), (clF s c a r).length ≤ r.length + 1
  | [], _, _ => Nat.le_refl _
  | i :: r, c, a => by
    simp only [clF]
    split
    · have := clF_len s r (gro s c i) (ch s i); simp only [List.length_cons]; omega
    · have := clF_len s r (beg s i) (ch s i); simp only [List.length_cons]; omega
theorem cl_len (s : ByteArray) : (cl s).length ≤ s.size := by
  have h := offs_len_le s
  unfold cl
  cases ho : offs s 0 with
  | nil => simp [clL]
  | cons i r =>
    have := clF_len s r (beg s i) (ch s i)
    rw [ho] at h
    simp only [clL, List.length_cons] at h ⊢
    omega
theorem cel_bd (c : Int) : 0 ≤ cel c ∧ cel c ≤ 2 := by
  unfold cel
  repeat' split
  all_goals omega
theorem clF_n (s : ByteArray) : ∀ (r : List Nat) (c : Clu) (a : Int), 0 ≤ c.n ∧ c.n ≤ 2 → ∀ d ∈ clF s c a r, 0 ≤ d.n ∧ d.n ≤ 2
  | [], c, _, h, d, hd => by simp only [clF, List.mem_singleton] at hd; rw [hd]; exact h
  | i :: r, c, a, h, d, hd => by
    simp only [clF] at hd
    split at hd
    · refine clF_n s r _ _ ?_ d hd
      unfold gro
      simp only
      split <;> omega
    · rcases List.mem_cons.1 hd with rfl | hd
      · exact h
      · exact clF_n s r _ _ (cel_bd _) d hd
theorem cl_n (s : ByteArray) : ∀ d ∈ cl s, 0 ≤ d.n ∧ d.n ≤ 2 := by
  intro d hd
  unfold cl at hd
  cases ho : offs s 0 with
  | nil => rw [ho] at hd; simp [clL] at hd
  | cons i r =>
    rw [ho] at hd
    exact clF_n s r _ _ (cel_bd _) d hd
/-- the cells of clusters together -/
def sumN : List Clu → Int
  | [] => 0
  | c :: r => c.n + sumN r
theorem sumN_app : ∀ a b : List Clu, sumN (a ++ b) = sumN a + sumN b
  | [], _ => by simp [sumN]
  | c :: a, b => by simp only [List.cons_append, sumN, sumN_app a b]; omega
theorem sumN_bd : ∀ l : List Clu, (∀ d ∈ l, 0 ≤ d.n ∧ d.n ≤ 2) → 0 ≤ sumN l ∧ sumN l ≤ 2 * l.length
  | [], _ => by simp [sumN]
  | c :: r, h => by
    have h1 := h c (by simp)
    have h2 := sumN_bd r (fun d hd => h d (by simp [hd]))
    simp only [sumN, List.length_cons]
    omega
theorem pre_bd {s : ByteArray} {pre : List Clu} (h : pre <+: cl s) : pre.length ≤ s.size ∧ 0 ≤ sumN pre ∧ sumN pre ≤ 2 * s.size := by
  have h1 := h.length_le
  have h2 := cl_len s
  have h3 := sumN_bd pre (fun d hd => cl_n s d (h.subset hd))
  omega
end Go.Proofs.YtoijjkbnmicadaaDoor
