/-
  Words in plain words: the greatest runs of marked clusters, by one walk from the left; the same word by word, as the document's own copy finds them. No program in this text; no conditions.
-/
import Derived.Test.YtoijjkbnmicadaaDoorWMath
namespace Go.Proofs.YtoijjkbnmicadaaDoor
open Bod Wid

/-- the spans of the greatest runs, an open one carried along -/
def wrun (p : Clu → Bool) : Option (Nat × Nat) → List Clu → List (Nat × Nat)
  | none, [] => []
  | some x, [] => [x]
  | none, c :: r => if p c then wrun p (some (c.fr, c.to)) r else wrun p none r
  | some x, c :: r => if p c then wrun p (some (x.1, c.to)) r else x :: wrun p none r
/-- the words of a list of clusters -/
def wsp (p : Clu → Bool) (l : List Clu) : List (Nat × Nat) := wrun p none l
/-- where a run that is open at t ends -/
def lastTo (p : Clu → Bool) : Nat → List Clu → Nat
  | t, [] => t
  | t, c :: r => if p c then lastTo p c.to r else t
theorem wrun_some (p : Clu → Bool) : ∀ (l : List Clu) (x : Nat × Nat), wrun p (some x) l = (x.1, lastTo p x.2 l) :: wrun p none (l.dropWhile p)
  | [], x => by simp [wrun, lastTo]
  | c :: r, x => by
    by_cases h : p c = true
    · simp only [wrun, lastTo, if_pos h, List.dropWhile_cons]
      exact wrun_some p r (x.1, c.to)
    · simp only [wrun, lastTo, List.dropWhile_cons, if_neg h]
/-- the words that begin at the index i or behind it -/
def wfrom (p : Clu → Bool) (l : List Clu) (i : Nat) : List (Nat × Nat) :=
  wrun p none (if i ≠ 0 ∧ (l[i - 1]?.map p).getD false = true then (l.drop i).dropWhile p else l.drop i)
theorem wfrom_zero (p : Clu → Bool) (l : List Clu) : wfrom p l 0 = wsp p l := by simp [wfrom, wsp]
theorem wfrom_end (p : Clu → Bool) (l : List Clu) {i : Nat} (h : l.length ≤ i) : wfrom p l i = [] := by
  unfold wfrom
  rw [List.drop_of_length_le h]
  simp [wrun]
theorem drop_at {l : List Clu} {i : Nat} {c : Clu} (h : l[i]? = some c) : l.drop i = c :: l.drop (i + 1) := by
  have hi := (List.getElem?_eq_some_iff.1 h).1
  rw [List.drop_eq_getElem_cons hi]
  congr 1
  exact (List.getElem?_eq_some_iff.1 h).2
/-- no word begins at a cluster that is none of a word -/
theorem wfrom_not {p : Clu → Bool} {l : List Clu} {i : Nat} {c : Clu} (h : l[i]? = some c) (hp : p c = false) : wfrom p l i = wfrom p l (i + 1) := by
  have e : wrun p none (l.drop i) = wrun p none (l.drop (i + 1)) := by rw [drop_at h]; simp [wrun, hp]
  have e2 : wrun p none ((l.drop i).dropWhile p) = wrun p none (l.drop i) := by rw [drop_at h]; simp [hp]
  unfold wfrom
  rw [if_neg (show ¬ (i + 1 ≠ 0 ∧ (l[i + 1 - 1]?.map p).getD false = true) by rw [Nat.add_sub_cancel, h]; simp [hp]), ← e]
  split
  · exact e2
  · rfl
/-- nor at one within a word -/
theorem wfrom_in {p : Clu → Bool} {l : List Clu} {i : Nat} {c d : Clu} (h : l[i + 1]? = some c) (hp : p c = true) (hd : l[i]? = some d) (hq : p d = true) : wfrom p l (i + 1) = wfrom p l (i + 1 + 1) := by
  unfold wfrom
  rw [if_pos (show i + 1 ≠ 0 ∧ (l[i + 1 - 1]?.map p).getD false = true by rw [Nat.add_sub_cancel, hd]; simp [hq]), if_pos (show i + 1 + 1 ≠ 0 ∧ (l[i + 1 + 1 - 1]?.map p).getD false = true by rw [Nat.add_sub_cancel, h]; simp [hp]), drop_at h]
  simp [hp]
/-- at a word's first cluster it is told, up to the end of its run -/
theorem wfrom_start {p : Clu → Bool} {l : List Clu} {i : Nat} {c : Clu} (h : l[i]? = some c) (hp : p c = true) (hs : i = 0 ∨ ∃ d, l[i - 1]? = some d ∧ p d = false) : wfrom p l i = (c.fr, lastTo p c.to (l.drop (i + 1))) :: wfrom p l (i + 1) := by
  unfold wfrom
  rw [if_neg (show ¬ (i ≠ 0 ∧ (l[i - 1]?.map p).getD false = true) by
    rintro ⟨h0, h1⟩
    rcases hs with hs | ⟨d, hd, hq⟩
    · exact h0 hs
    · rw [hd] at h1; simp [hq] at h1), if_pos (show i + 1 ≠ 0 ∧ (l[i + 1 - 1]?.map p).getD false = true by rw [Nat.add_sub_cancel, h]; simp [hp]), drop_at h]
  simp only [wrun, if_pos hp]
  exact wrun_some p _ _
/-- the end of a run, found index by index -/
theorem lastTo_step {p : Clu → Bool} {l : List Clu} {k : Nat} {c : Clu} {t : Nat} (h : l[k + 1]? = some c) (hp : p c = true) : lastTo p t (l.drop (k + 1)) = lastTo p c.to (l.drop (k + 1 + 1)) := by
  rw [drop_at h]
  simp [lastTo, hp]
theorem lastTo_stop {p : Clu → Bool} {l : List Clu} {k t : Nat} (h : ∀ c, l[k + 1]? = some c → p c = false) : lastTo p t (l.drop (k + 1)) = t := by
  cases hc : l[k + 1]? with
  | none =>
    rw [List.drop_of_length_le (List.getElem?_eq_none_iff.1 hc)]
    rfl
  | some c =>
    rw [drop_at hc]
    simp [lastTo, h c hc]
/-- spans lie one behind the other, apart -/
theorem wrun_len (p : Clu → Bool) : ∀ (l : List Clu) (x : Option (Nat × Nat)), (wrun p x l).length ≤ l.length + (if x.isSome then 1 else 0)
  | [], none => by simp [wrun]
  | [], some x => by simp [wrun]
  | c :: r, none => by
    by_cases h : p c = true
    · have := wrun_len p r (some (c.fr, c.to))
      simp only [wrun, if_pos h, List.length_cons]
      simpa using this
    · have := wrun_len p r none
      simp only [wrun, if_neg h, List.length_cons]
      simp at this ⊢
      omega
  | c :: r, some x => by
    by_cases h : p c = true
    · have := wrun_len p r (some (x.1, c.to))
      simp only [wrun, if_pos h, List.length_cons]
      simp at this ⊢
      omega
    · have := wrun_len p r none
      simp only [wrun, if_neg h, List.length_cons]
      simp at this ⊢
      omega
theorem wsp_len (p : Clu → Bool) (l : List Clu) : (wsp p l).length ≤ l.length := by
  have := wrun_len p l none
  show (wrun p none l).length ≤ _
  simpa using this
/-- the words of a text: its clusters marked by their first unit -/
def words (s : ByteArray) : List (Nat × Nat) := wsp (fun c => wch (ch s c.fr)) (cl s)
end Go.Proofs.YtoijjkbnmicadaaDoor
