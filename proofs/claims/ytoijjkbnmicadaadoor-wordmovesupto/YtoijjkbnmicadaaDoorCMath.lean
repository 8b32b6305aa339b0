/-
  Clusters in plain words: which units are joined, the clusters of a text, how they are met unit by unit. No program in this text; no conditions.
-/
import Derived.Test.YtoijjkbnmicadaaDoorUMath
import Derived.Test.YtoijjkbnmicadaaDoorVMath
namespace Go.Proofs.YtoijjkbnmicadaaDoor
open Bod Wid

/-- no boundary stands between a unit of the character a and one of b behind it -/
def jn (a b : Int) : Bool := if b = 10 then decide (a = 13) else decide (cls b = 3 ∧ cls a ≠ 1 ∧ cls a ≠ 2)

structure Clu where
  fr : Nat
  to : Nat
  k : Int
  n : Int

def beg (s : ByteArray) (i : Nat) : Clu := ⟨i, i + sz s i, cls (ch s i), cel (ch s i)⟩
def gro (s : ByteArray) (c : Clu) (i : Nat) : Clu := ⟨c.fr, c.to + sz s i, if ch s i = 10 then 1 else c.k, if ch s i = 10 then 0 else c.n⟩
def clF (s : ByteArray) : Clu → Int → List Nat → List Clu
  | c, _, [] => [c]
  | c, a, i :: r => if jn a (ch s i) then clF s (gro s c i) (ch s i) r else c :: clF s (beg s i) (ch s i) r
def clL (s : ByteArray) : List Nat → List Clu
  | [] => []
  | i :: r => clF s (beg s i) (ch s i) r
/-- the clusters of a text -/
def cl (s : ByteArray) : List Clu := clL s (offs s 0)

/-- what has been met: the clusters that are over, the one under way, the character ahead -/
def step (s : ByteArray) (t : List Clu × Clu × Int) (x : Nat) : List Clu × Clu × Int :=
  if x = 0 then (t.1, beg s x, ch s x) else if jn t.2.2 (ch s x) then (t.1, gro s t.2.1 x, ch s x) else (t.1 ++ [t.2.1], beg s x, ch s x)
def st (s : ByteArray) (pre : List Nat) : List Clu × Clu × Int := pre.foldl (step s) ([], ⟨0, 0, 0, 0⟩, 0)
theorem st_snoc (s : ByteArray) (pre : List Nat) (x : Nat) : st s (pre ++ [x]) = step s (st s pre) x := by simp [st]

theorem clF_app (s : ByteArray) : ∀ (r1 r2 : List Nat) (e : List Clu) (c : Clu) (a : Int), (∀ x ∈ r1, x ≠ 0) →
    e ++ clF s c a (r1 ++ r2) = (r1.foldl (step s) (e, c, a)).1 ++ clF s (r1.foldl (step s) (e, c, a)).2.1 (r1.foldl (step s) (e, c, a)).2.2 r2
  | [], _, _, _, _, _ => rfl
  | x :: r1, r2, e, c, a, h => by
    have hx : x ≠ 0 := h x (by simp)
    have hr : ∀ y ∈ r1, y ≠ 0 := fun y hy => h y (by simp [hy])
    simp only [List.cons_append, List.foldl_cons, clF, step]
    rw [if_neg hx]
    by_cases hj : jn a (ch s x) = true
    · rw [if_pos hj, if_pos hj]
      exact clF_app s r1 r2 e _ _ hr
    · rw [if_neg hj, if_neg hj, ← clF_app s r1 r2 (e ++ [c]) _ _ hr]
      simp

theorem offs_pos (s : ByteArray) : ∀ (f i : Nat), s.size - i ≤ f → ∀ x ∈ offs s i, i ≤ x ∧ x < s.size
  | f, i, h, x, hx => by
    by_cases hi : i < s.size
    · rw [offs_step hi] at hx
      rcases List.mem_cons.1 hx with rfl | hx
      · exact ⟨Nat.le_refl _, hi⟩
      · have h1 := sz_pos hi
        cases f with
        | zero => omega
        | succ f =>
          have := offs_pos s f (i + sz s i) (by omega) x hx
          omega
    · rw [offs_end (by omega)] at hx
      simp at hx

/-- pre has come, the next unit begins at i -/
def Inv (s : ByteArray) (pre : List Nat) (i : Nat) : Prop :=
  i ≤ s.size ∧ pre ++ offs s i = offs s 0 ∧ ((pre = [] ∧ i = 0) ∨ (pre ≠ [] ∧ 0 < i ∧ (st s pre).2.1.to = i ∧ (st s pre).2.1.fr < i))
theorem inv_start (s : ByteArray) : Inv s [] 0 := ⟨Nat.zero_le _, rfl, .inl ⟨rfl, rfl⟩⟩
theorem inv_next {s : ByteArray} {pre : List Nat} {i x : Nat} (h : Inv s pre i) (hx : pre ++ [x] <+: offs s 0) : x = i ∧ i < s.size := by
  rw [← h.2.1] at hx
  have hx := (List.prefix_append_right_inj pre).1 hx
  by_cases hi : i < s.size
  · rw [offs_step hi] at hx
    obtain ⟨t, ht⟩ := hx
    exact ⟨by simpa using (List.cons.inj ht).1, hi⟩
  · rw [offs_end (by omega)] at hx
    obtain ⟨t, ht⟩ := hx
    simp at ht
theorem inv_step {s : ByteArray} {pre : List Nat} {i : Nat} (h : Inv s pre i) (hi : i < s.size) : Inv s (pre ++ [i]) (i + sz s i) := by
  obtain ⟨_, h2, h3⟩ := h
  have hp := sz_pos hi
  refine ⟨sz_in hi, by rw [← h2, offs_step hi]; simp, .inr ⟨by simp, by omega, ?_⟩⟩
  rw [st_snoc]
  unfold step
  rcases h3 with ⟨rfl, rfl⟩ | ⟨_, h4, h5, h6⟩
  · rw [if_pos rfl]; exact ⟨rfl, by show 0 < 0 + sz s 0; omega⟩
  · rw [if_neg (by omega)]
    split
    · exact ⟨by show _ + sz s i = _; rw [h5], by show (st s pre).2.1.fr < _; omega⟩
    · exact ⟨rfl, by show i < i + sz s i; omega⟩
theorem inv_cl {s : ByteArray} {pre : List Nat} {i : Nat} (h : Inv s pre i) (hp : pre ≠ []) : cl s = (st s pre).1 ++ clF s (st s pre).2.1 (st s pre).2.2 (offs s i) := by
  obtain ⟨h1, h2, h3⟩ := h
  rcases h3 with ⟨rfl, _⟩ | ⟨_, h4, _⟩
  · exact absurd rfl hp
  cases pre with
  | nil => exact absurd rfl hp
  | cons x r =>
    have h0 : 0 < s.size := by omega
    have hx : x = 0 ∧ r ++ offs s i = offs s (0 + sz s 0) := by
      rw [offs_step h0] at h2
      exact ⟨(List.cons.inj h2).1, (List.cons.inj h2).2⟩
    obtain ⟨rfl, hr⟩ := hx
    have hz : ∀ y ∈ r, y ≠ 0 := fun y hy => by
      have := offs_pos s s.size (0 + sz s 0) (by omega) y (by rw [← hr]; simp [hy])
      have := sz_pos h0
      omega
    have := clF_app s r (offs s i) [] (beg s 0) (ch s 0) hz
    unfold cl st
    rw [← h2]
    simp only [List.cons_append, clL, List.foldl_cons]
    have e : step s ([], ⟨0, 0, 0, 0⟩, 0) 0 = ([], beg s 0, ch s 0) := rfl
    rw [e]
    simpa using this
/-- the cluster under way is over -/
theorem inv_out {s : ByteArray} {pre : List Nat} {i : Nat} (h : Inv s pre i) (hp : pre ≠ []) (hi : i < s.size) (hj : jn (st s pre).2.2 (ch s i) = false) : (st s pre).1 ++ [(st s pre).2.1] <+: cl s := by
  rw [inv_cl h hp, offs_step hi]
  simp only [clF, hj]
  exact ⟨clF s (beg s i) (ch s i) (offs s (i + sz s i)), by simp⟩
theorem inv_end {s : ByteArray} {pre : List Nat} (h : Inv s pre s.size) (hp : pre ≠ []) : (st s pre).1 ++ [(st s pre).2.1] = cl s := by
  rw [inv_cl h hp, offs_end (Nat.le_refl _)]
  rfl
theorem inv_all {s : ByteArray} {pre : List Nat} {i : Nat} (h : Inv s pre i) (he : pre = offs s 0) : i = s.size := by
  obtain ⟨h1, h2, _⟩ := h
  rw [he] at h2
  have : offs s i = [] := by simpa using h2
  by_cases hi : i < s.size
  · rw [offs_step hi] at this; cases this
  · omega
theorem offs_nil {s : ByteArray} (h : s.size = 0) : offs s 0 = [] := offs_end (by omega)
theorem cl_nil {s : ByteArray} (h : s.size = 0) : cl s = [] := by unfold cl; rw [offs_nil h]; rfl
theorem offs_ne {s : ByteArray} (h : 0 < s.size) : offs s 0 ≠ [] := by rw [offs_step h]; simp
theorem st_zero {s : ByteArray} {pre : List Nat} {x : Nat} (h : x = 0) : st s (pre ++ [x]) = ((st s pre).1, beg s x, ch s x) := by rw [st_snoc]; unfold step; rw [if_pos h]
theorem st_join {s : ByteArray} {pre : List Nat} {x : Nat} (h : x ≠ 0) (hj : jn (st s pre).2.2 (ch s x) = true) : st s (pre ++ [x]) = ((st s pre).1, gro s (st s pre).2.1 x, ch s x) := by rw [st_snoc]; unfold step; rw [if_neg h, if_pos hj]
theorem st_part {s : ByteArray} {pre : List Nat} {x : Nat} (h : x ≠ 0) (hj : jn (st s pre).2.2 (ch s x) = false) : st s (pre ++ [x]) = ((st s pre).1 ++ [(st s pre).2.1], beg s x, ch s x) := by rw [st_snoc]; unfold step; rw [if_neg h, hj]; rfl
end Go.Proofs.YtoijjkbnmicadaaDoor
