/-
  Where a motion leads, in plain words. No program in this text; no conditions.
-/
import Derived.Test.YtplieccalmkloaaGreatDoorQMath
namespace Go.Proofs.YtplieccalmkloaaGreatDoor.Sto
open Go.RowKit Go.Shelf Bod Wid Go.Lib

noncomputable def lspF (s : ByteArray) (l : Int) : Option (Nat × Nat) := Classical.choose (isS_ex s l)
theorem lspF_is (s : ByteArray) (l : Int) : IsS s l (lspF s l) := Classical.choose_spec (isS_ex s l)
noncomputable def colF (s : ByteArray) (a : Nat) : Int := (Classical.choose (isCo_ex s a)).getD 0
noncomputable def plcF (s : ByteArray) (l c : Int) : Nat := (Classical.choose (isA_ex s l c)).getD 0
/-- the line that a number counts as -/
def hl (s : ByteArray) (l : Int) : Int := min (max l 0) (cn s 0 s.size)
theorem hl_in (s : ByteArray) (l : Int) : 0 ≤ hl s l ∧ hl s l ≤ cn s 0 s.size := by unfold hl; omega
theorem hl_self {s : ByteArray} {l : Int} (h : 0 ≤ l ∧ l ≤ cn s 0 s.size) : hl s l = l := by unfold hl; omega
theorem hl_of (s : ByteArray) {a : Nat} (h : a ≤ s.size) : hl s (cn s 0 a : Int) = cn s 0 a := by
  have := cn_mono (s := s) (a := 0) (b := a) (c := s.size) (by omega) h
  exact hl_self ⟨by omega, by omega⟩
section
variable {s : ByteArray}
theorem line_ex {l : Int} (h : 0 ≤ l ∧ l ≤ cn s 0 s.size) : ∃ x y, IsS s l (some (x, y)) := by
  have := lspF_is s l
  cases e : lspF s l with
  | none =>
    rw [e] at this
    have : l < 0 ∨ (cn s 0 s.size : Int) < l := this
    omega
  | some x => rw [e] at this; exact ⟨x.1, x.2, this⟩
theorem lspF_eq {l : Int} {o : Option (Nat × Nat)} (h : IsS s l o) : lspF s l = o := (lspF_is s l).uniq h
theorem isCo_uniq {a : Int} {x y : Option Int} (h : IsCo s a x) (k : IsCo s a y) : x = y := by
  match x, y, h, k with
  | none, none, _, _ => rfl
  | some z, none, ⟨n, e, h1, _⟩, k => exact absurd ⟨by omega, by omega⟩ k
  | none, some z, k, ⟨n, e, h1, _⟩ => exact absurd ⟨by omega, by omega⟩ k
  | some z, some z', ⟨n, e, h1, h2⟩, ⟨n', e', h1', h2'⟩ =>
    obtain rfl : n = n' := by omega
    rw [h2.uniq h1 h2']
theorem colF_eq {a : Nat} {z : Int} (h : IsCo s a (some z)) : colF s a = z := by
  unfold colF
  rw [isCo_uniq (Classical.choose_spec (isCo_ex s a)) h]
  rfl
theorem plcF_eq {l c : Int} {m : Nat} (h : IsA s l c (some m)) : plcF s l c = m := by
  unfold plcF
  rw [(Classical.choose_spec (isA_ex s l c)).uniq h]
  rfl
theorem plc_is {l c : Int} {x y : Nat} (h : IsS s l (some (x, y))) : IsR s x y (max c 0) (plcF s l c) := by
  obtain ⟨o, ho⟩ := isA_ex s l c
  match o, ho with
  | none, ho => have := h.uniq (show IsS s l none from ho); cases this
  | some m, ⟨a, b, h1, h2⟩ =>
    have e := h.uniq h1
    injection e with e
    injection e with e1 e2
    subst e1 e2
    rw [plcF_eq ⟨x, y, h1, h2⟩]
    exact h2
theorem plc_isA {l c : Int} (h : 0 ≤ l ∧ l ≤ cn s 0 s.size) : IsA s l c (some (plcF s l c)) := by
  obtain ⟨x, y, hS⟩ := line_ex h
  exact ⟨x, y, hS, plc_is hS⟩
theorem col_pl {n p b : Nat} (h : Pl s n p b) : colF s n = cw s p n := colF_eq h.col
theorem col_isCo {n : Nat} (h : cbZ s n = true) : IsCo s n (some (colF s n)) := by
  obtain ⟨p, b, hP⟩ := pl_ex h
  rw [col_pl hP]; exact hP.col
theorem col_bd {n : Nat} (h : cbZ s n = true) : 0 ≤ colF s n ∧ colF s n ≤ 2 * s.size := by
  obtain ⟨p, b, hP⟩ := pl_ex h
  rw [col_pl hP]
  exact ⟨cw_nonneg _ _ _, cw_le s (cb_le h)⟩
end
/-- so many lines away, at a column: where it leads, and whether there is any -/
noncomputable def away (s : ByteArray) (a : Nat) (want d : Int) : Nat × Bool := (plcF s (hl s ((cn s 0 a : Int) + d)) want, !decide (hl s ((cn s 0 a : Int) + d) = (cn s 0 a : Int)))
/-- where as many of c steps as can be done lead from the boundary a, and whether the first one can be done -/
noncomputable def lead (s : ByteArray) (k : Int) (a : Nat) (want : Int) (c : Nat) : Nat × Bool :=
  if k = 4 then (itr (pvC s) 0 c a, !decide ((a : Int) = (0 : Nat)))
  else if k = 5 then (itr (nxt s) s.size c a, !decide ((a : Int) = s.size))
  else if k = 6 then (itr (behindW (words s)) 0 c a, !decide ((a : Int) = (0 : Nat)))
  else if k = 7 then (itr (aheadW (words s) s.size) s.size c a, !decide ((a : Int) = s.size))
  else if k = 8 then (((lspF s (cn s 0 a)).getD (0, 0)).1, true)
  else if k = 9 then (((lspF s (cn s 0 a)).getD (0, 0)).2, true)
  else if k = 10 then away s a want (-(c : Int))
  else if k = 11 then away s a want c
  else if k = 12 then (0, true)
  else (s.size, true)
/-- a count as it counts -/
def cnt (n : Int) : Nat := (min (max n 1) 1000).toNat
theorem cnt_eq (n : Int) : ((cnt n : Nat) : Int) = min (max n 1) 1000 := by unfold cnt; omega
/-- the column that a motion goes by -/
noncomputable def wantF (s : ByteArray) (k : Int) (p : Nat) (g : Int) : Int := if k = 10 ∨ k = 11 then (if g = -1 then colF s p else g) else -1
/-- what Go answers -/
noncomputable def goP (s : ByteArray) (k at' goal count : Int) : Int × Int × Int :=
  if 4 ≤ k ∧ k ≤ 13 then
    if (lead s k (snp s at') (wantF s k (snp s at') (max goal (-1))) (cnt count)).2 = true then (((lead s k (snp s at') (wantF s k (snp s at') (max goal (-1))) (cnt count)).1 : Nat), wantF s k (snp s at') (max goal (-1)), 0)
    else ((snp s at' : Nat), max goal (-1), 8)
  else (0, -1, 13)
/-- what Span answers -/
noncomputable def spP (s : ByteArray) (k at' count : Int) : (Int × Int) × Int :=
  if (goP s k at' (-1) count).2.2 = 0 then ((min (snp s at' : Int) (goP s k at' (-1) count).1, max (snp s at' : Int) (goP s k at' (-1) count).1), 0) else ((0, 0), (goP s k at' (-1) count).2.2)
end Go.Proofs.YtplieccalmkloaaGreatDoor.Sto
