/-
  A cluster of a text by itself, and what is drawn for it; a text's clusters as they are laid. No program is walked in this text; no conditions.
-/
import Derived.Test.YtfjoklbiocniiaaDoorOMath
import Derived.Test.YtfjoklbiocniiaaDoorZMathB
namespace Go.Proofs.YtfjoklbiocniiaaDoor
open Bod Wid
theorem clG_chn : ∀ (l : List (Int × Int)) (c : Clu) (a : Int), Chn a l → clG c a l = [⟨c.fr, endC c.to l, kf c.k l, nf c.n l⟩]
  | [], c, _, _ => rfl
  | q :: l, c, a, h => by
    simp only [clG, h.1, if_true]
    rw [clG_chn l _ _ h.2]
    rfl
/-- a cluster's bytes by themselves are one cluster, of its class and cells -/
theorem cl_one {s : ByteArray} {c : Clu} (hc : c ∈ cl s) : cl (s.extract c.fr c.to) = [⟨0, (s.extract c.fr c.to).size, c.k, c.n⟩] := by
  obtain ⟨P, p, l, R, h⟩ := cl_part hc
  obtain ⟨hu, -⟩ := us_piece h.eq
  rw [← h.fr, ← h.te] at hu
  have he := endC_us (s.extract c.fr c.to) (s.extract c.fr c.to).size 0 (by omega) (Nat.zero_le _)
  rw [hu] at he
  rw [cl_us, hu]
  simp only [clU]
  rw [clG_chn l _ _ h.chn, h.k, h.n]
  simp only [endC] at he
  rw [he]
theorem sub_all {t : ByteArray} : sub t 0 t.size = t.data.toList := by
  unfold sub
  congr 2
  apply ByteArray.ext
  simp
/-- what is drawn for a cluster -/
def drC (s : ByteArray) (c : Clu) : ByteArray := ⟨(drw c.k (sub s c.fr c.to)).toArray⟩
theorem drawn_one {s : ByteArray} {c : Clu} (hc : c ∈ cl s) : (⟨(drawnL (s.extract c.fr c.to) (cl (s.extract c.fr c.to))).toArray⟩ : ByteArray) = drC s c := by
  rw [cl_one hc]
  unfold drC drawnL
  simp only [List.flatMap_cons, List.flatMap_nil, List.append_nil, sub_all]
  rfl
/-- a cluster as it is laid -/
def cuOf (s : ByteArray) (c : Clu) : Cu := ⟨c.n.toNat, decide (c.k = 4), drC s c⟩
def cus (s : ByteArray) (l : List Clu) : List Cu := l.map (cuOf s)
theorem cuOf_n {s : ByteArray} {c : Clu} (hc : c ∈ cl s) : (cuOf s c).n ≤ 2 ∧ c.n = ((cuOf s c).n : Int) := by
  have := cl_n s c hc
  unfold cuOf
  simp only
  omega
/-- what is drawn for two cells that is not wide has a byte -/
theorem drC_pos {s : ByteArray} {c : Clu} (hc : c ∈ cl s) (hn : c.n ≠ 0) : 1 ≤ (drC s c).size := by
  rcases Nat.eq_zero_or_pos (drC s c).size with h | h
  · exact absurd (by rw [← (piece_good hc).sum]; have : cl (⟨(drw c.k (sub s c.fr c.to)).toArray⟩ : ByteArray) = [] := cl_nil h; rw [this]; rfl) hn
  · exact h
end Go.Proofs.YtfjoklbiocniiaaDoor
