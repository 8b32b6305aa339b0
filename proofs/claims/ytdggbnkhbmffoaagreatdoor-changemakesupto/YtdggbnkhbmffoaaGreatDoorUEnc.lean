/-
  The walk of package unit's Encode: the encodings of those among the numbers that are characters, one behind the other. Conditions: the numbers can be read; their encodings together are no longer than a slice of bytes may grow.
-/
import Derived.Test.YtdggbnkhbmffoaaGreatDoorRows
import Derived.Test.YtdggbnkhbmffoaaGreatDoorShelf
import Derived.WalkKit
import Derived.WalkLawsBesides
import Derived.WalkSpells
import Derived.Lib.BufferRead
import Derived.Lib.RuneBytes
namespace Go.Proofs.YtdggbnkhbmffoaaGreatDoor
open Go.RowKit

def encs (rs : List Int) : List UInt8 := rs.flatMap fun r => if Lib.validRune r then Lib.encodeRune r else []
theorem encs_snoc (rs : List Int) (r : Int) : encs (rs ++ [r]) = encs rs ++ (if Lib.validRune r then Lib.encodeRune r else []) := by simp [encs]
theorem encs_len (rs : List Int) : (encs rs).length ≤ 4 * rs.length := by
  induction rs with
  | nil => simp [encs]
  | cons r rs ih =>
    have h := (Lib.runeCells_le r).2
    rw [Lib.runeCells_length] at h
    have h4 : (if Lib.validRune r then Lib.encodeRune r else []).length ≤ 4 := by
      split
      · exact h
      · simp
    simp only [encs, List.flatMap_cons, List.length_append, List.length_cons] at ih ⊢
    omega

theorem conv_row {base : Nat} {v : Value} {l : List UInt8} {W : World} (h : W.ownsRow base 5 1 v l.length (Lib.byteCells l)) : (convert 104 9 v).run Tryz.prog W = .ok (.string ⟨l.toArray⟩) W := by
  rcases h.2 with ⟨rfl, h0⟩ | ⟨g, cap, cur, rfl, hbg, hg, hnc, hcm, hcs, htake⟩
  · obtain rfl : l = [] := List.eq_nil_of_length_eq_zero h0
    exact Lib.run_convert_nil_bytes W 104 9 5 0 Tryz.underlying104 Tryz.underlying5 Tryz.underlying9
  · refine run_convert_bytes_back W 104 9 5 ⟨g, 0, none⟩ cap l Tryz.underlying104 Tryz.underlying5 Tryz.underlying9 (Lib.bytes_of_row hg ?_)
    rw [Nat.mul_one] at htake
    exact htake

end Go.Proofs.YtdggbnkhbmffoaaGreatDoor
