/-
  What package cluster's Count and Cells answer: how many clusters the text has, and what their cells come to. Conditions: the two tables of unicode/utf8 lie as their text lays them; the text can be read.
-/
import Derived.Test.YtgagpmeknpjkpaaGreatDoorCIter
import Derived.Test.YtgagpmeknpjkpaaGreatDoorPkB
namespace Go.Proofs.YtgagpmeknpjkpaaGreatDoor
open Go.RowKit Go.Shelf Bod Wid
attribute [local go_sem] Oper.semAt_some

theorem push2 (a : Array Obj) (o0 o1 : Obj) : ((a.push o0).push o1)[a.size]? = some o0 ∧ ((a.push o0).push o1)[a.size + 1]? = some o1 := by
  refine ⟨?_, ?_⟩
  · rw [Array.getElem?_push, if_neg (by simp only [Array.size_push]; omega), Array.getElem?_push_size]
  · rw [← Array.size_push o0, Array.getElem?_push_size]
end Go.Proofs.YtgagpmeknpjkpaaGreatDoor
