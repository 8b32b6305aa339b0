/-
  The walks of the document's own Whole, Range and Join of package metric: what MMath tells. Conditions: the text is so short that its lists can be made.
-/
import Derived.Test.YtdfemihjnempfabDoorNRefB
namespace Go.Proofs.YtdfemihjnempfabDoor
open Go.RowKit Bod Wid

/-- a range of a text, its ends held to the text -/
def rangeOf (s : ByteArray) (i j : Int) : ByteArray := if min j s.size < min (max i 0) s.size then ByteArray.empty else s.extract (min (max i 0) s.size).toNat (min j s.size).toNat
theorem range_none {s : ByteArray} {i j : Int} {a : Nat} {b : Int} (ha : min (max i 0) s.size = a) (hb : min j s.size = b) (h : b < a) : smr (rangeOf s i j) = sm0 := by
  unfold rangeOf
  rw [ha, hb, if_pos h]
  rfl
theorem range_some {s : ByteArray} {i j : Int} {a b : Nat} (ha : min (max i 0) s.size = a) (hb : min j s.size = b) (h : ¬ b < a) : rangeOf s i j = s.extract a b := by
  unfold rangeOf
  rw [ha, hb, if_neg (by omega)]
  rfl

end Go.Proofs.YtdfemihjnempfabDoor
