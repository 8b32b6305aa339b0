/-
  What is drawn for one cluster, in plain words. No program is walked in this text; no conditions.
-/
import Derived.Test.YtoijjkbnmicadaaDoorKBase
namespace Go.Proofs.YtoijjkbnmicadaaDoor
open Go.RowKit

/-- what is drawn for a cluster of class k that has the bytes own -/
def drw (k : Int) : List UInt8 → List UInt8
  | [] => []
  | c :: r => if k = 1 then [] else if k = 2 then (if c.toNat < 128 then [94, c ^^^ 64] else [239, 191, 189]) else if k = 3 then 32 :: c :: r else if k = 5 then 239 :: 191 :: 189 :: r else c :: r

theorem own_head {own : ByteArray} {c : UInt8} {r : List UInt8} (ho : own.data.toList = c :: r) : own.size = r.length + 1 ∧ ∀ h : 0 < own.size, own[0]'h = c := by
  have hs : own.size = r.length + 1 := by
    have : own.data.toList.length = r.length + 1 := by rw [ho]; rfl
    rw [Lib.size_eq]; exact this
  refine ⟨hs, fun h => ?_⟩
  have h2 : own.data.toList[0]? = some c := by rw [ho]; rfl
  have h3 : own.data[0]? = some c := by rw [← h2]; simp
  rw [ByteArray.getElem_eq_getElem_data]
  exact (Array.getElem?_eq_some_iff.1 h3).2
theorem xor_all : ∀ n : Fin 256, bits .xor .u8 (n.val : Int) 64 = ((n.val ^^^ 64 : Nat) : Int) := by decide +kernel
theorem xor_byte (c : UInt8) : bits .xor .u8 (c.toNat : Int) 64 = ((c ^^^ 64).toNat : Int) := by
  rw [UInt8.toNat_xor]
  exact xor_all ⟨c.toNat, c.toNat_lt⟩
theorem byteCells_app (a b : List UInt8) : Lib.byteCells (a ++ b) = Lib.byteCells a ++ Lib.byteCells b := by simp [Lib.byteCells]
theorem strCells_eq (s : ByteArray) : Lib.strCells s = Lib.byteCells s.data.toList := rfl
theorem own_tail {own : ByteArray} {c : UInt8} {r : List UInt8} (ho : own.data.toList = c :: r) : (own.extract 1 own.size).data.toList = r := by
  have hs := (own_head ho).1
  rw [ByteArray.data_extract, Array.toList_extract, List.extract_eq_take_drop, ho, hs]
  simp
end Go.Proofs.YtoijjkbnmicadaaDoor
