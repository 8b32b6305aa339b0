/-
  A rope's tree in memory: its methods, its leaves and knots. Conditions: those of each theorem.
-/
import Derived.Test.YtiehhafbblbbiabDoorNRef
import Derived.Test.YtiehhafbblbbiabDoorPkR
import Derived.Test.YtiehhafbblbbiabDoorMCon
namespace Go.Proofs.YtiehhafbblbbiabDoor
open Go.RowKit Bod Wid

/-- the cells of a leaf, of a knot -/
def lcs (s : ByteArray) (m : Sum) : Array Value := #[.string s, .int .i64 m.by', .int .i64 m.un, .int .i64 m.cl, .int .i64 m.ce, .int .i64 m.nl, .string m.hd, .string m.tl]
theorem lcells {w : World} {b : Nat} {s : ByteArray} {m : Sum} {t : TypeId} (h : w.heap[b]? = some (.cells (lcs s m) t (0, 0))) :
    w.cell? ⟨b, 0, none⟩ = some (.string s) ∧ w.cell? ⟨b, 1, none⟩ = some (.int .i64 m.by') ∧ w.cell? ⟨b, 2, none⟩ = some (.int .i64 m.un) ∧ w.cell? ⟨b, 3, none⟩ = some (.int .i64 m.cl) ∧ w.cell? ⟨b, 4, none⟩ = some (.int .i64 m.ce) ∧ w.cell? ⟨b, 5, none⟩ = some (.int .i64 m.nl) ∧ w.cell? ⟨b, 6, none⟩ = some (.string m.hd) ∧ w.cell? ⟨b, 7, none⟩ = some (.string m.tl) ∧ b < w.heap.size := by
  refine ⟨?_, ?_, ?_, ?_, ?_, ?_, ?_, ?_, (Array.getElem?_eq_some_iff.1 h).1⟩ <;> (unfold World.cell?; rw [h]; rfl)
end Go.Proofs.YtiehhafbblbbiabDoor
namespace Go.Proofs.YtiehhafbblbbiabDoor
open Go.RowKit Go.Shelf Bod Wid

def Tr.own : Tr → ByteArray
  | .leaf s => s
  | .knot _ _ => noB
/-- a method of an interface value is found, and can be entered -/
def Mt (T : TypeId) (a : Addr) (name : String) (f : FuncId) : Prop :=
  (∀ W, (method 236 T (.pointer (some a)) name).run Tryd.prog W = .ok (f, .pointer (some a)) W) ∧ (∀ args W, (callFunc f args).run Tryd.prog W = .ok (.enter f args) W)
/-- what stands around a call: the tables of unicode/utf8 -/
structure Ev (w : World) : Prop where
  t : Lib.Utf8Tabs 0 1 w
  l0 : 0 < w.heap.size
  l1 : 1 < w.heap.size
theorem Ev.below {w W : World} (h : Ev w) (hb : Below w.heap.size w W) : Ev W := ⟨tabs_below h.t hb, Nat.lt_of_lt_of_le h.l0 hb.size, Nat.lt_of_lt_of_le h.l1 hb.size⟩
theorem Below.on {w V W : World} (h : Below w.heap.size w V) (k : Below V.heap.size V W) : Below w.heap.size w W := h.trans (k.mono h.size)
def scs2 (a b : Sum) : Array Value := #[.int .i64 a.by', .int .i64 a.un, .int .i64 a.cl, .int .i64 a.ce, .int .i64 a.nl, .string a.hd, .string a.tl, .int .i64 b.by', .int .i64 b.un, .int .i64 b.cl, .int .i64 b.ce, .int .i64 b.nl, .string b.hd, .string b.tl]
theorem two_sums (w : World) (a b : ByteArray) : RdS (w.alloc (.cells (scs2 (smr a) (smr b)) 42)) (.slice (some ⟨w.heap.size, 0, none⟩) 2 2) [a, b] := by
  refine ⟨_, 2, rfl, fun _ => ⟨w.heap.size, 0, rfl, by simp, fun k s hk => ?_⟩⟩
  have hc : ∀ i u, (scs2 (smr a) (smr b))[i]? = some u → (w.alloc (.cells (scs2 (smr a) (smr b)) 42)).cell? ⟨w.heap.size, i, none⟩ = some u := fun i u h => by
    unfold World.cell?
    rw [World.alloc_heap_new]
    simpa using h
  match k, hk with
  | 0, hk => cases hk; exact ⟨hc _ _ rfl, hc _ _ rfl, hc _ _ rfl, hc _ _ rfl, hc _ _ rfl, hc _ _ rfl, hc _ _ rfl⟩
  | 1, hk => cases hk; exact ⟨hc _ _ rfl, hc _ _ rfl, hc _ _ rfl, hc _ _ rfl, hc _ _ rfl, hc _ _ rfl, hc _ _ rfl⟩
  | k + 2, hk => simp at hk
theorem cat_two (a b : ByteArray) : cat [a, b] = a ++ b := by
  show ByteArray.empty ++ a ++ b = _
  congr 1
end Go.Proofs.YtiehhafbblbbiabDoor
