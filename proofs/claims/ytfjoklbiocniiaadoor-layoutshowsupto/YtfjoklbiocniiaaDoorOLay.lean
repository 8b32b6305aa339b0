/-
  Package layout's (*grid).lay: a cluster is laid behind what has been laid. Conditions: the tables of unicode/utf8 lie as their text lays them; the grid has no more than 2^31 rows.
-/
import Derived.Deep.CutRange
import Derived.Deep.RegionHeld3
import Derived.Test.YtfjoklbiocniiaaDoorPkOU
import Derived.Test.YtfjoklbiocniiaaDoorOClu
import Derived.Test.YtfjoklbiocniiaaDoorCDrawn
namespace Go.Proofs.YtfjoklbiocniiaaDoor
open Go.RowKit Go.Shelf Bod Wid
/-- while lay works: the grid, the cluster's box -/
structure Ly (w X : World) (lo hi : Nat) (W r c : Int) (gb : Nat) (ov : Value) (vs : List (List Cel × Value)) (cb : Nat) (cc : Clu) (Y : World) : Prop where
  gd : Gd w lo hi W r c gb ov vs Y
  fg : Fg lo hi X Y
  cbx : Y.heap[cb]? = some (.cells (cvs cc) 56 (0, 0))
  hi : hi ≤ Y.heap.size
section
variable {w X Y Z : World} {lo hi gb cb : Nat} {W r c : Int} {ov : Value} {vs : List (List Cel × Value)} {cc : Clu}
theorem Ly.below (h : Ly w X lo hi W r c gb ov vs cb cc Y) (hb : Below Y.heap.size Y Z) : Ly w X lo hi W r c gb ov vs cb cc Z :=
  ⟨h.gd.below hb, h.fg.trans (Fg.of_below hb), (hb.block _ (Array.getElem?_eq_some_iff.1 h.cbx).1).trans h.cbx, Nat.le_trans h.hi hb.size⟩
theorem Ly.drew (h : Ly w X lo hi W r c gb ov vs cb cc Y) : Ly w X lo hi W r c gb ov vs cb cc Y.drew := h.below ⟨rfl, rfl, rfl, Nat.le_refl _, fun _ _ => rfl⟩
theorem gty_C : ¬ Gty 56 := by unfold Gty; decide
theorem gty_PL : ¬ Gty 28 := by unfold Gty; decide
theorem Ly.to {r' c' : Int} {ov' : Value} {vs' : List (List Cel × Value)} (h : Ly w X lo hi W r c gb ov vs cb cc Y) (hg : Gd w lo hi W r' c' gb ov' vs' Z) (hf : Fg lo hi Y Z) : Ly w X lo hi W r' c' gb ov' vs' cb cc Z :=
  ⟨hg, h.fg.trans hf, hf.other h.cbx gty_C, Nat.le_trans h.hi hf.size⟩
end
/-- a place in a box -/
def Pb (b : Nat) (r c : Int) (Y : World) : Prop := Y.heap[b]? = some (.cells #[.int .i64 r, .int .i64 c] 28 (0, 0))
theorem Pb.below {b : Nat} {r c : Int} {Y Z : World} (h : Pb b r c Y) (hb : Below Y.heap.size Y Z) : Pb b r c Z := (hb.block _ (Array.getElem?_eq_some_iff.1 h).1).trans h
theorem Pb.fg {b lo hi : Nat} {r c : Int} {Y Z : World} (h : Pb b r c Y) (hf : Fg lo hi Y Z) : Pb b r c Z := hf.other h gty_PL
theorem Pb.cells {b : Nat} {r c : Int} {Y : World} (h : Pb b r c Y) : (Y.cell? ⟨b, 0, none⟩ = some (.int .i64 r) ∧ Y.cell? ⟨b, 1, none⟩ = some (.int .i64 c)) ∧ Y.frozen? ⟨b, 0, none⟩ = false ∧ Y.frozen? ⟨b, 1, none⟩ = false := obox2 h
theorem pb_set {b : Nat} {r c : Int} {p q : Value} {Y : World} (h : Y.heap[b]? = some (.cells #[p, q] 28 (0, 0))) : Pb b r c ((Y.setCell ⟨b, 0, none⟩ (.int .i64 r)).setCell ⟨b, 1, none⟩ (.int .i64 c)) := by
  have := set1 (i := 1) (.int .i64 c) (set1 (i := 0) (.int .i64 r) h)
  unfold Pb
  simpa using this
end Go.Proofs.YtfjoklbiocniiaaDoor
