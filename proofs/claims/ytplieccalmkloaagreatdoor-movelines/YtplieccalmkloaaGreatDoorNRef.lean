/-
  The walks of the document's own head, tail and Measure of package metric, and of its Count of units: what MMath tells. Conditions: the text is so short that its lists can be made.
-/
import Derived.Test.YtplieccalmkloaaGreatDoorCRd
import Derived.Test.YtplieccalmkloaaGreatDoorMMath
namespace Go.Proofs.YtplieccalmkloaaGreatDoor
open Go.RowKit Bod Wid

/-- a summary as a value -/
abbrev scs (m : Sum) : Array Value := #[.int .i64 m.by', .int .i64 m.un, .int .i64 m.cl, .int .i64 m.ce, .int .i64 m.nl, .string m.hd, .string m.tl]
abbrev sv (m : Sum) : Value := .agg (scs m)
def sm0 : Sum := ⟨0, 0, 0, 0, 0, ⟨#[]⟩, ⟨#[]⟩⟩
theorem box7 {W : World} {b : Nat} {v0 v1 v2 v3 v4 v5 v6 : Value} {t : TypeId} (h : W.heap[b]? = some (.cells #[v0, v1, v2, v3, v4, v5, v6] t (0, 0))) :
    (W.cell? ⟨b, 0, none⟩ = some v0 ∧ W.cell? ⟨b, 1, none⟩ = some v1 ∧ W.cell? ⟨b, 2, none⟩ = some v2 ∧ W.cell? ⟨b, 3, none⟩ = some v3 ∧ W.cell? ⟨b, 4, none⟩ = some v4 ∧ W.cell? ⟨b, 5, none⟩ = some v5 ∧ W.cell? ⟨b, 6, none⟩ = some v6) ∧
    W.frozen? ⟨b, 0, none⟩ = false ∧ W.frozen? ⟨b, 1, none⟩ = false ∧ W.frozen? ⟨b, 2, none⟩ = false ∧ W.frozen? ⟨b, 3, none⟩ = false ∧ W.frozen? ⟨b, 4, none⟩ = false ∧ W.frozen? ⟨b, 5, none⟩ = false ∧ W.frozen? ⟨b, 6, none⟩ = false := by
  simp [World.cell?, World.frozen?, h]

/-- what lies where: the result's box, the summary's own, the list -/
structure ME (w : World) (l : List Clu) (lv : Value) (N : Nat) (m : Sum) (W : World) : Prop where
  res : W.heap[w.heap.size]? = some (.cells (scs sm0) 125 (0, 0))
  box : W.heap[w.heap.size + 1]? = some (.cells (scs m) 125 (0, 0))
  row : W.ownsRow (w.heap.size + 2) 34 4 lv N (ccl l)
  bel : Below w.heap.size w W
theorem ME.drew {w : World} {l : List Clu} {lv : Value} {N : Nat} {m : Sum} {W : World} (h : ME w l lv N m W) (q : Nat) : ME w l lv N m (W.drewN q) := ⟨h.res, h.box, ⟨h.row.1, h.row.2⟩, ⟨h.bel.os, h.bel.tape, h.bel.output, h.bel.size, h.bel.block⟩⟩
theorem ME.drew1 {w : World} {l : List Clu} {lv : Value} {N : Nat} {m : Sum} {W : World} (h : ME w l lv N m W) : ME w l lv N m W.drew := ⟨h.res, h.box, ⟨h.row.1, h.row.2⟩, ⟨h.bel.os, h.bel.tape, h.bel.output, h.bel.size, h.bel.block⟩⟩
theorem ME.set {w : World} {l : List Clu} {lv : Value} {N : Nat} {m : Sum} {W : World} (h : ME w l lv N m W) (m' : Sum) (i : Nat) (v : Value) (hv : (scs m).setIfInBounds i v = scs m') : ME w l lv N m' (W.setCell ⟨w.heap.size + 1, i, none⟩ v) := by
  have hg := gcell W (w.heap.size + 1) i v
  refine ⟨(hg.block _ (Array.getElem?_eq_some_iff.1 h.res).1 (fun e => by have := Option.some.inj e; omega)).trans h.res, by rw [← hv]; exact set1 v h.box, h.row.kept hg ?_, h.bel.grown hg h.bel.size (fun j e => by cases e; omega)⟩
  cases hb : lv.ownBlock with
  | none => exact .inl rfl
  | some g => exact .inr fun e => by cases e; have := (h.row.lt _ hb).1; omega

theorem sumN_take' (l : List Clu) (k : Nat) (c : Clu) (h : l[k]? = some c) : sumN (l.take (k + 1)) = sumN (l.take k) + c.n := by
  rw [List.take_add_one, h, sumN_app]
  simp [sumN]
theorem count_take (s : ByteArray) (k : Nat) (h : k < s.size) : (s.data.toList.take (k + 1)).countP (· == 10) = (s.data.toList.take k).countP (· == 10) + if s[k] = 10 then 1 else 0 := by
  have e : s.data.toList[k]? = some s[k] := by
    rw [ByteArray.getElem_eq_getElem_data]
    simp
  rw [List.take_add_one, e, List.countP_append]
  simp [List.countP_cons]
theorem set7_below {w W : World} (h : Below w.heap.size w W) (u0 u1 u2 u3 u4 u5 u6 : Value) : Below w.heap.size w (((((((W.setCell ⟨w.heap.size, 0, none⟩ u0).setCell ⟨w.heap.size, 1, none⟩ u1).setCell ⟨w.heap.size, 2, none⟩ u2).setCell ⟨w.heap.size, 3, none⟩ u3).setCell ⟨w.heap.size, 4, none⟩ u4).setCell ⟨w.heap.size, 5, none⟩ u5).setCell ⟨w.heap.size, 6, none⟩ u6) :=
  ((((((h.setCell (p := ⟨w.heap.size, 0, none⟩) (Nat.le_refl _) _).setCell (p := ⟨w.heap.size, 1, none⟩) (Nat.le_refl _) _).setCell (p := ⟨w.heap.size, 2, none⟩) (Nat.le_refl _) _).setCell (p := ⟨w.heap.size, 3, none⟩) (Nat.le_refl _) _).setCell (p := ⟨w.heap.size, 4, none⟩) (Nat.le_refl _) _).setCell (p := ⟨w.heap.size, 5, none⟩) (Nat.le_refl _) _).setCell (p := ⟨w.heap.size, 6, none⟩) (Nat.le_refl _) _
theorem set7_box {W : World} {b : Nat} {t : TypeId} {a0 a1 a2 a3 a4 a5 a6 : Value} (h : W.heap[b]? = some (.cells #[a0, a1, a2, a3, a4, a5, a6] t (0, 0))) (u0 u1 u2 u3 u4 u5 u6 : Value) :
    ((((((((W).setCell ⟨b, 0, none⟩ u0).setCell ⟨b, 1, none⟩ u1).setCell ⟨b, 2, none⟩ u2).setCell ⟨b, 3, none⟩ u3).setCell ⟨b, 4, none⟩ u4).setCell ⟨b, 5, none⟩ u5).setCell ⟨b, 6, none⟩ u6).heap[b]? = some (.cells #[u0, u1, u2, u3, u4, u5, u6] t (0, 0)) := by
  have h0 : (W.setCell ⟨b, 0, none⟩ u0).heap[b]? = some (.cells #[u0, a1, a2, a3, a4, a5, a6] t (0, 0)) := set1 (i := 0) u0 h
  have h1 : ((W.setCell ⟨b, 0, none⟩ u0).setCell ⟨b, 1, none⟩ u1).heap[b]? = some (.cells #[u0, u1, a2, a3, a4, a5, a6] t (0, 0)) := set1 (i := 1) u1 h0
  have h2 : (((W.setCell ⟨b, 0, none⟩ u0).setCell ⟨b, 1, none⟩ u1).setCell ⟨b, 2, none⟩ u2).heap[b]? = some (.cells #[u0, u1, u2, a3, a4, a5, a6] t (0, 0)) := set1 (i := 2) u2 h1
  have h3 : ((((W.setCell ⟨b, 0, none⟩ u0).setCell ⟨b, 1, none⟩ u1).setCell ⟨b, 2, none⟩ u2).setCell ⟨b, 3, none⟩ u3).heap[b]? = some (.cells #[u0, u1, u2, u3, a4, a5, a6] t (0, 0)) := set1 (i := 3) u3 h2
  have h4 : (((((W.setCell ⟨b, 0, none⟩ u0).setCell ⟨b, 1, none⟩ u1).setCell ⟨b, 2, none⟩ u2).setCell ⟨b, 3, none⟩ u3).setCell ⟨b, 4, none⟩ u4).heap[b]? = some (.cells #[u0, u1, u2, u3, u4, a5, a6] t (0, 0)) := set1 (i := 4) u4 h3
  have h5 : ((((((W.setCell ⟨b, 0, none⟩ u0).setCell ⟨b, 1, none⟩ u1).setCell ⟨b, 2, none⟩ u2).setCell ⟨b, 3, none⟩ u3).setCell ⟨b, 4, none⟩ u4).setCell ⟨b, 5, none⟩ u5).heap[b]? = some (.cells #[u0, u1, u2, u3, u4, u5, a6] t (0, 0)) := set1 (i := 5) u5 h4
  have h6 : (((((((W.setCell ⟨b, 0, none⟩ u0).setCell ⟨b, 1, none⟩ u1).setCell ⟨b, 2, none⟩ u2).setCell ⟨b, 3, none⟩ u3).setCell ⟨b, 4, none⟩ u4).setCell ⟨b, 5, none⟩ u5).setCell ⟨b, 6, none⟩ u6).heap[b]? = some (.cells #[u0, u1, u2, u3, u4, u5, u6] t (0, 0)) := set1 (i := 6) u6 h5
  exact h6
theorem push2' (a : Array Obj) (o0 o1 : Obj) : ((a.push o0).push o1)[a.size]? = some o0 ∧ ((a.push o0).push o1)[a.size + 1]? = some o1 := by
  refine ⟨?_, ?_⟩
  · rw [Array.getElem?_push, if_neg (by simp only [Array.size_push]; omega), Array.getElem?_push_size]
  · rw [← Array.size_push o0, Array.getElem?_push_size]
theorem ME.first {w W1 w2 w3 : World} {l : List Clu} {lv : Value} {N : Nat} {z u : Int} {h t : ByteArray}
    (p : W1.heap[w.heap.size]? = some (.cells (scs sm0) 125 (0, 0)) ∧ W1.heap[w.heap.size + 1]? = some (.cells (scs ⟨z, 0, 0, 0, 0, h, t⟩) 125 (0, 0)) ∧ Below w.heap.size w W1 ∧ W1.heap.size = w.heap.size + 2) (h2 : Below W1.heap.size W1 w2)
    (h3 : w3.ownsRow (w2.setCell ⟨w.heap.size + 1, 1, none⟩ (.int .i64 u)).heap.size 34 4 lv N (ccl l) ∧ Below (w2.setCell ⟨w.heap.size + 1, 1, none⟩ (.int .i64 u)).heap.size (w2.setCell ⟨w.heap.size + 1, 1, none⟩ (.int .i64 u)) w3) : ME w l lv N ⟨z, u, 0, 0, 0, h, t⟩ w3 := by
  obtain ⟨p0, p1, pb, pz⟩ := p
  have hs := h2.size
  have q0 := (h2.block _ (by omega)).trans p0
  have q1 := (h2.block _ (by omega)).trans p1
  have hg := gcell w2 (w.heap.size + 1) 1 (.int .i64 u)
  have r0 := (hg.block _ (by omega) (fun e => by have := Option.some.inj e; omega)).trans q0
  have r1 := set1 (i := 1) (.int .i64 u) q1
  have hz : (w2.setCell ⟨w.heap.size + 1, 1, none⟩ (.int .i64 u)).heap.size = w2.heap.size := by simp
  have hb : Below w.heap.size w (w2.setCell ⟨w.heap.size + 1, 1, none⟩ (.int .i64 u)) := (pb.trans (h2.mono pb.size)).setCell (p := ⟨w.heap.size + 1, 1, none⟩) (by simp) _
  refine ⟨(h3.2.block _ (by omega)).trans r0, (h3.2.block _ (by omega)).trans r1, row_lower h3.1 (by omega), hb.trans (h3.2.mono hb.size)⟩

end Go.Proofs.YtplieccalmkloaaGreatDoor
