/-
  The walks of the document's own copy of package metric, on, and lists of summaries. Conditions: those of each theorem.
-/
import Derived.Test.YtplieccalmkloaaGreatDoorNRef
import Derived.Deep.RegionWith
namespace Go.Proofs.YtplieccalmkloaaGreatDoor
open Go.RowKit Bod Wid

/-- two summaries joined, by their ends -/
def jn2 (x y : Sum) : Sum := ⟨x.by' + y.by', x.un + y.un + kU.of (x.tl ++ y.hd) - kU.of x.tl - kU.of y.hd, x.cl + y.cl + kC.of (x.tl ++ y.hd) - kC.of x.tl - kC.of y.hd, x.ce + y.ce + kN.of (x.tl ++ y.hd) - kN.of x.tl - kN.of y.hd, x.nl + y.nl,
  if x.hd.size < 16 then hd (x.hd ++ y.hd) else x.hd, if y.tl.size < 16 then tl (x.tl ++ y.tl) else y.tl⟩
theorem jn2_smr (a b : ByteArray) : jn2 (smr a) (smr b) = smr (a ++ b) := by
  unfold jn2 smr
  simp only [of_app _ a b, hd_app a b, tl_app a b, nls_app, size_app]
  simp
/-- no number of a summary is great, and its ends are short -/
structure Small (m : Sum) : Prop where
  b : -1152921504606846976 ≤ m.by' ∧ m.by' ≤ 1152921504606846976
  u : -1152921504606846976 ≤ m.un ∧ m.un ≤ 1152921504606846976
  c : -1152921504606846976 ≤ m.cl ∧ m.cl ≤ 1152921504606846976
  e : -1152921504606846976 ≤ m.ce ∧ m.ce ≤ 1152921504606846976
  n : -1152921504606846976 ≤ m.nl ∧ m.nl ≤ 1152921504606846976
  h : m.hd.size ≤ 16
  t : m.tl.size ≤ 16
theorem cnt_bd (s : ByteArray) : (0 ≤ kU.of s ∧ kU.of s ≤ s.size) ∧ (0 ≤ kC.of s ∧ kC.of s ≤ s.size) ∧ (0 ≤ kN.of s ∧ kN.of s ≤ 2 * s.size) := by
  refine ⟨?_, ?_, ?_⟩
  · rw [kU_of]; have := offs_len_le s; omega
  · rw [kC_of]; have := cl_len s; omega
  · rw [kN_of]
    have := sumN_bd (cl s) (cl_n s)
    have := cl_len s
    omega
theorem smr_small {s : ByteArray} (hs : s.size ≤ 4398046511104) : Small (smr s) := by
  obtain ⟨h1, h2, h3⟩ := cnt_bd s
  have h4 := nls_le s
  refine ⟨?_, ?_, ?_, ?_, ?_, ?_, ?_⟩
  · show _ ≤ (s.size : Int) ∧ (s.size : Int) ≤ _; omega
  · show _ ≤ kU.of s ∧ kU.of s ≤ _; omega
  · show _ ≤ kC.of s ∧ kC.of s ≤ _; omega
  · show _ ≤ kN.of s ∧ kN.of s ≤ _; omega
  · show _ ≤ (nls s : Int) ∧ (nls s : Int) ≤ _; omega
  · show (hd s).size ≤ 16; rw [hd_size]; omega
  · show (tl s).size ≤ 16; rw [tl_size]; omega
theorem push3 (a : Array Obj) (o0 o1 o2 : Obj) : (((a.push o0).push o1).push o2)[a.size]? = some o0 ∧ (((a.push o0).push o1).push o2)[a.size + 1]? = some o1 ∧ (((a.push o0).push o1).push o2)[a.size + 1 + 1]? = some o2 := by
  obtain ⟨h0, h1⟩ := push2' a o0 o1
  refine ⟨?_, ?_, ?_⟩
  · rw [Array.getElem?_push, if_neg (by simp only [Array.size_push]; omega)]; exact h0
  · rw [Array.getElem?_push, if_neg (by simp only [Array.size_push]; omega)]; exact h1
  · rw [← Array.size_push o0, ← Array.size_push o1, Array.getElem?_push_size]

theorem cell_lt {W : World} {p : Addr} {v : Value} (h : W.cell? p = some v) : p.block < W.heap.size := by
  unfold World.cell? at h
  cases ho : W.heap[p.block]? with
  | none => simp [ho] at h
  | some o => exact (Array.getElem?_eq_some_iff.1 ho).1
theorem cell_al {W : World} {p : Addr} {v : Value} (h : W.cell? p = some v) : ∀ o, (W.alloc o).cell? p = some v := fun o => (((Below.refl _ W).alloc (Nat.le_refl _) o).cell (p := p) (cell_lt h)).trans h
theorem frozen_al {W : World} {p : Addr} {v : Value} {b : Bool} (h : W.frozen? p = b) (hc : W.cell? p = some v) : ∀ o, (W.alloc o).frozen? p = b := fun o => (((Below.refl _ W).alloc (Nat.le_refl _) o).frozen (p := p) (cell_lt hc)).trans h
theorem res7 {W : World} {b : Nat} {t : TypeId} {a0 a1 a2 a3 a4 a5 a6 : Value} (h : W.heap[b]? = some (.cells #[a0, a1, a2, a3, a4, a5, a6] t (0, 0))) (u0 u1 u2 u3 u4 u5 u6 : Value) (o : Obj) :
    (((((((((W).setCell ⟨b, 0, none⟩ u0).setCell ⟨b, 1, none⟩ u1).setCell ⟨b, 2, none⟩ u2).setCell ⟨b, 3, none⟩ u3).setCell ⟨b, 4, none⟩ u4).setCell ⟨b, 5, none⟩ u5).setCell ⟨b, 6, none⟩ u6).alloc o).cell? ⟨b, 0, none⟩ = some u0 ∧ (((((((((W).setCell ⟨b, 0, none⟩ u0).setCell ⟨b, 1, none⟩ u1).setCell ⟨b, 2, none⟩ u2).setCell ⟨b, 3, none⟩ u3).setCell ⟨b, 4, none⟩ u4).setCell ⟨b, 5, none⟩ u5).setCell ⟨b, 6, none⟩ u6).alloc o).cell? ⟨b, 1, none⟩ = some u1 ∧ (((((((((W).setCell ⟨b, 0, none⟩ u0).setCell ⟨b, 1, none⟩ u1).setCell ⟨b, 2, none⟩ u2).setCell ⟨b, 3, none⟩ u3).setCell ⟨b, 4, none⟩ u4).setCell ⟨b, 5, none⟩ u5).setCell ⟨b, 6, none⟩ u6).alloc o).cell? ⟨b, 2, none⟩ = some u2 ∧ (((((((((W).setCell ⟨b, 0, none⟩ u0).setCell ⟨b, 1, none⟩ u1).setCell ⟨b, 2, none⟩ u2).setCell ⟨b, 3, none⟩ u3).setCell ⟨b, 4, none⟩ u4).setCell ⟨b, 5, none⟩ u5).setCell ⟨b, 6, none⟩ u6).alloc o).cell? ⟨b, 3, none⟩ = some u3 ∧ (((((((((W).setCell ⟨b, 0, none⟩ u0).setCell ⟨b, 1, none⟩ u1).setCell ⟨b, 2, none⟩ u2).setCell ⟨b, 3, none⟩ u3).setCell ⟨b, 4, none⟩ u4).setCell ⟨b, 5, none⟩ u5).setCell ⟨b, 6, none⟩ u6).alloc o).cell? ⟨b, 4, none⟩ = some u4 ∧ (((((((((W).setCell ⟨b, 0, none⟩ u0).setCell ⟨b, 1, none⟩ u1).setCell ⟨b, 2, none⟩ u2).setCell ⟨b, 3, none⟩ u3).setCell ⟨b, 4, none⟩ u4).setCell ⟨b, 5, none⟩ u5).setCell ⟨b, 6, none⟩ u6).alloc o).cell? ⟨b, 5, none⟩ = some u5 ∧ (((((((((W).setCell ⟨b, 0, none⟩ u0).setCell ⟨b, 1, none⟩ u1).setCell ⟨b, 2, none⟩ u2).setCell ⟨b, 3, none⟩ u3).setCell ⟨b, 4, none⟩ u4).setCell ⟨b, 5, none⟩ u5).setCell ⟨b, 6, none⟩ u6).alloc o).cell? ⟨b, 6, none⟩ = some u6 := by
  obtain ⟨⟨h0, h1, h2, h3, h4, h5, h6⟩, -⟩ := box7 (set7_box h u0 u1 u2 u3 u4 u5 u6)
  exact ⟨cell_al h0 o, cell_al h1 o, cell_al h2 o, cell_al h3 o, cell_al h4 o, cell_al h5 o, cell_al h6 o⟩
theorem set7_bel {w W : World} {b : Nat} (h : Below w.heap.size w W) (hb : w.heap.size ≤ b) (u0 u1 u2 u3 u4 u5 u6 : Value) (o : Obj) : Below w.heap.size w (((((((((W).setCell ⟨b, 0, none⟩ u0).setCell ⟨b, 1, none⟩ u1).setCell ⟨b, 2, none⟩ u2).setCell ⟨b, 3, none⟩ u3).setCell ⟨b, 4, none⟩ u4).setCell ⟨b, 5, none⟩ u5).setCell ⟨b, 6, none⟩ u6).alloc o) := by
  have := ((((((h.setCell (p := ⟨b, 0, none⟩) hb u0).setCell (p := ⟨b, 1, none⟩) hb u1).setCell (p := ⟨b, 2, none⟩) hb u2).setCell (p := ⟨b, 3, none⟩) hb u3).setCell (p := ⟨b, 4, none⟩) hb u4).setCell (p := ⟨b, 5, none⟩) hb u5).setCell (p := ⟨b, 6, none⟩) hb u6
  exact this.alloc this.size o
/-- what lies where: the two that are joined, the result's box, and others -/
structure TW (w : World) (x y : Sum) (l : List (Nat × Sum)) (W : World) : Prop where
  a : W.heap[w.heap.size]? = some (.cells (scs x) 125 (0, 0))
  b : W.heap[w.heap.size + 1]? = some (.cells (scs y) 125 (0, 0))
  r : W.heap[w.heap.size + 1 + 1]? = some (.cells (scs sm0) 125 (0, 0))
  o : ∀ p ∈ l, W.heap[p.1]? = some (.cells (scs p.2) 125 (0, 0))
  bel : Below w.heap.size w W
theorem TW.below {w : World} {x y : Sum} {l : List (Nat × Sum)} {W W' : World} (h : TW w x y l W) (hb : Below W.heap.size W W') : TW w x y l W' := by
  have kp : ∀ {k : Nat} {o : Obj}, W.heap[k]? = some o → W'.heap[k]? = some o := fun ho => (hb.block _ (Array.getElem?_eq_some_iff.1 ho).1).trans ho
  exact ⟨kp h.a, kp h.b, kp h.r, fun p hp => kp (h.o p hp), h.bel.trans (hb.mono h.bel.size)⟩
theorem TW.push {w : World} {x y : Sum} {l : List (Nat × Sum)} {W W' : World} {m : Sum} (h : TW w x y l W) (hW : W.alloc (.cells (scs m) 125) = W') : TW w x y ((W.heap.size, m) :: l) W' := by
  have h2 := h.below (W' := W') (by rw [← hW]; exact (Below.refl _ W).alloc (Nat.le_refl _) _)
  refine ⟨h2.a, h2.b, h2.r, fun p hp => ?_, h2.bel⟩
  rcases List.mem_cons.1 hp with rfl | hp
  · rw [← hW]; exact World.alloc_heap_new W _
  · exact h2.o p hp
theorem TW.lt {w : World} {x y : Sum} {l : List (Nat × Sum)} {W : World} (h : TW w x y l W) : w.heap.size + 2 < W.heap.size := by
  have := (Array.getElem?_eq_some_iff.1 h.r).1
  omega

end Go.Proofs.YtplieccalmkloaaGreatDoor
namespace Go.Proofs.YtplieccalmkloaaGreatDoor
open Go.RowKit Bod Wid

/-- a range of a text, its ends held to the text -/
def rangeOf (s : ByteArray) (i j : Int) : ByteArray := if min j s.size < min (max i 0) s.size then ByteArray.empty else s.extract (min (max i 0) s.size).toNat (min j s.size).toNat
theorem range_none {s : ByteArray} {i j : Int} {a : Nat} {b : Int} (ha : min (max i 0) s.size = a) (hb : min j s.size = b) (h : b < a) : smr (rangeOf s i j) = sm0 := by
  unfold rangeOf
  rw [ha, hb, if_pos h]
  rfl
theorem range_some {s : ByteArray} {i j : Int} {a b : Nat} (ha : min (max i 0) s.size = a) (hb : min j s.size = b) (h : ¬ b < a) : rangeOf s i j = s.extract a b := by
  unfold rangeOf
  rw [ha, hb, if_neg (by omega)]
  rfl

end Go.Proofs.YtplieccalmkloaaGreatDoor
namespace Go.Proofs.YtplieccalmkloaaGreatDoor
open Go.RowKit Bod Wid

/-- the texts one behind the other -/
def cat (ss : List ByteArray) : ByteArray := ss.foldl (· ++ ·) ByteArray.empty
theorem cat_snoc (ss : List ByteArray) (s : ByteArray) : cat (ss ++ [s]) = cat ss ++ s := by simp [cat]
theorem cat_take {ss : List ByteArray} {k : Nat} {s : ByteArray} (h : ss[k]? = some s) : cat (ss.take (k + 1)) = cat (ss.take k) ++ s := by
  rw [List.take_add_one, h]
  exact cat_snoc _ _
theorem cat_app (a b : List ByteArray) : (cat (a ++ b)).size = (cat a).size + (cat b).size := by
  have h : ∀ (b : List ByteArray) (x y : ByteArray), (b.foldl (· ++ ·) (x ++ y)).size = x.size + (b.foldl (· ++ ·) y).size := fun b => by
    induction b with
    | nil => intro x y; exact size_app x y
    | cons c r ih => intro x y; simp only [List.foldl_cons]; rw [app_assoc]; exact ih x (y ++ c)
  have := h b (cat a) ByteArray.empty
  simpa [cat] using this
theorem cat_le (ss : List ByteArray) (k : Nat) : (cat (ss.take k)).size ≤ (cat ss).size := by
  have := cat_app (ss.take k) (ss.drop k)
  rw [List.take_append_drop] at this
  omega
theorem smr_zero : smr ByteArray.empty = sm0 := rfl
theorem smr_cat0 (ss : List ByteArray) : smr (cat (ss.take 0)) = sm0 := rfl

/-- a slice that reads as the summaries of texts -/
def RdS (W : World) (v : Value) (ss : List ByteArray) : Prop :=
  ∃ a cap, v = .slice a ss.length cap ∧ (ss ≠ [] → ∃ g o, a = some ⟨g, o, none⟩ ∧ g < W.heap.size ∧ ∀ k s, ss[k]? = some s →
    W.cell? ⟨g, o + k * 7, none⟩ = some (.int .i64 (smr s).by') ∧ W.cell? ⟨g, o + k * 7 + 1, none⟩ = some (.int .i64 (smr s).un) ∧ W.cell? ⟨g, o + k * 7 + 2, none⟩ = some (.int .i64 (smr s).cl) ∧ W.cell? ⟨g, o + k * 7 + 3, none⟩ = some (.int .i64 (smr s).ce) ∧
    W.cell? ⟨g, o + k * 7 + 4, none⟩ = some (.int .i64 (smr s).nl) ∧ W.cell? ⟨g, o + k * 7 + 5, none⟩ = some (.string (smr s).hd) ∧ W.cell? ⟨g, o + k * 7 + 6, none⟩ = some (.string (smr s).tl))
/-- what lies where: the result's box and the sum under way -/
structure JS (w : World) (m : Sum) (W : World) : Prop where
  res : W.heap[w.heap.size]? = some (.cells (scs sm0) 125 (0, 0))
  box : W.heap[w.heap.size + 1]? = some (.cells (scs m) 125 (0, 0))
  bel : Below w.heap.size w W
theorem JS.below {w : World} {m : Sum} {W W' : World} (h : JS w m W) (hb : Below W.heap.size W W') : JS w m W' := by
  have kp : ∀ {k : Nat} {o : Obj}, W.heap[k]? = some o → W'.heap[k]? = some o := fun ho => (hb.block _ (Array.getElem?_eq_some_iff.1 ho).1).trans ho
  exact ⟨kp h.res, kp h.box, h.bel.trans (hb.mono h.bel.size)⟩
theorem JS.set {w : World} {m : Sum} {W : World} (h : JS w m W) (x : Sum) : JS w x (((((((W.setCell ⟨w.heap.size + 1, 0, none⟩ (.int .i64 x.by')).setCell ⟨w.heap.size + 1, 1, none⟩ (.int .i64 x.un)).setCell ⟨w.heap.size + 1, 2, none⟩ (.int .i64 x.cl)).setCell ⟨w.heap.size + 1, 3, none⟩ (.int .i64 x.ce)).setCell ⟨w.heap.size + 1, 4, none⟩ (.int .i64 x.nl)).setCell ⟨w.heap.size + 1, 5, none⟩ (.string x.hd)).setCell ⟨w.heap.size + 1, 6, none⟩ (.string x.tl)) := by
  have g := grown2 (grown2 (grown2 (grown2 (grown2 (grown2 (gcell W (w.heap.size + 1) 0 (.int .i64 x.by')) (gcell _ _ 1 (.int .i64 x.un))) (gcell _ _ 2 (.int .i64 x.cl))) (gcell _ _ 3 (.int .i64 x.ce))) (gcell _ _ 4 (.int .i64 x.nl))) (gcell _ _ 5 (.string x.hd))) (gcell _ _ 6 (.string x.tl))
  exact ⟨(g.block _ (Array.getElem?_eq_some_iff.1 h.res).1 (fun e => by have := Option.some.inj e; omega)).trans h.res, set7_box h.box _ _ _ _ _ _ _, h.bel.grown g h.bel.size (fun j e => by have := Option.some.inj e; omega)⟩
theorem JS.drew1 {w : World} {m : Sum} {W : World} (h : JS w m W) : JS w m W.drew := ⟨h.res, h.box, ⟨h.bel.os, h.bel.tape, h.bel.output, h.bel.size, h.bel.block⟩⟩

end Go.Proofs.YtplieccalmkloaaGreatDoor
namespace Go.Proofs.YtplieccalmkloaaGreatDoor
open Go.RowKit Bod Wid

/-- the cells of a list of summaries -/
def ssc (ss : List ByteArray) : List Value := ss.flatMap fun s => (scs (smr s)).toList
theorem ssc_snoc (ss : List ByteArray) (s : ByteArray) : ssc (ss ++ [s]) = ssc ss ++ (scs (smr s)).toList := by simp [ssc]
theorem ssc_len : ∀ ss : List ByteArray, (ssc ss).length = ss.length * 7
  | [] => rfl
  | s :: r => by
    have e : ssc (s :: r) = (scs (smr s)).toList ++ ssc r := by simp [ssc]
    rw [e, List.length_append, ssc_len r]
    simp; omega
theorem ssc_get : ∀ (ss : List ByteArray) (k : Nat) (s : ByteArray), ss[k]? = some s → ∀ i, i < 7 → (ssc ss)[k * 7 + i]? = (scs (smr s)).toList[i]?
  | [], _, _, h, _, _ => by simp at h
  | x :: r, 0, s, h, i, hi => by
    have : x = s := by simpa using h
    subst this
    have e : ssc (x :: r) = (scs (smr x)).toList ++ ssc r := by simp [ssc]
    rw [e, Nat.zero_mul, Nat.zero_add, List.getElem?_append_left (by simpa using hi)]
  | x :: r, k + 1, s, h, i, hi => by
    have e : ssc (x :: r) = (scs (smr x)).toList ++ ssc r := by simp [ssc]
    have hl : (scs (smr x)).toList.length = 7 := rfl
    rw [e, List.getElem?_append_right (by rw [hl]; omega), hl, show (k + 1) * 7 + i - 7 = k * 7 + i by omega]
    exact ssc_get r k s (by simpa using h) i hi
/-- a row of summaries' cells reads as them -/
theorem rds_cells {W : World} {g n cap : Nat} {ss : List ByteArray} (hn : ss.length = n) (hg : g < W.heap.size) (hc : ∀ j, j < n * 7 → W.cell? ⟨g, j, none⟩ = (ssc ss)[j]?) : RdS W (.slice (some ⟨g, 0, none⟩) n cap) ss := by
  subst hn
  refine ⟨_, cap, rfl, fun _ => ⟨g, 0, rfl, hg, fun k s hk => ?_⟩⟩
  have hkl := (List.getElem?_eq_some_iff.1 hk).1
  have at' : ∀ i, i < 7 → W.cell? ⟨g, 0 + k * 7 + i, none⟩ = (scs (smr s)).toList[i]? := fun i hi => by
    rw [Nat.zero_add, hc (k * 7 + i) (by omega)]
    exact ssc_get ss k s hk i hi
  exact ⟨at' 0 (by omega), at' 1 (by omega), at' 2 (by omega), at' 3 (by omega), at' 4 (by omega), at' 5 (by omega), at' 6 (by omega)⟩
theorem RdS.of_row {W : World} {base : Nat} {v : Value} {ss : List ByteArray} (h : W.ownsRow base 125 7 v ss.length (ssc ss)) : RdS W v ss := by
  rcases h.2 with ⟨h0, h1⟩ | ⟨g, cap, cur, hv, _⟩
  · have : ss = [] := List.length_eq_zero_iff.1 h1
    subst this
    exact ⟨_, _, h0, fun h => absurd rfl h⟩
  · subst hv
    exact rds_cells rfl (h.lt g rfl).2 (fun j hj => h.cellAt j hj)
theorem rds_block {W : World} {g cap : Nat} {arr : Array Value} {t : TypeId} {ss : List ByteArray} {n : Nat} (hn : ss.length = n) (h : W.heap[g]? = some (.cells arr t (0, 0))) (ha : arr.toList = ssc ss) : RdS W (.slice (some ⟨g, 0, none⟩) n cap) ss := by
  refine rds_cells hn (Array.getElem?_eq_some_iff.1 h).1 (fun j hj => ?_)
  have hl : arr.size = ss.length * 7 := by rw [← ssc_len ss, ← ha]; simp
  have hj2 : j < arr.size := by omega
  rw [← ha]
  simp [World.cell?, h]
theorem RdS.below {W W' : World} {v : Value} {ss : List ByteArray} (h : RdS W v ss) (hb : Below W.heap.size W W') : RdS W' v ss := by
  obtain ⟨a, cap, rfl, hr⟩ := h
  refine ⟨a, cap, rfl, fun h0 => ?_⟩
  obtain ⟨g, o, rfl, hg, hc⟩ := hr h0
  have kp : ∀ {i : Nat} {u : Value}, W.cell? ⟨g, i, none⟩ = some u → W'.cell? ⟨g, i, none⟩ = some u := fun h => (hb.cell (p := ⟨g, _, none⟩) hg).trans h
  refine ⟨g, o, rfl, Nat.lt_of_lt_of_le hg hb.size, fun k s hk => ?_⟩
  obtain ⟨c0, c1, c2, c3, c4, c5, c6⟩ := hc k s hk
  exact ⟨kp c0, kp c1, kp c2, kp c3, kp c4, kp c5, kp c6⟩
theorem rds_nil (W : World) (a : Option Addr) (cap : Nat) : RdS W (.slice a 0 cap) [] := ⟨a, cap, rfl, fun h => absurd rfl h⟩
theorem info_sum : (Tryz.prog.info? 125).map (fun i => (i.zero, i.size, i.bytes)) = some (some (.agg #[.int .i64 0, .int .i64 0, .int .i64 0, .int .i64 0, .int .i64 0, .string ⟨#[]⟩, .string ⟨#[]⟩]), 7, 72) := by kernel_rfl
end Go.Proofs.YtplieccalmkloaaGreatDoor
