/-
  Package layout's Places: the pens behind the clusters of a text, in order, in a list of the call's own. Conditions: the tables of unicode/utf8 lie as their text lays them.
-/
import Derived.Test.YtoopbccpclgciaaDoorORws
namespace Go.Proofs.YtoopbccpclgciaaDoor
open Go.RowKit Go.Shelf Bod Wid
attribute [local go_sem] Oper.semAt_some
/-- places, cell by cell -/
def pcs (l : List (Nat × Nat)) : List Value := l.flatMap fun p => [.int .i64 (p.1 : Int), .int .i64 (p.2 : Int)]
theorem pcs_app (l m : List (Nat × Nat)) : pcs (l ++ m) = pcs l ++ pcs m := by simp [pcs]
/-- the pens behind the clusters, in order -/
def plL (W : Nat) (st : Lst) (s : ByteArray) (pre : List Clu) : List (Nat × Nat) := (List.range (pre.length + 1)).map fun i => (layL W st (cus s (pre.take i))).pen
theorem plL_len (W : Nat) (st : Lst) (s : ByteArray) (pre : List Clu) : (plL W st s pre).length = pre.length + 1 := by simp [plL]
theorem plL_snoc (W : Nat) (st : Lst) (s : ByteArray) (pre : List Clu) (x : Clu) : plL W st s (pre ++ [x]) = plL W st s pre ++ [(layL W st (cus s (pre ++ [x]))).pen] := by
  unfold plL
  rw [List.length_append, List.length_singleton, List.range_succ, List.map_append]
  congr 1
  · refine List.map_congr_left fun i hi => ?_
    have hi := List.mem_range.1 hi
    rw [List.take_append_of_le_length (by omega)]
  · simp [List.take_of_length_le]
/-- the call's boxes between two rounds -/
structure Pq (w : World) (wb sb lb pb lo hi : Nat) (W : Nat) (s : ByteArray) (l : List (Nat × Nat)) (p : Nat × Nat) (v : Value) (Y : World) : Prop where
  bel : Below w.heap.size w Y
  wbx : Y.heap[wb]? = some (.cells #[.int .i64 (W : Int)] 3 (0, 0))
  sbx : Y.heap[sb]? = some (.cells #[.string s] 9 (0, 0))
  pbx : Pb pb p.1 p.2 Y
  lbx : Y.heap[lb]? = some (.cells #[v] 35 (0, 0))
  row : Y.ownsRow w.heap.size 28 2 v l.length (pcs l)
  far : ∀ g, v.ownBlock = some g → (g < lo ∨ hi ≤ g) ∧ g ≠ pb
/-- what moves while the list is made -/
def Mp2 (n sb lb lo hi : Nat) (k : Nat) (o : Obj) : Prop := k = lb ∨ (n ≤ k ∧ k ≠ sb ∧ (k < lo ∨ hi ≤ k) ∧ ∃ vs fz, o = .cells vs 28 fz)
section
variable {w Y Z : World} {wb sb lb pb lo hi W : Nat} {s : ByteArray} {l : List (Nat × Nat)} {p q : Nat × Nat} {v v' : Value}
theorem Pq.below (h : Pq w wb sb lb pb lo hi W s l p v Y) (hb : Below Y.heap.size Y Z) : Pq w wb sb lb pb lo hi W s l p v Z := by
  have k : ∀ {k : Nat} {o : Obj}, Y.heap[k]? = some o → Z.heap[k]? = some o := fun hk => (hb.block _ (Array.getElem?_eq_some_iff.1 hk).1).trans hk
  exact ⟨h.bel.trans (hb.mono h.bel.size), k h.wbx, k h.sbx, h.pbx.below hb, k h.lbx, o_keep h.row (fun g e => hb.block g (o_blk h.row e).2.2), h.far⟩
theorem Pq.pen (h : Pq w wb sb lb pb lo hi W s l p v Y) (hw : w.heap.size ≤ pb) : Pq w wb sb lb pb lo hi W s l q v ((Y.setCell ⟨pb, 0, none⟩ (.int .i64 (q.1 : Int))).setCell ⟨pb, 1, none⟩ (.int .i64 (q.2 : Int))) := by
  have hp : Y.heap[pb]? = some (.cells #[.int .i64 (p.1 : Int), .int .i64 (p.2 : Int)] 28 (0, 0)) := h.pbx
  have g := o_grown2 (gcell Y pb 0 (.int .i64 (q.1 : Int))) (gcell _ pb 1 (.int .i64 (q.2 : Int)))
  have ng : ∀ {k : Nat} {vs : Array Value} {t : TypeId} {fz : Nat × Nat}, Y.heap[k]? = some (.cells vs t fz) → t ≠ 28 → ((Y.setCell ⟨pb, 0, none⟩ (.int .i64 (q.1 : Int))).setCell ⟨pb, 1, none⟩ (.int .i64 (q.2 : Int))).heap[k]? = some (.cells vs t fz) := fun {k vs t fz} hk ht => by
    refine (g.block k (Array.getElem?_eq_some_iff.1 hk).1 (fun e => ?_)).trans hk
    injection e with e
    rw [e, hp] at hk
    injection hk with hk
    injection hk with _ hk
    exact ht hk.symm
  exact ⟨(h.bel.setCell (p := ⟨pb, 0, none⟩) hw _).setCell (p := ⟨pb, 1, none⟩) hw _, ng h.wbx (by decide), ng h.sbx (by decide), pb_set hp, ng h.lbx (by decide), o_keep h.row (fun b e => g.block b (o_blk h.row e).2.2 (fun q => (h.far b e).2 (by injection q))), h.far⟩
theorem Pq.app (h : Pq w wb sb lb pb lo hi W s l p v Y) (hw : w.heap.size ≤ lb) (hX : hi ≤ Y.heap.size) {o : Obj} {Y1 : World} {x : Nat × Nat} (hg : (Y.alloc o).grownBy Y1 v.ownBlock) (hrow : Y1.ownsRow w.heap.size 28 2 v' (l.length + 1) (pcs l ++ [.int .i64 (x.1 : Int), .int .i64 (x.2 : Int)])) (hob : v'.ownBlock = v.ownBlock ∨ v'.ownBlock = some (Y.alloc o).heap.size) : Pq w wb sb lb pb lo hi W s (l ++ [x]) p v' (Y1.setCell ⟨lb, 0, none⟩ v') := by
  have hlt : ∀ {k : Nat} {o : Obj}, Y.heap[k]? = some o → k < Y.heap.size := fun hk => (Array.getElem?_eq_some_iff.1 hk).1
  have keep : ∀ {k : Nat} {o' : Obj}, Y.heap[k]? = some o' → v.ownBlock ≠ some k → Y1.heap[k]? = some o' := fun hk hne => (hg.block _ (by have := hlt hk; simp; omega) (fun e => hne e.symm)).trans ((Below.heap_alloc _ _ _ (hlt hk)).trans hk)
  have nt : ∀ {k : Nat} {vs : Array Value} {t : TypeId} {fz : Nat × Nat}, Y.heap[k]? = some (.cells vs t fz) → t ≠ 28 → v.ownBlock ≠ some k := fun hk ht e => by
    obtain ⟨⟨cur, hc⟩, -, -⟩ := o_blk h.row e
    rw [hk] at hc
    injection hc with hc
    injection hc with _ hc
    exact ht hc
  have l1 := keep h.lbx (nt h.lbx (by decide))
  have g2 := gcell Y1 lb 0 v'
  have k2 : ∀ {k : Nat} {o' : Obj}, Y1.heap[k]? = some o' → k ≠ lb → (Y1.setCell ⟨lb, 0, none⟩ v').heap[k]? = some o' := fun hk hne => (g2.block _ (Array.getElem?_eq_some_iff.1 hk).1 (fun e => hne (by injection e))).trans hk
  have nl : ∀ {k : Nat} {vs : Array Value} {t : TypeId} {fz : Nat × Nat}, Y.heap[k]? = some (.cells vs t fz) → t ≠ 35 → k ≠ lb := fun hk ht e => by
    rw [e, h.lbx] at hk
    injection hk with hk
    injection hk with _ hk
    exact ht hk.symm
  have hp : Y.heap[pb]? = some (.cells #[.int .i64 (p.1 : Int), .int .i64 (p.2 : Int)] 28 (0, 0)) := h.pbx
  have hfar' : ∀ g, v'.ownBlock = some g → (g < lo ∨ hi ≤ g) ∧ g ≠ pb := fun g e => by
    rcases hob with q | q
    · exact h.far g (q ▸ e)
    · rw [q] at e
      have e := Option.some.inj e
      have := hlt hp
      simp at e
      omega
  have hb1 : Below w.heap.size w Y1 := (h.bel.alloc h.bel.size o).grown hg (by simp; have := h.bel.size; omega) (fun k e => (o_blk h.row e).2.1)
  have hr1 : Y1.ownsRow w.heap.size 28 2 v' (l ++ [x]).length (pcs (l ++ [x])) := by rw [pcs_app, List.length_append]; exact hrow
  refine ⟨hb1.setCell (p := ⟨lb, 0, none⟩) hw _, k2 (keep h.wbx (nt h.wbx (by decide))) (nl h.wbx (by decide)), k2 (keep h.sbx (nt h.sbx (by decide))) (nl h.sbx (by decide)), k2 (keep hp (fun e => (h.far pb e).2 rfl)) (nl hp (by decide)), by simpa using set1 (i := 0) v' l1, o_keep hr1 (fun g e => g2.block g (o_blk hr1 e).2.2 (fun q => ?_)), hfar'⟩
  injection q with q
  obtain ⟨⟨cur, hc⟩, -, -⟩ := o_blk hr1 e
  rw [q, l1] at hc
  injection hc with hc
  injection hc with _ hc
  revert hc
  decide
theorem Pq.lbk (h : Pq w wb sb lb pb lo hi W s l p v Y) {o : Obj} {Y1 : World} (hg : (Y.alloc o).grownBy Y1 v.ownBlock) : Y1.heap[lb]? = some (.cells #[v] 35 (0, 0)) := by
  have hlt := (Array.getElem?_eq_some_iff.1 h.lbx).1
  exact (hg.block _ (by simp; omega) (fun e => o_nb (by decide) h.row e.symm h.lbx rfl)).trans ((Below.heap_alloc _ _ _ hlt).trans h.lbx)
theorem Pq.mv (h : Pq w wb sb lb pb lo hi W s l p v Y) (hn : 0 < l.length) {B : Nat} {o : Obj} {Y1 : World} (hg : (Y.alloc o).grownBy Y1 v.ownBlock) : KeepsFrom B Y (Y1.setCell ⟨lb, 0, none⟩ v') ∧ KpT (Mp2 w.heap.size sb lb lo hi) Y (Y1.setCell ⟨lb, 0, none⟩ v') := by
  have l1 := h.lbk hg
  have g2 := gcell Y1 lb 0 v'
  obtain ⟨m, hm⟩ : ∃ m, l.length = m + 1 := ⟨l.length - 1, by omega⟩
  have hr0 := h.row
  rw [hm] at hr0
  obtain ⟨g, cap, hv⟩ := ownsRow_succ hr0
  have hob : v.ownBlock = some g := by rw [hv]; rfl
  have hrow := h.row.alloc o
  obtain ⟨⟨cur, hc⟩, hbase, -⟩ := o_blk hrow hob
  have hns := o_nb (by decide) h.row hob h.sbx
  have hfar := (h.far g hob).1
  have ha : Below Y.heap.size Y (Y.alloc o) := (Below.refl _ Y).alloc (Nat.le_refl _) _
  rw [hob] at hg
  exact ⟨kf_trans (kf_below ha) (kf_trans (kf_cells hg hc) (kf_cells g2 l1)), (KpT.of_below ha).trans ((KpT.of_grown hg (fun r o' e ho => by cases e; rw [hc] at ho; cases ho; exact .inr ⟨hbase, hns, hfar, _, _, rfl⟩)).trans (KpT.of_grown g2 (fun r o' e _ => by cases e; exact .inl rfl)))⟩
theorem Pq.mp (h : Pq w wb sb lb pb lo hi W s l p v Y) (hw : w.heap.size ≤ pb) (hl : pb < lo) (hs : pb ≠ sb) {B : Nat} : KeepsFrom B Y ((Y.setCell ⟨pb, 0, none⟩ (.int .i64 (q.1 : Int))).setCell ⟨pb, 1, none⟩ (.int .i64 (q.2 : Int))) ∧ KpT (Mp2 w.heap.size sb lb lo hi) Y ((Y.setCell ⟨pb, 0, none⟩ (.int .i64 (q.1 : Int))).setCell ⟨pb, 1, none⟩ (.int .i64 (q.2 : Int))) := by
  have hp : Y.heap[pb]? = some (.cells #[.int .i64 (p.1 : Int), .int .i64 (p.2 : Int)] 28 (0, 0)) := h.pbx
  have g := o_grown2 (gcell Y pb 0 (.int .i64 (q.1 : Int))) (gcell _ pb 1 (.int .i64 (q.2 : Int)))
  exact ⟨kf_cells g hp, KpT.of_grown g (fun r o' e ho => by cases e; rw [hp] at ho; cases ho; exact .inr ⟨hw, hs, .inl hl, _, _, rfl⟩)⟩
theorem Pq.lim (h : Pq w wb sb lb pb lo hi W s l p v Y) {lo' hi' : Nat} (hl : Y.heap.size ≤ lo') : Pq w wb sb lb pb lo' hi' W s l p v Y :=
  ⟨h.bel, h.wbx, h.sbx, h.pbx, h.lbx, h.row, fun g e => ⟨.inl (Nat.lt_of_lt_of_le (o_blk h.row e).2.2 hl), (h.far g e).2⟩⟩
theorem pq_ab {α : Type} {B : Nat} {f : α → List (Nat × Nat)} {k : α → Nat × Nat} (h0 : w.heap.size ≤ B) (h1 : wb < B) (h2 : sb < B) (h3 : lb < B) (h4 : pb < B) : Ab B lo hi (fun (a : α) X => ∃ v, Pq w wb sb lb pb lo hi W s (f a) (k a) v X) := fun a X Y row h hg hr => h.imp fun v h =>
  ⟨ab_below (B := B) (lo := lo) (hi := hi) (w := w) h0 (Nat.le_refl _) () X Y row h.bel hg hr, ab_block (o := fun _ : Unit => _) h1 () X Y row h.wbx hg hr, ab_block (o := fun _ : Unit => _) h2 () X Y row h.sbx hg hr, ab_block (o := fun _ : Unit => _) h4 () X Y row h.pbx hg hr, ab_block (o := fun _ : Unit => _) h3 () X Y row h.lbx hg hr,
    o_keep h.row (fun g e => hg.block g (o_blk h.row e).2.2 (fun q => by
      obtain ⟨_, (h3 | ⟨o, ho, hc⟩)⟩ := hr g q.symm
      · have := (h.far g e).1; omega
      · obtain ⟨⟨cur, hc2⟩, -, -⟩ := o_blk h.row e
        rw [hc2] at ho; cases ho; cases hc)), h.far⟩
end
theorem infoPL : (Tryd.prog.info? 28).map (fun i => (i.zero, i.size, i.bytes)) = some (some (.agg #[.int .i64 0, .int .i64 0]), 2, 16) := by kernel_rfl
end Go.Proofs.YtoopbccpclgciaaDoor
