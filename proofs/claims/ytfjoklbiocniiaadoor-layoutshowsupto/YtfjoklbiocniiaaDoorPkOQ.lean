/-
  Package layout's Places. Conditions: those of each theorem.
-/
import Derived.Test.YtfjoklbiocniiaaDoorORws
namespace Go.Proofs.YtfjoklbiocniiaaDoor
open Go.RowKit Go.Shelf Bod Wid
attribute [local go_sem] Oper.semAt_some
/-- places, cell by cell -/
def pcs (l : List (Nat × Nat)) : List Value := l.flatMap fun p => [.int .i64 (p.1 : Int), .int .i64 (p.2 : Int)]
theorem pcs_app (l m : List (Nat × Nat)) : pcs (l ++ m) = pcs l ++ pcs m := by simp [pcs]
/-- the pens behind the clusters, in order -/
def plL (W : Nat) (st : Lst) (s : ByteArray) (pre : List Clu) : List (Nat × Nat) := (List.range (pre.length + 1)).map fun i => (layL W st (cus s (pre.take i))).pen
theorem plL_len (W : Nat) (st : Lst) (s : ByteArray) (pre : List Clu) : (plL W st s pre).length = pre.length + 1 := by simp [plL]
theorem plL_snoc (W : Nat) (st : Lst) (s : ByteArray) (pre : List Clu) (x : Clu) : plL W st s (pre ++ [x]) = plL W st s pre ++ [(layL W st (cus s (pre ++ [x]))).pen] := by
  unfold plL
  rw [List.length_append, List.length_singleton, List.range_succ, List.map_append]
  congr 1
  · refine List.map_congr_left fun i hi => ?_
    have hi := List.mem_range.1 hi
    rw [List.take_append_of_le_length (by omega)]
  · simp [List.take_of_length_le]
/-- the call's boxes between two rounds -/
structure Pq (w : World) (wb sb lb pb lo hi : Nat) (W : Nat) (s : ByteArray) (l : List (Nat × Nat)) (p : Nat × Nat) (v : Value) (Y : World) : Prop where
  bel : Below w.heap.size w Y
  wbx : Y.heap[wb]? = some (.cells #[.int .i64 (W : Int)] 3 (0, 0))
  sbx : Y.heap[sb]? = some (.cells #[.string s] 9 (0, 0))
  pbx : Pb pb p.1 p.2 Y
  lbx : Y.heap[lb]? = some (.cells #[v] 35 (0, 0))
  row : Y.ownsRow w.heap.size 28 2 v l.length (pcs l)
  far : ∀ g, v.ownBlock = some g → (g < lo ∨ hi ≤ g) ∧ g ≠ pb
/-- what moves while the list is made -/
def Mp2 (n sb lb lo hi : Nat) (k : Nat) (o : Obj) : Prop := k = lb ∨ (n ≤ k ∧ k ≠ sb ∧ (k < lo ∨ hi ≤ k) ∧ ∃ vs fz, o = .cells vs 28 fz)
section
variable {w Y Z : World} {wb sb lb pb lo hi W : Nat} {s : ByteArray} {l : List (Nat × Nat)} {p q : Nat × Nat} {v v' : Value}
theorem Pq.below (h : Pq w wb sb lb pb lo hi W s l p v Y) (hb : Below Y.heap.size Y Z) : Pq w wb sb lb pb lo hi W s l p v Z := by
  have k : ∀ {k : Nat} {o : Obj}, Y.heap[k]? = some o → Z.heap[k]? = some o := fun hk => (hb.block _ (Array.getElem?_eq_some_iff.1 hk).1).trans hk
  exact ⟨h.bel.trans (hb.mono h.bel.size), k h.wbx, k h.sbx, h.pbx.below hb, k h.lbx, o_keep h.row (fun g e => hb.block g (o_blk h.row e).2.2), h.far⟩
theorem Pq.pen (h : Pq w wb sb lb pb lo hi W s l p v Y) (hw : w.heap.size ≤ pb) : Pq w wb sb lb pb lo hi W s l q v ((Y.setCell ⟨pb, 0, none⟩ (.int .i64 (q.1 : Int))).setCell ⟨pb, 1, none⟩ (.int .i64 (q.2 : Int))) := by
  have hp : Y.heap[pb]? = some (.cells #[.int .i64 (p.1 : Int), .int .i64 (p.2 : Int)] 28 (0, 0)) := h.pbx
  have g := o_grown2 (gcell Y pb 0 (.int .i64 (q.1 : Int))) (gcell _ pb 1 (.int .i64 (q.2 : Int)))
  have ng : ∀ {k : Nat} {vs : Array Value} {t : TypeId} {fz : Nat × Nat}, Y.heap[k]? = some (.cells vs t fz) → t ≠ 28 → ((Y.setCell ⟨pb, 0, none⟩ (.int .i64 (q.1 : Int))).setCell ⟨pb, 1, none⟩ (.int .i64 (q.2 : Int))).heap[k]? = some (.cells vs t fz) := fun {k vs t fz} hk ht => by
    refine (g.block k (Array.getElem?_eq_some_iff.1 hk).1 (fun e => ?_)).trans hk
    injection e with e
    rw [e, hp] at hk
    injection hk with hk
    injection hk with _ hk
    exact ht hk.symm
  exact ⟨(h.bel.setCell (p := ⟨pb, 0, none⟩) hw _).setCell (p := ⟨pb, 1, none⟩) hw _, ng h.wbx (by decide), ng h.sbx (by decide), pb_set hp, ng h.lbx (by decide), o_keep h.row (fun b e => g.block b (o_blk h.row e).2.2 (fun q => (h.far b e).2 (by injection q))), h.far⟩
theorem Pq.app (h : Pq w wb sb lb pb lo hi W s l p v Y) (hw : w.heap.size ≤ lb) (hX : hi ≤ Y.heap.size) {o : Obj} {Y1 : World} {x : Nat × Nat} (hg : (Y.alloc o).grownBy Y1 v.ownBlock) (hrow : Y1.ownsRow w.heap.size 28 2 v' (l.length + 1) (pcs l ++ [.int .i64 (x.1 : Int), .int .i64 (x.2 : Int)])) (hob : v'.ownBlock = v.ownBlock ∨ v'.ownBlock = some (Y.alloc o).heap.size) : Pq w wb sb lb pb lo hi W s (l ++ [x]) p v' (Y1.setCell ⟨lb, 0, none⟩ v') := by
  have hlt : ∀ {k : Nat} {o : Obj}, Y.heap[k]? = some o → k < Y.heap.size := fun hk => (Array.getElem?_eq_some_iff.1 hk).1
  have keep : ∀ {k : Nat} {o' : Obj}, Y.heap[k]? = some o' → v.ownBlock ≠ some k → Y1.heap[k]? = some o' := fun hk hne => (hg.block _ (by have := hlt hk; simp; omega) (fun e => hne e.symm)).trans ((Below.heap_alloc _ _ _ (hlt hk)).trans hk)
  have nt : ∀ {k : Nat} {vs : Array Value} {t : TypeId} {fz : Nat × Nat}, Y.heap[k]? = some (.cells vs t fz) → t ≠ 28 → v.ownBlock ≠ some k := fun hk ht e => by
    obtain ⟨⟨cur, hc⟩, -, -⟩ := o_blk h.row e
    rw [hk] at hc
    injection hc with hc
    injection hc with _ hc
    exact ht hc
  have l1 := keep h.lbx (nt h.lbx (by decide))
  have g2 := gcell Y1 lb 0 v'
  have k2 : ∀ {k : Nat} {o' : Obj}, Y1.heap[k]? = some o' → k ≠ lb → (Y1.setCell ⟨lb, 0, none⟩ v').heap[k]? = some o' := fun hk hne => (g2.block _ (Array.getElem?_eq_some_iff.1 hk).1 (fun e => hne (by injection e))).trans hk
  have nl : ∀ {k : Nat} {vs : Array Value} {t : TypeId} {fz : Nat × Nat}, Y.heap[k]? = some (.cells vs t fz) → t ≠ 35 → k ≠ lb := fun hk ht e => by
    rw [e, h.lbx] at hk
    injection hk with hk
    injection hk with _ hk
    exact ht hk.symm
  have hp : Y.heap[pb]? = some (.cells #[.int .i64 (p.1 : Int), .int .i64 (p.2 : Int)] 28 (0, 0)) := h.pbx
  have hfar' : ∀ g, v'.ownBlock = some g → (g < lo ∨ hi ≤ g) ∧ g ≠ pb := fun g e => by
    rcases hob with q | q
    · exact h.far g (q ▸ e)
    · rw [q] at e
      have e := Option.some.inj e
      have := hlt hp
      simp at e
      omega
  have hb1 : Below w.heap.size w Y1 := (h.bel.alloc h.bel.size o).grown hg (by simp; have := h.bel.size; omega) (fun k e => (o_blk h.row e).2.1)
  have hr1 : Y1.ownsRow w.heap.size 28 2 v' (l ++ [x]).length (pcs (l ++ [x])) := by rw [pcs_app, List.length_append]; exact hrow
  refine ⟨hb1.setCell (p := ⟨lb, 0, none⟩) hw _, k2 (keep h.wbx (nt h.wbx (by decide))) (nl h.wbx (by decide)), k2 (keep h.sbx (nt h.sbx (by decide))) (nl h.sbx (by decide)), k2 (keep hp (fun e => (h.far pb e).2 rfl)) (nl hp (by decide)), by simpa using set1 (i := 0) v' l1, o_keep hr1 (fun g e => g2.block g (o_blk hr1 e).2.2 (fun q => ?_)), hfar'⟩
  injection q with q
  obtain ⟨⟨cur, hc⟩, -, -⟩ := o_blk hr1 e
  rw [q, l1] at hc
  injection hc with hc
  injection hc with _ hc
  revert hc
  decide
theorem Pq.lbk (h : Pq w wb sb lb pb lo hi W s l p v Y) {o : Obj} {Y1 : World} (hg : (Y.alloc o).grownBy Y1 v.ownBlock) : Y1.heap[lb]? = some (.cells #[v] 35 (0, 0)) := by
  have hlt := (Array.getElem?_eq_some_iff.1 h.lbx).1
  exact (hg.block _ (by simp; omega) (fun e => o_nb (by decide) h.row e.symm h.lbx rfl)).trans ((Below.heap_alloc _ _ _ hlt).trans h.lbx)
theorem Pq.mv (h : Pq w wb sb lb pb lo hi W s l p v Y) (hn : 0 < l.length) {B : Nat} {o : Obj} {Y1 : World} (hg : (Y.alloc o).grownBy Y1 v.ownBlock) : KeepsFrom B Y (Y1.setCell ⟨lb, 0, none⟩ v') ∧ KpT (Mp2 w.heap.size sb lb lo hi) Y (Y1.setCell ⟨lb, 0, none⟩ v') := by
  have l1 := h.lbk hg
  have g2 := gcell Y1 lb 0 v'
  obtain ⟨m, hm⟩ : ∃ m, l.length = m + 1 := ⟨l.length - 1, by omega⟩
  have hr0 := h.row
  rw [hm] at hr0
  obtain ⟨g, cap, hv⟩ := ownsRow_succ hr0
  have hob : v.ownBlock = some g := by rw [hv]; rfl
  have hrow := h.row.alloc o
  obtain ⟨⟨cur, hc⟩, hbase, -⟩ := o_blk hrow hob
  have hns := o_nb (by decide) h.row hob h.sbx
  have hfar := (h.far g hob).1
  have ha : Below Y.heap.size Y (Y.alloc o) := (Below.refl _ Y).alloc (Nat.le_refl _) _
  rw [hob] at hg
  exact ⟨kf_trans (kf_below ha) (kf_trans (kf_cells hg hc) (kf_cells g2 l1)), (KpT.of_below ha).trans ((KpT.of_grown hg (fun r o' e ho => by cases e; rw [hc] at ho; cases ho; exact .inr ⟨hbase, hns, hfar, _, _, rfl⟩)).trans (KpT.of_grown g2 (fun r o' e _ => by cases e; exact .inl rfl)))⟩
theorem Pq.mp (h : Pq w wb sb lb pb lo hi W s l p v Y) (hw : w.heap.size ≤ pb) (hl : pb < lo) (hs : pb ≠ sb) {B : Nat} : KeepsFrom B Y ((Y.setCell ⟨pb, 0, none⟩ (.int .i64 (q.1 : Int))).setCell ⟨pb, 1, none⟩ (.int .i64 (q.2 : Int))) ∧ KpT (Mp2 w.heap.size sb lb lo hi) Y ((Y.setCell ⟨pb, 0, none⟩ (.int .i64 (q.1 : Int))).setCell ⟨pb, 1, none⟩ (.int .i64 (q.2 : Int))) := by
  have hp : Y.heap[pb]? = some (.cells #[.int .i64 (p.1 : Int), .int .i64 (p.2 : Int)] 28 (0, 0)) := h.pbx
  have g := o_grown2 (gcell Y pb 0 (.int .i64 (q.1 : Int))) (gcell _ pb 1 (.int .i64 (q.2 : Int)))
  exact ⟨kf_cells g hp, KpT.of_grown g (fun r o' e ho => by cases e; rw [hp] at ho; cases ho; exact .inr ⟨hw, hs, .inl hl, _, _, rfl⟩)⟩
theorem Pq.lim (h : Pq w wb sb lb pb lo hi W s l p v Y) {lo' hi' : Nat} (hl : Y.heap.size ≤ lo') : Pq w wb sb lb pb lo' hi' W s l p v Y :=
  ⟨h.bel, h.wbx, h.sbx, h.pbx, h.lbx, h.row, fun g e => ⟨.inl (Nat.lt_of_lt_of_le (o_blk h.row e).2.2 hl), (h.far g e).2⟩⟩
theorem pq_ab {α : Type} {B : Nat} {f : α → List (Nat × Nat)} {k : α → Nat × Nat} (h0 : w.heap.size ≤ B) (h1 : wb < B) (h2 : sb < B) (h3 : lb < B) (h4 : pb < B) : Ab B lo hi (fun (a : α) X => ∃ v, Pq w wb sb lb pb lo hi W s (f a) (k a) v X) := fun a X Y row h hg hr => h.imp fun v h =>
  ⟨ab_below (B := B) (lo := lo) (hi := hi) (w := w) h0 (Nat.le_refl _) () X Y row h.bel hg hr, ab_block (o := fun _ : Unit => _) h1 () X Y row h.wbx hg hr, ab_block (o := fun _ : Unit => _) h2 () X Y row h.sbx hg hr, ab_block (o := fun _ : Unit => _) h4 () X Y row h.pbx hg hr, ab_block (o := fun _ : Unit => _) h3 () X Y row h.lbx hg hr,
    o_keep h.row (fun g e => hg.block g (o_blk h.row e).2.2 (fun q => by
      obtain ⟨_, (h3 | ⟨o, ho, hc⟩)⟩ := hr g q.symm
      · have := (h.far g e).1; omega
      · obtain ⟨⟨cur, hc2⟩, -, -⟩ := o_blk h.row e
        rw [hc2] at ho; cases ho; cases hc)), h.far⟩
end
theorem infoPL : (Tryd.prog.info? 28).map (fun i => (i.zero, i.size, i.bytes)) = some (some (.agg #[.int .i64 0, .int .i64 0]), 2, 16) := by kernel_rfl
end Go.Proofs.YtfjoklbiocniiaaDoor
namespace Go.Proofs.YtfjoklbiocniiaaDoor
open Go.RowKit Go.Shelf Bod Wid
attribute [local go_sem] Oper.semAt_some
set_option maxRecDepth 100000 in
set_option maxHeartbeats 2000000 in
theorem pls_in (p s : ByteArray) (W0 : Int) (hp : p.size ≤ 268435456) (hs : s.size ≤ 268435456) (w : World) (hT : Lib.Utf8Tabs 0 1 w) (hlo0 : 0 < w.heap.size) (hlo1 : 1 < w.heap.size) (Wn : Nat) (hWn : (Wn : Int) = couW W0) :
    CallsIn Fence.wide 7 Tryd.prog 13 #[.string p, .string s, .int .i64 W0] w fun e Y => ∃ v, e = .returned v ∧ Hid (Y.ownsRow w.heap.size 28 2 v ((cl s).length + 1) (pcs (plL Wn (layL Wn lst0 (cus p (cl p))) s (cl s))) ∧ Below w.heap.size w Y) := by
  have hW := couW_in W0
  have hW1 : 1 ≤ Wn := by omega
  have hW2 : Wn ≤ 65535 := by omega
  have CO : Hid (∀ X, CallsIn Fence.wide 6 Tryd.prog 29 #[.int .i64 W0] X fun e w' => e = .returned (.int .i64 (Wn : Int)) ∧ X = w') := fun X => callsIn_wide.2 (by rw [hWn]; exact (cou_any W0 X).mono fun e w' h => ⟨h.1, h.2.symm⟩)
  clear hWn hW
  have hr1 := layP_rows Wn p
  have hok := layL_ok hW1 (cus_n (s := p) (l := cl p) (fun _ h => h)) (lst0_ok hW1)
  have B1 : Hid (∀ X, Below w.heap.size w X → CallsIn Fence.wide 6 Tryd.prog 30 #[.agg #[.int .i64 0, .int .i64 0], .string p, .int .i64 (Wn : Int)] X fun e Y => e = .returned (.agg #[.int .i64 (layL Wn lst0 (cus p (cl p))).rows.length, .int .i64 (layL Wn lst0 (cus p (cl p))).col]) ∧ Hid (Below X.heap.size X Y)) := fun X hX => callsIn_wide.2 (beh_any p hp lst0 Wn (lst0_ok hW1) hW1 hW2 (by show 0 ≤ _; omega) X (tabs_below hT hX) (Nat.lt_of_lt_of_le hlo0 hX.size) (Nat.lt_of_lt_of_le hlo1 hX.size))
  have HR : Hid ((layL Wn lst0 (cus p (cl p))).rows.length ≤ 536870912) := by show _ ≤ _; omega
  clear hr1
  generalize layL Wn lst0 (cus p (cl p)) = st1 at B1 HR hok ⊢
  have HOK : Hid (st1.Ok Wn) := hok
  clear hok
  obtain ⟨wa, hwa⟩ : ∃ wa, (w.alloc (.cells #[.int .i64 W0] 3)).setCell ⟨w.heap.size, 0, none⟩ (.int .i64 (Wn : Int)) = wa := ⟨_, rfl⟩
  have HWA : Hid (Below w.heap.size w wa ∧ wa.heap[w.heap.size]? = some (.cells #[.int .i64 (Wn : Int)] 3 (0, 0))) := by
    rw [← hwa]
    exact ⟨((Below.refl _ w).alloc (Nat.le_refl _) _).setCell (p := ⟨w.heap.size, 0, none⟩) (Nat.le_refl _) _, by simpa using set1 (i := 0) (.int .i64 (Wn : Int)) (World.alloc_heap_new w (.cells #[.int .i64 W0] 3))⟩
  have t5 := (box1o HWA.out.2).1
  refine callsIn_of_wp_marks Tryd.func13 rfl trivial ?_ rfl
  simp only [Tryd.ntmps13, List.size_toArray, List.length_cons, List.length_nil, Nat.reduceAdd, Nat.reduceSub, Array.replicate_succ, Array.replicate_zero, List.push_toArray, List.append_toArray, List.nil_append, List.cons_append]
  gi_wp2_with (first | (refine ⟨trivial, ?_⟩; gi_at_call 29; refine (CO.out _).mono ?_; clear CO; rintro e w0 ⟨rfl, rfl⟩) | (refine ⟨trivial, ?_⟩; gi_at_call 30; refine (B1.out _ HWA.out.1).mono ?_; clear B1 t5; rintro e w1 ⟨rfl, HB1⟩; have t5 := (box1o ((HB1.out.block _ (Array.getElem?_eq_some_iff.1 HWA.out.2).1).trans HWA.out.2)).1) | (refine ⟨trivial, ?_⟩; gi_at_call 26; refine (walk_in 6 _ _).mono ?_; rintro e w' ⟨rfl, rfl⟩))
  obtain ⟨W3, hW3⟩ : ∃ W3, (((w1.alloc (.cells #[.int .i64 st1.rows.length, .int .i64 st1.col] 28)).alloc (.cells #[.int .i64 st1.rows.length, .int .i64 st1.col] 28)).alloc (.cells #[.slice (some ⟨w1.heap.size + 1, 0, none⟩) 1 1] 35)).alloc (.cells #[.string s] 9) = W3 := ⟨_, rfl⟩
  rw [hW3]
  have H3 : Hid ((∀ lo hi, W3.heap.size ≤ lo → Pq w w.heap.size (w1.heap.size + 1 + 1 + 1) (w1.heap.size + 1 + 1) w1.heap.size lo hi Wn s (plL Wn st1 s []) st1.pen (.slice (some ⟨w1.heap.size + 1, 0, none⟩) 1 1) W3) ∧ W3.heap.size = w1.heap.size + 4 ∧ w.heap.size < w1.heap.size) := by
    obtain ⟨q0, q1, q2, q3⟩ := push4 w1.heap (.cells #[.int .i64 st1.rows.length, .int .i64 st1.col] 28) (.cells #[.int .i64 st1.rows.length, .int .i64 st1.col] 28) (.cells #[.slice (some ⟨w1.heap.size + 1, 0, none⟩) 1 1] 35) (.cells #[.string s] 9)
    have hb : Below w1.heap.size w1 W3 := by rw [← hW3]; exact ((((Below.refl _ w1).alloc (Nat.le_refl _) _).alloc (by simp) _).alloc (by simp; omega) _).alloc (by simp; omega) _
    have hw1 := (HB1.out.block _ (Array.getElem?_eq_some_iff.1 HWA.out.2).1).trans HWA.out.2
    have hlt := (Array.getElem?_eq_some_iff.1 hw1).1
    have hsz : W3.heap.size = w1.heap.size + 4 := by rw [← hW3]; simp
    have hB1 : Below w.heap.size w w1 := HWA.out.1.trans (HB1.out.mono HWA.out.1.size)
    refine ⟨fun lo hi hl => ?_, hsz, hlt⟩
    have hrow : W3.ownsRow w.heap.size 28 2 (.slice (some ⟨w1.heap.size + 1, 0, none⟩) 1 1) 1 (pcs [st1.pen]) := by
      have h := World.ownsRow_lit (base := w.heap.size) (e := 28) (size := 2) (w1.alloc (.cells #[.int .i64 st1.rows.length, .int .i64 st1.col] 28)) #[.int .i64 st1.rows.length, .int .i64 st1.col] 1 (by simp; omega) (by unfold maxLen; omega) rfl
      rw [World.size_alloc] at h
      rw [← hW3]
      exact (h.alloc _).alloc _
    exact ⟨hB1.trans (hb.mono (by omega)), (hb.block _ hlt).trans hw1, by rw [← hW3]; exact q3, by rw [← hW3]; exact q0, by rw [← hW3]; exact q2, hrow, fun g e => by have e : w1.heap.size + 1 = g := Option.some.inj e; omega⟩
  clear hW3 HB1 t5 HWA hwa
  have hsz := H3.out.2.1
  have hlw := H3.out.2.2
  have hB3 : Below w.heap.size w W3 := (H3.out.1 _ (W3.heap.size + 2) (Nat.le_refl _)).bel
  obtain ⟨pb, hpb⟩ : ∃ pb, w1.heap.size = pb := ⟨_, rfl⟩
  rw [hpb] at H3 hsz hlw ⊢
  clear hpb
  refine act_nameO fun A hA => ?_
  refine range_own rfl (by omega) (gf := 43) (lb := #[.pointer (some ⟨pb + 1 + 1 + 1, 0, none⟩)]) (by rw [hA]; rfl) trivial (enters_of Tryd.func43 (by kernel_rfl) rfl)
    (clu_seq 6 (by omega) (pb + 1 + 1 + 1) (W3.heap.size + 2) (Mp2 w.heap.size (pb + 1 + 1 + 1) (pb + 1 + 1) (W3.heap.size + 2) (W3.heap.size + 2 + 4)) s (by unfold maxLen; omega) (fun _ h => by rcases h with h | h; omega; have := h.1; omega) (fun _ h => by rcases h with h | h; omega; have := h.1; omega) (fun _ h => by rcases h with h | h; omega; exact h.2.1 rfl) (fun k _ h1 h2 h => by rcases h with h | h; omega; have := h.2.2.1; omega) (fun k _ _ h1 h => by rcases h with h | h; omega; obtain ⟨_, _, e⟩ := h.2.2.2; injection e with _ e; revert e; decide)
      W3 (by omega) (by omega) (by omega) (H3.out.1 _ 0 (Nat.le_refl _)).sbx (tabs_below hT hB3))
    KpT.trans (fun W l o o' _ _ hl ho => KpT.putObj W l o o' hl ho) (fun _ => rfl)
    (fun pre W => ∃ v, Pq w w.heap.size (pb + 1 + 1 + 1) (pb + 1 + 1) pb (W3.heap.size + 2) (W3.heap.size + 2 + 4) Wn s (plL Wn st1 s pre) (layL Wn st1 (cus s pre)).pen v W)
    (fun _ _ _ => False)
    (pq_ab (f := fun pre => plL Wn st1 s pre) (k := fun pre => (layL Wn st1 (cus s pre)).pen) (by omega) (by omega) (by omega) (by omega) (by omega))
    (fun _ _ _ _ _ hs _ _ => hs)
    ⟨_, H3.out.1 _ _ (by omega)⟩
    (fun x a' W' => ∃ Bx, pb + 1 + 1 + 1 ≤ Bx ∧ W'.heap[Bx]? = some (.cells (cvs x) 56 (0, 0)) ∧ a' = { tmps := (((#[20] : Array Tmp).zip (encC x)).foldl (fun t (p, v) => t.setIfInBounds p v) A.tmps).setIfInBounds 9 (.pointer (some ⟨Bx, 0, none⟩)), defers := [] })
    (fun x a' _ X Y row h hg hr => h.imp fun Bx hx => ⟨hx.1, bx_keptO hx.1 hx.2.1 hg hr (Nat.le_refl _) rfl, hx.2.2⟩)
    ?assign ?body ?done ?stop
  case stop =>
    rintro D c pre W _ _ h _
    exact h.elim
  case assign =>
    rintro l pre x W K ⟨v, hq⟩ hK
    have hWs := (Array.getElem?_eq_some_iff.1 hq.sbx).1
    have hb : Below W.heap.size W (W.alloc (.cells (cvs x) 56)) := (Below.refl _ W).alloc (Nat.le_refl _) _
    subst hA
    gi_wp2
    exact hK _ _ (kf_below hb) (KpT.of_below hb) ⟨v, hq.below hb⟩ ⟨W.heap.size, by omega, World.alloc_heap_new W _, by simp [encC]⟩
  case body =>
    rintro l pre x a' W _ _ _ hWs ⟨v, hq⟩ ⟨Bx, hBx, qx, rfl⟩ hnx
    obtain ⟨⟨d0, d1, d2, d3⟩, _⟩ := box4 qx
    obtain ⟨t5, _⟩ := box1o hq.wbx
    have hxm : x ∈ cl s := hnx.subset (by simp)
    have hpl := pre_bd (show pre <+: cl s from (List.prefix_append pre [x]).trans hnx)
    have h2 : ∀ u ∈ cus s pre, u.n ≤ 2 := cus_n (fun c hc => ((List.prefix_append pre [x]).trans hnx).subset hc)
    have hrows := layL_rows (W := Wn) (l := cus s pre) (s := st1)
    have e2 : (cus s pre).length = pre.length := by simp [cus]
    have hnew : layL Wn st1 (cus s (pre ++ [x])) = stpL Wn (layL Wn st1 (cus s pre)) (cuOf s x) := by simp only [cus, List.map_append, List.map_cons, List.map_nil]; exact layL_snoc _ _ _ _
    have hok := layL_ok hW1 h2 HOK.out
    have hrl : (layL Wn st1 (cus s pre)).rows.length ≤ 1099511627770 := by have := HR.out; omega
    have HPS : Hid (plL Wn st1 s (pre ++ [x]) = plL Wn st1 s pre ++ [(layL Wn st1 (cus s (pre ++ [x]))).pen]) := plL_snoc _ _ _ _ _
    have HN : Hid (layL Wn st1 (cus s (pre ++ [x])) = stpL Wn (layL Wn st1 (cus s pre)) (cuOf s x)) := hnew
    have hml : (plL Wn st1 s pre).length ≤ 268435458 := by rw [plL_len]; omega
    generalize layL Wn st1 (cus s pre) = st2 at hq hok hrl HN
    have hml0 : Hid (0 < (plL Wn st1 s pre).length) := by show 0 < _; rw [plL_len]; omega
    generalize plL Wn st1 s pre = ps at hq hml HPS hml0
    have CL : Hid (∀ X, X = W → _) := fun X (hX : X = W) => stp_pen hxm st2 hok hW2 hrl X
    generalize stpL Wn st2 (cuOf s x) = st3 at CL HN
    obtain ⟨⟨y0, y1⟩, _⟩ := (show Pb pb st2.rows.length st2.col W from hq.pbx).cells
    have HJ : Hid (Pq w w.heap.size (pb + 1 + 1 + 1) (pb + 1 + 1) pb (W3.heap.size + 2) (W3.heap.size + 2 + 4) Wn s ps st2.pen v W ∧ W3.heap.size + 2 + 4 ≤ W.heap.size) := ⟨hq, hWs⟩
    clear hq hrows e2 hpl h2 hnew hok hrl qx
    obtain ⟨i0, hi0, hz0, hz1, hz2⟩ := info_parts infoPL
    subst hA
    gi_wp2_with (first | (refine ⟨trivial, ?_⟩; gi_at_call 31; refine (CallsIn.inRound l (callsIn_wide.2 (CL.out _ rfl))).mono ?_; clear CL d0 d1 d2 d3 y0 y1 t5; rintro e Y ⟨⟨ar, ac, rfl⟩, hY⟩; have HP : Hid (Pq w w.heap.size (pb + 1 + 1 + 1) (pb + 1 + 1) pb (W3.heap.size + 2) (W3.heap.size + 2 + 4) Wn s ps st2.pen v Y ∧ Below W.heap.size W Y) := ⟨HJ.out.1.below hY, hY⟩; clear hY; obtain ⟨⟨y0, y1⟩, f0, f1⟩ := (show Pb pb st2.rows.length st2.col Y from HP.out.1.pbx).cells; have t8 := (box1o HP.out.1.lbx).1) | (gi_at_builtin; obtain ⟨Z1, hZ1⟩ : ∃ Z1, (Y.setCell ⟨pb, 0, none⟩ (.int .i64 st3.rows.length)).setCell ⟨pb, 1, none⟩ (.int .i64 st3.col) = Z1 := ⟨_, rfl⟩; have HZ : Hid (Pq w w.heap.size (pb + 1 + 1 + 1) (pb + 1 + 1) pb (W3.heap.size + 2) (W3.heap.size + 2 + 4) Wn s ps st3.pen v Z1 ∧ Z1.heap.size = Y.heap.size ∧ KeepsFrom W3.heap.size Y Z1 ∧ KpT (Mp2 w.heap.size (pb + 1 + 1 + 1) (pb + 1 + 1) (W3.heap.size + 2) (W3.heap.size + 2 + 4)) Y Z1) := (by rw [← hZ1]; have h1 := HP.out.1.mp (q := st3.pen) (B := W3.heap.size) (by omega) (by omega) (by omega); exact ⟨HP.out.1.pen (q := st3.pen) (by omega), by simp, h1.1, h1.2⟩); rw [hZ1]; clear hZ1 y0 y1 f0 f1 t8; refine wpListIn_append_own_at _ rfl _ _ 35 rfl w.heap.size 28 i0 _ 2 16 Tryd.underlying35 hi0 hz0 hz1 hz2 rfl (by decide) _ _ _ rfl (HZ.out.1.row.alloc _) ⟨Y.heap.size, 0, none⟩ 1 1 [.int .i64 st3.rows.length, .int .i64 st3.col] rfl rfl (World.news_of_block (by have := World.alloc_heap_new Z1 (.cells #[.int .i64 st3.rows.length, .int .i64 st3.col] 28); rwa [HZ.out.2.1] at this)) (by simp [Value.oneCell']) (by unfold maxLen; omega) (by omega) (by have := HZ.out.1.bel.size; simp; omega) ?_; intro v' w6 hown' hgrow _ hob; have HQ : Hid (Pq w w.heap.size (pb + 1 + 1 + 1) (pb + 1 + 1) pb (W3.heap.size + 2) (W3.heap.size + 2 + 4) Wn s (ps ++ [st3.pen]) st3.pen v' (w6.setCell ⟨pb + 1 + 1, 0, none⟩ v') ∧ KeepsFrom W3.heap.size Z1 (w6.setCell ⟨pb + 1 + 1, 0, none⟩ v') ∧ KpT (Mp2 w.heap.size (pb + 1 + 1 + 1) (pb + 1 + 1) (W3.heap.size + 2) (W3.heap.size + 2 + 4)) Z1 (w6.setCell ⟨pb + 1 + 1, 0, none⟩ v')) := (by have h1 := HZ.out.1.mv (B := W3.heap.size) (v' := v') hml0.out hgrow; exact ⟨HZ.out.1.app (by omega) (by have := HP.out.2.size; have := HJ.out.2; have := HZ.out.2.1; omega) hgrow hown' hob, h1.1, h1.2⟩); obtain ⟨g', cap', rfl⟩ := ownsRow_succ hown'; obtain ⟨tc, tf⟩ := box1o (HZ.out.1.lbk hgrow); clear hown' hgrow hob))
    refine ⟨kf_trans (kf_below HP.out.2) (kf_trans HZ.out.2.2.1 HQ.out.2.1), (KpT.of_below HP.out.2).trans (HZ.out.2.2.2.trans HQ.out.2.2), ?_⟩
    dsimp only
    rw [HPS.out, HN.out]
    exact ⟨_, HQ.out.1⟩
  case done =>
    rintro D ys W hD rfl ⟨v, hq⟩ hK
    have hc := (box1o hq.lbx).1
    have hrow := hq.row
    rw [plL_len] at hrow
    have HF : Hid ((W.putObj D (.deferred none)).ownsRow w.heap.size 28 2 v ((cl s).length + 1) (pcs (plL Wn st1 s (cl s))) ∧ Below w.heap.size w (W.putObj D (.deferred none))) := ⟨ownsRow_putObj hrow _ hK rfl, hq.bel.trans (belowK_b (w := w) (Nat.le_refl _) W D _ _ (by omega) hK rfl rfl)⟩
    obtain ⟨a, k, rfl⟩ := o_slice hrow
    clear hq hrow
    subst hA
    gi_wp2
    refine ⟨by simp, .inl ⟨_, _, rfl, run_takeDeferred hK, ?_⟩⟩
    exact ⟨_, results_tmp rfl _ _ _, .slice a ((cl s).length + 1) k, rfl, HF⟩
theorem pls_any (p s : ByteArray) (W0 : Int) (hp : p.size ≤ 268435456) (hs : s.size ≤ 268435456) (w : World) (hT : Lib.Utf8Tabs 0 1 w) (hlo0 : 0 < w.heap.size) (hlo1 : 1 < w.heap.size) (Wn : Nat) (hWn : (Wn : Int) = couW W0) :
    Calls Tryd.prog 13 #[.string p, .string s, .int .i64 W0] w fun e Y => ∃ v, e = .returned v ∧ Hid (Y.ownsRow w.heap.size 28 2 v ((cl s).length + 1) (pcs (plL Wn (layL Wn lst0 (cus p (cl p))) s (cl s))) ∧ Below w.heap.size w Y) := callsIn_wide.1 (pls_in p s W0 hp hs w hT hlo0 hlo1 Wn hWn)
end Go.Proofs.YtfjoklbiocniiaaDoor
