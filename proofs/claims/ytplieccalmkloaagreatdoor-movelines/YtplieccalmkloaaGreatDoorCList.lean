/-
  What package cluster's List answers: a new list of the clusters of the text (slices.Collect and slices.AppendSeq with it). Conditions: the two tables of unicode/utf8 lie as their text lays them; the text is so short that its list can be made.
-/
import Derived.Maps.OwnIn
import Derived.Deep.AppendLies
import Derived.Test.YtplieccalmkloaaGreatDoorPkI
import Derived.Test.YtplieccalmkloaaGreatDoorCRd
namespace Go.Proofs.YtplieccalmkloaaGreatDoor
open Go.RowKit Go.Shelf Bod Wid
attribute [local go_sem] Oper.semAt_some

/-- the box b holds a slice of its own that reads as l; its row lies at hi or beyond -/
structure Lst (n₀ b hi : Nat) (l : List Clu) (W : World) (v : Value) : Prop where
  box : W.heap[b]? = some (.cells #[v] 30 (0, 0))
  row : W.ownsRow n₀ 34 4 v l.length (ccl l)
  nil : v = .slice none 0 0 ↔ l = []
  far : ∀ g, v.ownBlock = some g → hi ≤ g
theorem Lst.block {n₀ b hi : Nat} {l : List Clu} {W : World} {v : Value} (h : Lst n₀ b hi l W v) {g : Nat} (hg : v.ownBlock = some g) : ∃ vs, W.heap[g]? = some (.cells vs 34 (0, 0)) := by
  rcases h.row.2 with ⟨h0, _⟩ | ⟨g', cap', cur, hv, _, hgb, _⟩
  · rw [h0] at hg; cases hg
  · rw [hv] at hg; cases hg; exact ⟨_, hgb⟩
theorem Lst.kept {n₀ b hi : Nat} {l : List Clu} {W W' : World} {v : Value} {row : Option Nat} (h : Lst n₀ b hi l W v) (hg : W.grownBy W' row) (h1 : row ≠ some b) (h2 : ∀ g, v.ownBlock = some g → row ≠ some g) : Lst n₀ b hi l W' v :=
  ⟨(hg.block b (Array.getElem?_eq_some_iff.1 h.box).1 (fun e => h1 e.symm)).trans h.box, h.row.kept hg (by cases hb : v.ownBlock with
    | none => exact .inl rfl
    | some g => exact .inr (fun e => h2 g hb e.symm)), h.nil, h.far⟩
theorem lst_ab {n₀ b B lo hi : Nat} (hb : b < B) : Ab B lo hi (fun l W => ∃ v, Lst n₀ b hi l W v) := fun l X Y row h hg hr => h.imp fun v hv =>
  hv.kept hg (fun e => by have := (hr b e).1; omega) (fun g hg' e => by
    obtain ⟨_, (h3 | ⟨o, ho, hc⟩)⟩ := hr g e
    · have := hv.far g hg'; omega
    · obtain ⟨vs, hvs⟩ := hv.block hg'
      rw [hvs] at ho; cases ho; cases hc)

/-- behind the append -/
theorem Lst.grown {n₀ b hi : Nat} {l : List Clu} {W w1 : World} {v : Value} {o : Obj} (h : Lst n₀ b hi l W v) (hb : b < hi) (hg : (W.alloc o).grownBy w1 v.ownBlock) : w1.heap[b]? = some (.cells #[v] 30 (0, 0)) := by
  have hs := (Array.getElem?_eq_some_iff.1 h.box).1
  refine (hg.block b (by simp; omega) (fun e => ?_)).trans ((Below.heap_alloc _ _ _ hs).trans h.box)
  have := h.far b e.symm
  omega
theorem Lst.appended {n₀ b hi B : Nat} {l : List Clu} {x : Clu} {w W w1 : World} {v v' : Value} {o : Obj} {M : Nat → Obj → Prop} (h : Lst n₀ b hi l W v) (hb : b < hi) (hB : Below n₀ w W) (hn : n₀ ≤ b) (hW : hi ≤ W.heap.size) (hg : (W.alloc o).grownBy w1 v.ownBlock)
    (hown : w1.ownsRow n₀ 34 4 v' (l.length + 1) (ccl l ++ [.int .i64 (x.fr : Int), .int .i64 (x.to : Int), .int .i64 x.k, .int .i64 x.n])) (hob : v'.ownBlock = v.ownBlock ∨ v'.ownBlock = some (W.alloc o).heap.size)
    (m1 : ∀ o, M b o) (m2 : ∀ k vs fz, hi ≤ k → M k (.cells vs 34 fz)) :
    KeepsFrom B W (w1.setCell ⟨b, 0, none⟩ v') ∧ KpT M W (w1.setCell ⟨b, 0, none⟩ v') ∧ (∃ v, Lst n₀ b hi (l ++ [x]) (w1.setCell ⟨b, 0, none⟩ v') v) ∧ Below n₀ w (w1.setCell ⟨b, 0, none⟩ v') := by
  have hs := (Array.getElem?_eq_some_iff.1 h.box).1
  have t0 := h.grown hb hg
  have ga : W.grownBy (W.alloc o) none := World.grownBy_alloc W o none
  have g2 := gcell w1 b 0 v'
  have hBa : Below W.heap.size W (W.alloc o) := (Below.refl _ W).alloc (Nat.le_refl _) _
  have hfar : ∀ g, v.ownBlock = some g → hi ≤ g ∧ ∃ vs, (W.alloc o).heap[g]? = some (.cells vs 34 (0, 0)) := fun g e => by
    obtain ⟨vs, hvs⟩ := h.block e
    exact ⟨h.far g e, vs, (Below.heap_alloc _ _ _ (Array.getElem?_eq_some_iff.1 hvs).1).trans hvs⟩
  have kf1 : KeepsFrom B (W.alloc o) w1 := ⟨hg.size, fun k o' _ hk hc => (hg.block k (Array.getElem?_eq_some_iff.1 hk).1 (fun e => by
    obtain ⟨_, vs, hvs⟩ := hfar k e.symm
    rw [hvs] at hk; cases hk; cases hc)).trans hk⟩
  have kp1 : KpT M (W.alloc o) w1 := KpT.of_grown hg (fun r o' e ho => by
    obtain ⟨h1, vs, hvs⟩ := hfar r e
    rw [hvs] at ho; cases ho
    exact m2 _ _ _ h1)
  have far' : ∀ g, v'.ownBlock = some g → hi ≤ g := fun g e => by
    rcases hob with h1 | h1
    · rw [h1] at e; exact h.far g e
    · rw [h1] at e; cases e; simp; omega
  refine ⟨kf_trans (kf_below hBa) (kf_trans kf1 (kf_cells g2 t0)), (KpT.of_below hBa).trans (kp1.trans (KpT.of_grown g2 (fun r o' e _ => by cases e; exact m1 o'))), ⟨v', by simpa using set1 (i := 0) v' t0, ?_, ?_, far'⟩, ?_⟩
  · rw [ccl_snoc, List.length_append]
    exact hown.kept g2 (by cases hb' : v'.ownBlock with
      | none => exact .inl rfl
      | some g => exact .inr (fun e => by cases e; have := far' b hb'; omega))
  · obtain ⟨g', cap', rfl⟩ := ownsRow_succ hown
    simp
  · have h1 := hB.alloc (show n₀ ≤ W.heap.size by omega) o
    have h2 : Below n₀ w w1 := h1.grown hg (by simp; omega) (fun k e => by have := (hfar k e).1; omega)
    exact h2.setCell (p := ⟨b, 0, none⟩) hn _

set_option maxRecDepth 100000 in
set_option maxHeartbeats 1000000 in
theorem appendSeq_in (n : Nat) (hn : 5 ≤ n) (s : ByteArray) (hs : s.size ≤ maxLen) (hb : s.size ≤ 4398046511104) (Bs : Nat) (w : World) (hBs : w.heap[Bs]? = some (.cells #[.string s] 9 (0, 0))) (hT : Lib.Utf8Tabs 0 1 w) (_hlo0 : 0 < w.heap.size) (hlo1 : 1 < w.heap.size) :
    CallsIn Fence.wide n Tryz.prog 50 #[.slice none 0 0, .func (.func 51) #[] #[.pointer (some ⟨Bs, 0, none⟩)]] w fun e W' => ∃ v, e = .returned v ∧ W'.ownsRow w.heap.size 34 4 v (cl s).length (ccl (cl s)) ∧ (v = .slice none 0 0 ↔ cl s = []) ∧ Below w.heap.size w W' := by
  have h1 : 1 ≤ n := by omega
  have hlt := (Array.getElem?_eq_some_iff.1 hBs).1
  obtain ⟨i0, hi, hz0, hz1, hz2⟩ := info_parts infoC
  refine callsIn_of_wp_marks Tryz.func50 rfl trivial ?_ rfl
  simp only [Tryz.ntmps50, List.size_toArray, List.length_cons, List.length_nil, Nat.reduceAdd, Nat.reduceSub, Array.replicate_succ, Array.replicate_zero, List.push_toArray, List.append_toArray, List.nil_append, List.cons_append]
  gi_wp2
  obtain ⟨W1, hW1⟩ : ∃ W1, w.alloc (.cells #[.slice none 0 0] 30) = W1 := ⟨_, rfl⟩
  rw [hW1]
  have p0 : W1.heap[w.heap.size]? = some (.cells #[.slice none 0 0] 30 (0, 0)) := by rw [← hW1]; exact World.alloc_heap_new w _
  have hB0 : Below w.heap.size w W1 := by rw [← hW1]; exact (Below.refl _ w).alloc (Nat.le_refl _) _
  have hsz : W1.heap.size = w.heap.size + 1 := by rw [← hW1]; simp
  clear hW1
  refine range_own rfl h1 (gf := 51) (lb := #[.pointer (some ⟨Bs, 0, none⟩)]) rfl trivial (enters_of Tryz.func51 (by kernel_rfl) rfl)
    (clu_seq (n - 1) (by omega) Bs (W1.heap.size + 2) (fun k o => k = w.heap.size ∨ (W1.heap.size + 2 + 4 ≤ k ∧ ∃ vs fz, o = .cells vs 34 fz)) s hs (fun _ h => by rcases h with h | ⟨h, _⟩ <;> omega) (fun _ h => by rcases h with h | ⟨h, _⟩ <;> omega) (fun _ h => by rcases h with h | ⟨h, _⟩ <;> omega) (fun k _ h1 h2 h => by rcases h with h | ⟨h, _⟩ <;> omega)
      (fun k _ _ h1 h => by rcases h with h | ⟨_, vs, fz, h⟩; omega; cases h)
      W1 (by omega) (by omega) (by omega) ((hB0.block Bs hlt).trans hBs) (tabs_below hT hB0))
    KpT.trans (fun W l o o' _ _ hl ho => KpT.putObj W l o o' hl ho) (fun _ => rfl)
    (fun pre W => (∃ v, Lst w.heap.size w.heap.size (W1.heap.size + 2 + 4) pre W v) ∧ Below w.heap.size w W)
    (fun _ _ _ => False)
    (Ab.and (lst_ab (by omega)) (ab_below (by omega) (Nat.le_refl _)))
    (fun _ _ _ _ _ hs _ _ => hs)
    ⟨⟨_, p0, World.ownsRow_nil _ _ _ _, by simp, fun g h => by cases h⟩, hB0⟩
    (fun x a' W' => ∃ Bx, w.heap.size < Bx ∧ W'.heap[Bx]? = some (.cells (cvs x) 34 (0, 0)) ∧
      a' = { tmps := #[.slice none 0 0, .func (.func 51) #[] #[.pointer (some ⟨Bs, 0, none⟩)], .pointer (some ⟨w.heap.size, 0, none⟩), undef, .slice none 0 0, .pointer (some ⟨Bx, 0, none⟩), .func (.func 51) #[] #[.pointer (some ⟨Bs, 0, none⟩)], cv x, undef, undef, undef, undef, undef], defers := [] })
    (fun x a' _ X Y row h hg hr => h.imp fun Bx hx => ⟨hx.1, (hg.block Bx (Array.getElem?_eq_some_iff.1 hx.2.1).1 (fun e => by
      obtain ⟨_, (h3 | ⟨o, ho, hc⟩)⟩ := hr Bx e.symm
      · omega
      · rw [hx.2.1] at ho; cases ho; cases hc)).trans hx.2.1, hx.2.2⟩)
    ?assign ?body ?done ?stop
  case assign =>
    rintro l pre x W K ⟨⟨v, hv⟩, hB⟩ hK
    have hsx := (Array.getElem?_eq_some_iff.1 hv.box).1
    gi_wp2
    exact hK _ _ (kf_below ((Below.refl _ W).alloc (Nat.le_refl _) _)) (KpT.of_below ((Below.refl _ W).alloc (Nat.le_refl _) _)) ⟨⟨v, hv.kept (World.grownBy_alloc W _ none) (by simp) (by simp)⟩, hB.alloc hB.size _⟩ ⟨W.heap.size, hsx, World.alloc_heap_new W _, rfl⟩
  case body =>
    rintro l pre x a' W _ _ _ hWs ⟨⟨v, hv⟩, hB⟩ ⟨Bx, hBx, qx, rfl⟩ hnx
    have hc : W.cell? ⟨w.heap.size, 0, none⟩ = some v := by simp [World.cell?, hv.box]
    obtain ⟨⟨d0, d1, d2, d3⟩, _⟩ := box4 qx
    have hlen := (pre_bd hnx).1
    simp only [List.length_append, List.length_cons, List.length_nil] at hlen
    have hml : pre.length + 1 ≤ maxLen := Nat.le_trans hlen hs
    have hbl : (pre.length + 1) * 32 ≤ 140737488355328 := by omega
    have HW : Hid (W1.heap.size + 2 + 4 ≤ W.heap.size) := hWs
    clear hWs
    gi_wp2_with (gi_at_builtin; refine wpListIn_append_own_at _ rfl _ _ 30 rfl w.heap.size 34 i0 _ 4 32 Tryz.underlying30 hi hz0 hz1 hz2 rfl (by decide) _ _ _ rfl (hv.row.alloc _) ⟨W.heap.size, 0, none⟩ 1 1 [.int .i64 (x.fr : Int), .int .i64 (x.to : Int), .int .i64 x.k, .int .i64 x.n] rfl rfl (World.news_of_block (World.alloc_heap_new W _)) (by simp [Value.oneCell']) hml hbl (by have := hB.size; simp; omega) ?_; intro v' w1 hown' hgrow _ hob; obtain ⟨g', cap', rfl⟩ := ownsRow_succ hown'; have t0 := hv.grown (by omega) hgrow; have tc : w1.cell? ⟨w.heap.size, 0, none⟩ = some v := (by simp [World.cell?, t0]); have tf : w1.frozen? ⟨w.heap.size, 0, none⟩ = false := (by simp [World.frozen?, t0]))
    exact hv.appended (by omega) hB (Nat.le_refl _) HW.out hgrow hown' hob (fun _ => .inl rfl) (fun k vs fz hk => .inr ⟨hk, vs, fz, rfl⟩)
  case done =>
    rintro D ys W hD rfl ⟨⟨v, hv⟩, hB⟩ hK
    have hc : W.cell? ⟨w.heap.size, 0, none⟩ = some v := by simp [World.cell?, hv.box]
    gi_wp2
    refine ⟨by simp, .inl ⟨_, _, rfl, run_takeDeferred hK, ?_⟩⟩
    exact ⟨_, results_tmp rfl _ _ _, v, rfl, ownsRow_putObj hv.row _ hK rfl, hv.nil, hB.trans (belowK_b (w := w) (Nat.le_refl _) W D _ _ (by omega) hK rfl rfl)⟩
  case stop =>
    rintro D c pre W _ _ h _
    exact h.elim

theorem collect_in (n : Nat) (hn : 6 ≤ n) (s : ByteArray) (hs : s.size ≤ maxLen) (hb : s.size ≤ 4398046511104) (Bs : Nat) (w : World) (hBs : w.heap[Bs]? = some (.cells #[.string s] 9 (0, 0))) (hT : Lib.Utf8Tabs 0 1 w) (hlo0 : 0 < w.heap.size) (hlo1 : 1 < w.heap.size) :
    CallsIn Fence.wide n Tryz.prog 25 #[.func (.func 51) #[] #[.pointer (some ⟨Bs, 0, none⟩)]] w fun e W' => ∃ v, e = .returned v ∧ W'.ownsRow w.heap.size 34 4 v (cl s).length (ccl (cl s)) ∧ (v = .slice none 0 0 ↔ cl s = []) ∧ Below w.heap.size w W' := by
  have h1 : 1 ≤ n := by omega
  have cA := appendSeq_in (n - 1) (by omega) s hs hb Bs w hBs hT hlo0 hlo1
  refine callsIn_of_wp Tryz.func25 rfl trivial ?_ rfl
  simp only [Tryz.ntmps25, List.size_toArray, List.length_cons, List.length_nil, Nat.reduceAdd, Nat.reduceSub, Array.replicate_succ, Array.replicate_zero, List.push_toArray, List.append_toArray, List.nil_append, List.cons_append]
  gi_wp2_with (refine ⟨trivial, ?_⟩; gi_at_call 50; refine cA.mono ?_; rintro e w1 ⟨v, rfl, hr, hv, hb1⟩)
  go_ret
  exact ⟨v, rfl, hr, hv, hb1⟩
/-- a list of clusters of the call's own -/
def Own4 (w : World) (l : List Clu) (v : Value) (W' : World) : Prop := W'.ownsRow w.heap.size 34 4 v l.length (ccl l) ∧ (v = .slice none 0 0 ↔ l = [])
theorem list_in (n : Nat) (hn : 7 ≤ n) (s : ByteArray) (hs : s.size ≤ maxLen) (hb : s.size ≤ 4398046511104) (w : World) (hT : Lib.Utf8Tabs 0 1 w) (_hlo0 : 0 < w.heap.size) (hlo1 : 1 < w.heap.size) :
    CallsIn Fence.wide n Tryz.prog 10 #[.string s] w fun e W' => ∃ v, e = .returned v ∧ Own4 w (cl s) v W' ∧ Below w.heap.size w W' := by
  have h1 : 1 ≤ n := by omega
  have cC := collect_in (n - 1) (by omega) s hs hb w.heap.size (w.alloc (.cells #[.string s] 9)) (World.alloc_heap_new w _) (tabs_below hT ((Below.refl _ w).alloc (Nat.le_refl _) _)) (by rw [World.size_alloc]; omega) (by rw [World.size_alloc]; omega)
  refine callsIn_of_wp Tryz.func10 rfl trivial ?_ rfl
  simp only [Tryz.ntmps10, List.size_toArray, List.length_cons, List.length_nil, Nat.reduceAdd, Nat.reduceSub, Array.replicate_succ, Array.replicate_zero, List.push_toArray, List.append_toArray, List.nil_append, List.cons_append]
  gi_wp2_with (first | (refine ⟨trivial, ?_⟩; gi_at_call 26; refine (walk_in (n - 1) _ _).mono ?_; rintro e w' ⟨rfl, rfl⟩) | (refine ⟨trivial, ?_⟩; gi_at_call 25; refine cC.mono ?_; rintro e w1 ⟨v, rfl, hr, hv, hb1⟩))
  go_ret
  refine ⟨v, rfl, ⟨row_lower hr (by simp), hv⟩, ((Below.refl _ w).alloc (Nat.le_refl _) _).trans (hb1.mono (by simp))⟩
theorem list_any (s : ByteArray) (hs : s.size ≤ maxLen) (hb : s.size ≤ 4398046511104) (w : World) (hT : Lib.Utf8Tabs 0 1 w) (hlo0 : 0 < w.heap.size) (hlo1 : 1 < w.heap.size) :
    Calls Tryz.prog 10 #[.string s] w fun e W' => ∃ v, e = .returned v ∧ Own4 w (cl s) v W' ∧ Below w.heap.size w W' := callsIn_wide.1 (list_in 7 (by omega) s hs hb w hT hlo0 hlo1)
end Go.Proofs.YtplieccalmkloaaGreatDoor
