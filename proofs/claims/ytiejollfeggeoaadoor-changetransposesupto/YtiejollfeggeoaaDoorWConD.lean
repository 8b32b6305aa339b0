/-
  What package word's Spans answers: a new list of the words of the text. Conditions: the two tables of unicode/utf8 lie as their text lays them; the text is so short that its list can be made.
-/
import Derived.Maps.OwnIn
import Derived.Deep.AppendLies
import Derived.Test.YtiejollfeggeoaaDoorPkI
import Derived.Test.YtiejollfeggeoaaDoorWMathD
import Derived.Test.YtiejollfeggeoaaDoorWConC
import Derived.Test.YtiejollfeggeoaaDoorPkU
import Derived.Test.YtiejollfeggeoaaDoorWRd
namespace Go.Proofs.YtiejollfeggeoaaDoor
open Go.RowKit Go.Shelf Bod Wid
attribute [local go_sem] Oper.semAt_some

theorem push3 (a : Array Obj) (o0 o1 o2 : Obj) : (((a.push o0).push o1).push o2)[a.size]? = some o0 ∧ (((a.push o0).push o1).push o2)[a.size + 1]? = some o1 ∧ (((a.push o0).push o1).push o2)[a.size + 1 + 1]? = some o2 := by
  refine ⟨?_, ?_, ?_⟩
  · rw [Array.getElem?_push, if_neg (by simp only [Array.size_push]; omega), Array.getElem?_push, if_neg (by simp only [Array.size_push]; omega), Array.getElem?_push_size]
  · rw [Array.getElem?_push, if_neg (by simp only [Array.size_push]; omega), ← Array.size_push o0, Array.getElem?_push_size]
  · rw [← Array.size_push o0, ← Array.size_push o1, Array.getElem?_push_size]
/-- the box b holds a slice of its own that reads as l; its row lies at hi or beyond -/
structure LsS (n₀ b hi : Nat) (l : List (Nat × Nat)) (W : World) (v : Value) : Prop where
  box : W.heap[b]? = some (.cells #[v] 45 (0, 0))
  row : W.ownsRow n₀ 70 2 v l.length (spc l)
  nil : v = .slice none 0 0 ↔ l = []
  far : ∀ g, v.ownBlock = some g → hi ≤ g
theorem LsS.block {n₀ b hi : Nat} {l : List (Nat × Nat)} {W : World} {v : Value} (h : LsS n₀ b hi l W v) {g : Nat} (hg : v.ownBlock = some g) : ∃ vs, W.heap[g]? = some (.cells vs 70 (0, 0)) := by
  rcases h.row.2 with ⟨h0, _⟩ | ⟨g', cap', cur, hv, _, hgb, _⟩
  · rw [h0] at hg; cases hg
  · rw [hv] at hg; cases hg; exact ⟨_, hgb⟩
theorem LsS.kept {n₀ b hi : Nat} {l : List (Nat × Nat)} {W W' : World} {v : Value} {row : Option Nat} (h : LsS n₀ b hi l W v) (hg : W.grownBy W' row) (h1 : row ≠ some b) (h2 : ∀ g, v.ownBlock = some g → row ≠ some g) : LsS n₀ b hi l W' v :=
  ⟨(hg.block b (Array.getElem?_eq_some_iff.1 h.box).1 (fun e => h1 e.symm)).trans h.box, h.row.kept hg (by cases hb : v.ownBlock with
    | none => exact .inl rfl
    | some g => exact .inr (fun e => h2 g hb e.symm)), h.nil, h.far⟩
theorem lss_ab {n₀ b B lo hi : Nat} (hb : b < B) : Ab B lo hi (fun l W => ∃ v, LsS n₀ b hi l W v) := fun l X Y row h hg hr => h.imp fun v hv =>
  hv.kept hg (fun e => by have := (hr b e).1; omega) (fun g hg' e => by
    obtain ⟨_, (h3 | ⟨o, ho, hc⟩)⟩ := hr g e
    · have := hv.far g hg'; omega
    · obtain ⟨vs, hvs⟩ := hv.block hg'
      rw [hvs] at ho; cases ho; cases hc)

/-- behind the append -/
theorem LsS.grown {n₀ b hi : Nat} {l : List (Nat × Nat)} {W w1 : World} {v : Value} {o : Obj} (h : LsS n₀ b hi l W v) (hb : b < hi) (hg : (W.alloc o).grownBy w1 v.ownBlock) : w1.heap[b]? = some (.cells #[v] 45 (0, 0)) := by
  have hs := (Array.getElem?_eq_some_iff.1 h.box).1
  refine (hg.block b (by simp; omega) (fun e => ?_)).trans ((Below.heap_alloc _ _ _ hs).trans h.box)
  have := h.far b e.symm
  omega
theorem LsS.appended {n₀ b hi B : Nat} {l : List (Nat × Nat)} {x : Nat × Nat} {w W w1 : World} {v v' : Value} {o : Obj} {M : Nat → Obj → Prop} (h : LsS n₀ b hi l W v) (hb : b < hi) (hB : Below n₀ w W) (hn : n₀ ≤ b) (hW : hi ≤ W.heap.size) (hg : (W.alloc o).grownBy w1 v.ownBlock)
    (hown : w1.ownsRow n₀ 70 2 v' (l.length + 1) (spc l ++ [.int .i64 (x.1 : Int), .int .i64 (x.2 : Int)])) (hob : v'.ownBlock = v.ownBlock ∨ v'.ownBlock = some (W.alloc o).heap.size)
    (m1 : ∀ o, M b o) (m2 : ∀ k vs fz, hi ≤ k → M k (.cells vs 70 fz)) :
    KeepsFrom B W (w1.setCell ⟨b, 0, none⟩ v') ∧ KpT M W (w1.setCell ⟨b, 0, none⟩ v') ∧ (∃ v, LsS n₀ b hi (l ++ [x]) (w1.setCell ⟨b, 0, none⟩ v') v) ∧ Below n₀ w (w1.setCell ⟨b, 0, none⟩ v') := by
  have hs := (Array.getElem?_eq_some_iff.1 h.box).1
  have t0 := h.grown hb hg
  have ga : W.grownBy (W.alloc o) none := World.grownBy_alloc W o none
  have g2 := gcell w1 b 0 v'
  have hBa : Below W.heap.size W (W.alloc o) := (Below.refl _ W).alloc (Nat.le_refl _) _
  have hfar : ∀ g, v.ownBlock = some g → hi ≤ g ∧ ∃ vs, (W.alloc o).heap[g]? = some (.cells vs 70 (0, 0)) := fun g e => by
    obtain ⟨vs, hvs⟩ := h.block e
    exact ⟨h.far g e, vs, (Below.heap_alloc _ _ _ (Array.getElem?_eq_some_iff.1 hvs).1).trans hvs⟩
  have kf1 : KeepsFrom B (W.alloc o) w1 := ⟨hg.size, fun k o' _ hk hc => (hg.block k (Array.getElem?_eq_some_iff.1 hk).1 (fun e => by
    obtain ⟨_, vs, hvs⟩ := hfar k e.symm
    rw [hvs] at hk; cases hk; cases hc)).trans hk⟩
  have kp1 : KpT M (W.alloc o) w1 := KpT.of_grown hg (fun r o' e ho => by
    obtain ⟨h1, vs, hvs⟩ := hfar r e
    rw [hvs] at ho; cases ho
    exact m2 _ _ _ h1)
  have far' : ∀ g, v'.ownBlock = some g → hi ≤ g := fun g e => by
    rcases hob with h1 | h1
    · rw [h1] at e; exact h.far g e
    · rw [h1] at e; cases e; simp; omega
  refine ⟨kf_trans (kf_below hBa) (kf_trans kf1 (kf_cells g2 t0)), (KpT.of_below hBa).trans (kp1.trans (KpT.of_grown g2 (fun r o' e _ => by cases e; exact m1 o'))), ⟨v', by simpa using set1 (i := 0) v' t0, ?_, ?_, far'⟩, ?_⟩
  · rw [spc_snoc, List.length_append]
    exact hown.kept g2 (by cases hb' : v'.ownBlock with
      | none => exact .inl rfl
      | some g => exact .inr (fun e => by cases e; have := far' b hb'; omega))
  · obtain ⟨g', cap', rfl⟩ := ownsRow_succ hown
    simp
  · have h1 := hB.alloc (show n₀ ≤ W.heap.size by omega) o
    have h2 : Below n₀ w w1 := h1.grown hg (by simp; omega) (fun k e => by have := (hfar k e).1; omega)
    exact h2.setCell (p := ⟨b, 0, none⟩) hn _

theorem wst_len (p : Clu → Bool) : ∀ (l : List Clu) (a : List (Nat × Nat)), (l.foldl (wst p) a).length ≤ a.length + l.length
  | [], a => by simp
  | c :: r, a => by
    have h1 := wst_len p r (wst p a c)
    have h2 : (wst p a c).length ≤ a.length + 1 := by
      unfold wst
      split
      · split
        · rename_i y hy
          have hne : a ≠ [] := fun e => by rw [e] at hy; cases hy
          have hpos := List.length_pos_iff.2 hne
          split
          · rw [List.length_append, List.length_dropLast]; simp only [List.length_cons, List.length_nil]; omega
          · simp
        · simp
      · omega
    rw [List.foldl_cons, List.length_cons]
    omega
theorem wac_len (p : Clu → Bool) (l : List Clu) : (wac p l).length ≤ l.length := by
  have := wst_len p l []
  simpa [wac] using this
/-- a cell of a row is written -/
theorem row_set {W : World} {base n size : Nat} {e : TypeId} {v : Value} {xs : List Value} {g j : Nat} (h : W.ownsRow base e size v n xs) (hg : v.ownBlock = some g) (u : Value) : (W.setCell ⟨g, j, none⟩ u).ownsRow base e size v n (xs.set j u) := by
  refine ⟨by rw [List.length_set]; exact h.1, ?_⟩
  rcases h.2 with ⟨h0, _⟩ | ⟨g', cap, cur, hv, hb, hgb, hnc, hcm, hcs, ht⟩
  · rw [h0] at hg; cases hg
  · have e1 : g' = g := by rw [hv] at hg; exact Option.some.inj hg
    subst e1
    refine .inr ⟨g', cap, cur.setIfInBounds j u, hv, hb, set1 (i := j) u hgb, hnc, hcm, by rw [Array.size_setIfInBounds]; exact hcs, ?_⟩
    rw [Array.toList_setIfInBounds, List.take_set, ht]
/-- the last word goes on -/
theorem LsS.on {n₀ b hi B : Nat} {a : List (Nat × Nat)} {x t m : Nat} {w W : World} {v : Value} {g : Nat} {M : Nat → Obj → Prop} (h : LsS n₀ b hi (a ++ [(x, t)]) W v) (hb : b < hi) (hB : Below n₀ w W) (hn : n₀ ≤ b) (hg : v.ownBlock = some g)
    (m2 : ∀ k vs fz, hi ≤ k → M k (.cells vs 70 fz)) :
    KeepsFrom B W (W.setCell ⟨g, a.length * 2 + 1, none⟩ (.int .i64 (m : Int))) ∧ KpT M W (W.setCell ⟨g, a.length * 2 + 1, none⟩ (.int .i64 (m : Int))) ∧ (∃ v, LsS n₀ b hi (a ++ [(x, m)]) (W.setCell ⟨g, a.length * 2 + 1, none⟩ (.int .i64 (m : Int))) v) ∧ Below n₀ w (W.setCell ⟨g, a.length * 2 + 1, none⟩ (.int .i64 (m : Int))) := by
  have hfar := h.far g hg
  obtain ⟨vs, hvs⟩ := h.block hg
  have g2 := gcell W g (a.length * 2 + 1) (.int .i64 (m : Int))
  have hl := spc_len a
  refine ⟨kf_cells g2 hvs, KpT.of_grown g2 (fun r o e ho => by cases e; rw [hvs] at ho; cases ho; exact m2 _ _ _ hfar), ⟨v, ?_, ?_, ?_, h.far⟩, hB.setCell (p := ⟨g, a.length * 2 + 1, none⟩) (by show n₀ ≤ g; omega) _⟩
  · exact (g2.block b (Array.getElem?_eq_some_iff.1 h.box).1 (fun e => by cases e; omega)).trans h.box
  · have := row_set h.row hg (j := a.length * 2 + 1) (.int .i64 (m : Int))
    rw [spc_snoc] at this
    have e : (spc a ++ [Value.int .i64 ((x, t).1 : Int), Value.int .i64 ((x, t).2 : Int)]).set (a.length * 2 + 1) (.int .i64 (m : Int)) = spc (a ++ [(x, m)]) := by
      rw [spc_snoc, List.set_append_right _ _ (by rw [hl]; omega), hl, show a.length * 2 + 1 - a.length * 2 = 1 by omega]
      rfl
    rw [e] at this
    simpa using this
  · rw [h.nil]; simp

set_option maxRecDepth 100000 in
set_option maxHeartbeats 2000000 in
theorem spans_in (n : Nat) (hn : 5 ≤ n) (s : ByteArray) (hs : s.size ≤ maxLen) (hm : s.size ≤ 4398046511104) (w : World) (hT : Lib.Utf8Tabs 1 2 w) (_hlo0 : 1 < w.heap.size) (hlo1 : 2 < w.heap.size) :
    CallsIn Fence.wide n Tryd.prog 15 #[.string s] w fun e W' => ∃ v, e = .returned v ∧ W'.ownsRow w.heap.size 70 2 v (words s).length (spc (words s)) ∧ Below w.heap.size w W' := by
  have h1 : 1 ≤ n := by omega
  have h2 : 1 ≤ n - 1 - 1 := by omega
  obtain ⟨i0, hi, hz0, hz1, hz2⟩ := info_parts info_span
  refine callsIn_of_wp_marks Tryd.func15 rfl trivial ?_ rfl
  simp only [Tryd.ntmps15, List.size_toArray, List.length_cons, List.length_nil, Nat.reduceAdd, Nat.reduceSub, Array.replicate_succ, Array.replicate_zero, List.push_toArray, List.append_toArray, List.nil_append, List.cons_append]
  gi_wp2_with (refine ⟨trivial, ?_⟩; gi_at_call 26; refine (walk_in (n - 1) _ _).mono ?_; rintro e w' ⟨rfl, rfl⟩)
  obtain ⟨W3, hW3⟩ : ∃ W3, (((w.alloc (.cells #[.string s] 9)).alloc (.cells #[.slice none 0 0] 45)).alloc (.cells #[.string s] 9)) = W3 := ⟨_, rfl⟩
  rw [hW3]
  obtain ⟨p0, p1, p2⟩ : W3.heap[w.heap.size]? = some (.cells #[.string s] 9 (0, 0)) ∧ W3.heap[w.heap.size + 1]? = some (.cells #[.slice none 0 0] 45 (0, 0)) ∧ W3.heap[w.heap.size + 1 + 1]? = some (.cells #[.string s] 9 (0, 0)) := by rw [← hW3]; exact push3 w.heap _ _ _
  have hB0 : Below w.heap.size w W3 := by rw [← hW3]; exact (((Below.refl _ w).alloc (Nat.le_refl _) _).alloc (by simp) _).alloc (by simp; omega) _
  have hsz : W3.heap.size = w.heap.size + 3 := by rw [← hW3]; simp
  clear hW3
  refine range_own rfl h1 (gf := 36) (lb := #[.pointer (some ⟨w.heap.size + 1 + 1, 0, none⟩)]) rfl trivial (enters_of Tryd.func36 (by kernel_rfl) rfl)
    (clu_seq (n - 1) (by omega) (w.heap.size + 1 + 1) (W3.heap.size + 2) (fun k o => k = w.heap.size + 1 ∨ (W3.heap.size + 2 + 4 ≤ k ∧ ∃ vs fz, o = .cells vs 70 fz)) s hs (fun _ h => by rcases h with h | ⟨h, _⟩ <;> omega) (fun _ h => by rcases h with h | ⟨h, _⟩ <;> omega) (fun _ h => by rcases h with h | ⟨h, _⟩ <;> omega) (fun k _ h1 h2 h => by rcases h with h | ⟨h, _⟩ <;> omega)
      (fun k _ _ h1 h => by rcases h with h | ⟨_, vs, fz, h⟩; omega; cases h)
      W3 (by omega) (by omega) (by omega) p2 (tabs_below hT hB0))
    KpT.trans (fun W l o o' _ _ hl ho => KpT.putObj W l o o' hl ho) (fun _ => rfl)
    (fun pre W => (∃ v, LsS w.heap.size (w.heap.size + 1) (W3.heap.size + 2 + 4) (wac (wcl s) pre) W v) ∧ W.heap[w.heap.size]? = some (.cells #[.string s] 9 (0, 0)) ∧ Below w.heap.size w W)
    (fun _ _ _ => False)
    (Ab.and ((lss_ab (by omega)).map (fun pre => wac (wcl s) pre)) (Ab.and (ab_block (o := fun _ => _) (by omega)) (ab_below (by omega) (Nat.le_refl _))))
    (fun _ _ _ _ _ hs _ _ => hs)
    ⟨⟨_, p1, World.ownsRow_nil _ _ _ _, by simp [wac], fun g h => by cases h⟩, p0, hB0⟩
    (fun x a' W' => ∃ Bx, w.heap.size + 1 < Bx ∧ W'.heap[Bx]? = some (.cells (cvs x) 68 (0, 0)) ∧
      a' = { tmps := #[.string s, .pointer (some ⟨w.heap.size, 0, none⟩), .slice none 0 0, .pointer (some ⟨w.heap.size + 1, 0, none⟩), .pointer (some ⟨Bx, 0, none⟩), undef, .string s, .func (.func 36) #[] #[.pointer (some ⟨w.heap.size + 1 + 1, 0, none⟩)], cv x, undef, undef, undef, undef, undef, undef, undef, undef, undef, undef, undef, undef, undef, undef, undef, undef, undef, undef, undef, undef, undef, undef, undef, undef, undef, undef, undef, undef, undef, undef, undef, undef, undef, undef, undef], defers := [] })
    (fun x a' _ X Y row h hg hr => h.imp fun Bx hx => ⟨hx.1, (hg.block Bx (Array.getElem?_eq_some_iff.1 hx.2.1).1 (fun e => by
      obtain ⟨_, (h3 | ⟨o, ho, hc⟩)⟩ := hr Bx e.symm
      · omega
      · rw [hx.2.1] at ho; cases ho; cases hc)).trans hx.2.1, hx.2.2⟩)
    ?assign ?body ?done ?stop
  case assign =>
    rintro l pre x W K ⟨⟨v, hv⟩, hq, hB⟩ hK
    have hsx := (Array.getElem?_eq_some_iff.1 hv.box).1
    gi_wp2
    exact hK _ _ (kf_below ((Below.refl _ W).alloc (Nat.le_refl _) _)) (KpT.of_below ((Below.refl _ W).alloc (Nat.le_refl _) _)) ⟨⟨v, hv.kept (World.grownBy_alloc W _ none) (by simp) (by simp)⟩, (Below.heap_alloc _ _ _ (Array.getElem?_eq_some_iff.1 hq).1).trans hq, hB.alloc hB.size _⟩ ⟨W.heap.size, hsx, World.alloc_heap_new W _, rfl⟩
  case body =>
    rintro l pre x a' W _ _ _ hWs ⟨⟨v, hv⟩, hq, hB⟩ ⟨Bx, hBx, qx, rfl⟩ hnx
    have hxm : x ∈ cl s := hnx.subset (by simp)
    have hsp := cl_span hxm
    have hc : W.cell? ⟨w.heap.size, 0, none⟩ = some (.string s) := by simp [World.cell?, hq]
    obtain ⟨⟨d0, d1, d2, d3⟩, _⟩ := box4 qx
    have cE := wbegins_any s x.fr hs (cl_fr s x hxm) W (tabs_below hT hB)
    have hwat : wat s x.fr = wcl s x := by unfold wat wcl; rw [decide_eq_true (by omega), Bool.true_and]
    rw [hwat] at cE
    have hpl := (pre_bd hnx).1
    simp only [List.length_append, List.length_cons, List.length_nil] at hpl
    have hyl := wac_len (wcl s) pre
    have HG : Hid (Below w.heap.size w W) := hB
    have HV : Hid (LsS w.heap.size (w.heap.size + 1) (W3.heap.size + 2 + 4) (wac (wcl s) pre) W v) := hv
    have HQ : Hid (W.heap[w.heap.size]? = some (.cells #[.string s] 9 (0, 0))) := hq
    have HW : Hid (W3.heap.size + 2 + 4 ≤ W.heap.size) := hWs
    have HX : Hid (W.heap[Bx]? = some (.cells (cvs x) 68 (0, 0))) := qx
    have hbox : W.cell? ⟨w.heap.size + 1, 0, none⟩ = some v := by simp [World.cell?, hv.box]
    -- behind a call that only makes memory all lies as it lay
    have HL : Hid (∀ w1 : World, Below W.heap.size W w1 → w1.cell? ⟨w.heap.size + 1, 0, none⟩ = some v ∧ w1.cell? ⟨Bx, 0, none⟩ = some (.int .i64 x.fr) ∧ w1.cell? ⟨Bx, 1, none⟩ = some (.int .i64 x.to) ∧ LsS w.heap.size (w.heap.size + 1) (W3.heap.size + 2 + 4) (wac (wcl s) pre) w1 v ∧ w1.heap[w.heap.size]? = some (.cells #[.string s] 9 (0, 0)) ∧ Below w.heap.size w w1 ∧ W3.heap.size + 2 + 4 ≤ w1.heap.size) := fun w1 hb => by
      have k1 := hv.kept (grown_of_below hb) (by simp) (by simp)
      have k2 : w1.heap[Bx]? = some (.cells (cvs x) 68 (0, 0)) := (hb.block _ (Array.getElem?_eq_some_iff.1 qx).1).trans qx
      obtain ⟨⟨q0, q1, _, _⟩, _⟩ := box4 k2
      exact ⟨by simp [World.cell?, k1.box], q0, q1, k1, (hb.block _ (Array.getElem?_eq_some_iff.1 hq).1).trans hq, hB.trans (hb.mono hB.size), Nat.le_trans hWs hb.size⟩
    clear hB hv hq hWs qx hxm
    cases hw : wcl s x with
    | false =>
      rw [hw] at cE
      have HN : Hid (wac (wcl s) (pre ++ [x]) = wac (wcl s) pre) := by show _ = _; rw [wac_snoc, wst_no hw]
      clear hw
      gi_wp2_with (refine ⟨trivial, ?_⟩; gi_at_call 27; refine (CallsIn.inRound l (callsIn_wide.2 cE)).mono ?_; clear cE; rintro e w1 ⟨rfl, hb1⟩)
      obtain ⟨_, _, _, k1, k2, k3, _⟩ := HL.out w1 hb1
      exact ⟨kf_below hb1, KpT.of_below hb1, ⟨v, by rw [HN.out]; exact k1⟩, k2, k3⟩
    | true =>
      rw [hw] at cE
      rcases List.eq_nil_or_concat (wac (wcl s) pre) with ey | ⟨ya, yl, ey⟩
      · -- the first word
        have HN : Hid (wac (wcl s) (pre ++ [x]) = wac (wcl s) pre ++ [(x.fr, x.to)]) := by show _ = _; rw [wac_snoc, wst_new hw (fun y hy => by rw [ey] at hy; cases hy)]
        have hv0 : v = .slice none 0 0 := HV.out.nil.2 ey
        subst hv0
        have hml : (wac (wcl s) pre).length + 1 ≤ maxLen := by omega
        have hbl : ((wac (wcl s) pre).length + 1) * 16 ≤ 140737488355328 := by omega
        clear hw ey
        gi_wp2_with (refine ⟨trivial, ?_⟩; gi_at_call 27; refine (CallsIn.inRound l (callsIn_wide.2 cE)).mono ?_; clear cE; rintro e w1 ⟨rfl, hb1⟩; obtain ⟨z0, z1, z2, _⟩ := HL.out w1 hb1; have HK : Hid (Below W.heap.size W w1) := hb1; clear hb1)
        refine region_quiet (by kernel_rfl) (by kernel_rfl) (by kernel_rfl) ?_
        repeat (gi_big_quiet_step (fail))
        refine wpQuietIn_nil ?_
        intro _ hw'
        obtain ⟨nq, hw''⟩ := hw'
        subst hw''
        have y0 : (w1.drewN nq).cell? ⟨w.heap.size + 1, 0, none⟩ = some (.slice none 0 0) := z0
        have y1 : (w1.drewN nq).cell? ⟨Bx, 0, none⟩ = some (.int .i64 x.fr) := z1
        have y2 : (w1.drewN nq).cell? ⟨Bx, 1, none⟩ = some (.int .i64 x.to) := z2
        obtain ⟨_, _, _, k1, k2, k3, k4⟩ := HL.out w1 HK.out
        have l1 : LsS w.heap.size (w.heap.size + 1) (W3.heap.size + 2 + 4) (wac (wcl s) pre) (w1.drewN nq) (.slice none 0 0) := ⟨k1.box, k1.row, k1.nil, k1.far⟩
        have HD : Hid (Below W.heap.size W (w1.drewN nq)) := ⟨HK.out.os, HK.out.tape, HK.out.output, HK.out.size, HK.out.block⟩
        have H2 : Hid ((w1.drewN nq).heap[w.heap.size]? = some (.cells #[.string s] 9 (0, 0))) := k2
        have H3 : Hid (Below w.heap.size w (w1.drewN nq)) := ⟨k3.os, k3.tape, k3.output, k3.size, k3.block⟩
        have H4 : Hid (W3.heap.size + 2 + 4 ≤ (w1.drewN nq).heap.size) := k4
        clear k1 k2 k3 k4 z0 z1 z2
        generalize w1.drewN nq = Wd at y0 y1 y2 l1 HD H2 H3 H4 ⊢
        gi_wp2_with (gi_at_builtin; refine wpListIn_append_own_at _ rfl _ _ 45 rfl w.heap.size 70 i0 _ 2 16 Tryd.underlying45 hi hz0 hz1 hz2 rfl (by decide) _ _ _ rfl (l1.row.alloc _) ⟨Wd.heap.size, 0, none⟩ 1 1 [.int .i64 (x.fr : Int), .int .i64 (x.to : Int)] rfl rfl (World.news_of_block (World.alloc_heap_new Wd _)) (by simp [Value.oneCell']) hml hbl (by have := H3.out.size; simp; omega) ?_; intro v' w2 hown' hgrow _ hob; obtain ⟨g', cap', rfl⟩ := ownsRow_succ hown'; have t0 := l1.grown (by omega) hgrow; have tc : w2.cell? ⟨w.heap.size + 1, 0, none⟩ = some (.slice none 0 0) := (by simp [World.cell?, t0]); have tf : w2.frozen? ⟨w.heap.size + 1, 0, none⟩ = false := (by simp [World.frozen?, t0]))
        obtain ⟨r1, r2, r3, r4⟩ := l1.appended (B := W3.heap.size) (x := (x.fr, x.to)) (M := fun k o => k = w.heap.size + 1 ∨ (W3.heap.size + 2 + 4 ≤ k ∧ ∃ vs fz, o = .cells vs 70 fz)) (by omega) H3.out (by omega) H4.out hgrow hown' hob (fun _ => .inl rfl) (fun k vs fz hk => .inr ⟨hk, vs, fz, rfl⟩)
        refine ⟨kf_trans (kf_below HD.out) r1, (KpT.of_below HD.out).trans r2, by rw [HN.out]; exact r3, ?_, r4⟩
        exact r2.2 _ _ H2.out rfl (fun h => by rcases h with h | ⟨h, _⟩ <;> omega)
      · rw [List.concat_eq_append] at ey
        obtain ⟨yx, yt⟩ := yl
        obtain ⟨g, cap, hvs, hcy⟩ : ∃ g cap, v = .slice (some ⟨g, 0, none⟩) (ya.length + 1) cap ∧ W.cell? ⟨g, ya.length * 2 + 1, none⟩ = some (.int .i64 yt) := by
          have hr := HV.out.row
          rw [ey, List.length_append] at hr
          obtain ⟨g, cap, e⟩ := ownsRow_succ hr
          refine ⟨g, cap, e, ?_⟩
          have hl := spc_len (ya ++ [(yx, yt)])
          subst e
          exact (hr.cellAt (ya.length * 2 + 1) (by omega)).trans (spc_get _ ya.length (yx, yt) (by simp)).2
        subst hvs
        have hgl : g < W.heap.size := (Array.getElem?_eq_some_iff.1 (HV.out.block (g := g) rfl).choose_spec).1
        have hya : ya.length ≤ s.size := by have := congrArg List.length ey; simp only [List.length_append, List.length_cons, List.length_nil] at this; omega
        have HW6 : Hid (wrap64 (ya.length : Int) = (ya.length : Int)) := by show wrap64 _ = _; unfold maxLen at hs; unfold wrap64; omega
        clear hya
        have HLC : Hid (∀ w1 : World, Below W.heap.size W w1 → w1.cell? ⟨g, ya.length * 2 + 1, none⟩ = some (.int .i64 yt)) := fun w1 hb => (hb.cell (p := ⟨g, ya.length * 2 + 1, none⟩) hgl).trans hcy
        by_cases hjn : yt = x.fr
        · -- the last word goes on
          subst hjn
          have HN : Hid (wac (wcl s) (pre ++ [x]) = ya ++ [(yx, x.to)]) := by show _ = _; rw [wac_snoc, ey, wst_on hw]
          have HE : Hid (wac (wcl s) pre = ya ++ [(yx, x.fr)]) := ey
          clear hw ey
          gi_wp2_with (refine ⟨trivial, ?_⟩; gi_at_call 27; refine (CallsIn.inRound l (callsIn_wide.2 cE)).mono ?_; clear cE; rintro e w1 ⟨rfl, hb1⟩; obtain ⟨z0, z1, z2, _⟩ := HL.out w1 hb1; have zg := HLC.out w1 hb1; have HK : Hid (Below W.heap.size W w1) := hb1; clear hb1)
          rw [HW6.out]
          refine region_quiet (by kernel_rfl) (by kernel_rfl) (by kernel_rfl) ?_
          repeat (gi_big_quiet_step (fail))
          refine wpQuietIn_nil ?_
          intro _ hw'
          obtain ⟨nq, hw''⟩ := hw'
          subst hw''
          have y0 : (w1.drewN nq).cell? ⟨w.heap.size + 1, 0, none⟩ = some (.slice (some ⟨g, 0, none⟩) (ya.length + 1) cap) := z0
          have y1 : (w1.drewN nq).cell? ⟨Bx, 0, none⟩ = some (.int .i64 x.fr) := z1
          have y2 : (w1.drewN nq).cell? ⟨Bx, 1, none⟩ = some (.int .i64 x.to) := z2
          obtain ⟨_, _, _, k1, k2, k3, k4⟩ := HL.out w1 HK.out
          have l1 : LsS w.heap.size (w.heap.size + 1) (W3.heap.size + 2 + 4) (wac (wcl s) pre) (w1.drewN nq) (.slice (some ⟨g, 0, none⟩) (ya.length + 1) cap) := ⟨k1.box, k1.row, k1.nil, k1.far⟩
          have HD : Hid (Below W.heap.size W (w1.drewN nq)) := ⟨HK.out.os, HK.out.tape, HK.out.output, HK.out.size, HK.out.block⟩
          have H2 : Hid ((w1.drewN nq).heap[w.heap.size]? = some (.cells #[.string s] 9 (0, 0))) := k2
          have H3 : Hid (Below w.heap.size w (w1.drewN nq)) := ⟨k3.os, k3.tape, k3.output, k3.size, k3.block⟩
          have H4 : Hid (W3.heap.size + 2 + 4 ≤ (w1.drewN nq).heap.size) := k4
          have yg : (w1.drewN nq).cell? ⟨g, ya.length * 2 + 1, none⟩ = some (.int .i64 x.fr) := zg
          clear k1 k2 k3 k4 z0 z1 z2 zg
          generalize w1.drewN nq = Wd at y0 y1 y2 yg l1 HD H2 H3 H4 ⊢
          have yf : Wd.frozen? ⟨g, ya.length * 2 + 1, none⟩ = false := by obtain ⟨vs, hvs⟩ := l1.block (g := g) rfl; simp [World.frozen?, hvs]
          gi_wp2
          rw [HE.out] at l1
          obtain ⟨r1, r2, r3, r4⟩ := l1.on (B := W3.heap.size) (m := x.to) (M := fun k o => k = w.heap.size + 1 ∨ (W3.heap.size + 2 + 4 ≤ k ∧ ∃ vs fz, o = .cells vs 70 fz)) (by omega) H3.out (by omega) rfl (fun k vs fz hk => .inr ⟨hk, vs, fz, rfl⟩)
          refine ⟨kf_trans (kf_below HD.out) r1, (KpT.of_below HD.out).trans r2, by rw [HN.out]; exact r3, ?_, r4⟩
          exact r2.2 _ _ H2.out rfl (fun h => by rcases h with h | ⟨h, _⟩ <;> omega)
        · -- another word
          have HN : Hid (wac (wcl s) (pre ++ [x]) = wac (wcl s) pre ++ [(x.fr, x.to)]) := by show _ = _; rw [wac_snoc, wst_new hw (fun y hy => by rw [ey] at hy; simp at hy; rw [← hy]; exact hjn)]
          have hml : (wac (wcl s) pre).length + 1 ≤ maxLen := by omega
          have hbl : ((wac (wcl s) pre).length + 1) * 16 ≤ 140737488355328 := by omega
          have hne : ((yt : Int) == (x.fr : Int)) = false := beq_eq_false_iff_ne.2 (by omega)
          clear hw ey hjn
          gi_wp2_with (refine ⟨trivial, ?_⟩; gi_at_call 27; refine (CallsIn.inRound l (callsIn_wide.2 cE)).mono ?_; clear cE; rintro e w1 ⟨rfl, hb1⟩; obtain ⟨z0, z1, z2, _⟩ := HL.out w1 hb1; have zg := HLC.out w1 hb1; have HK : Hid (Below W.heap.size W w1) := hb1; clear hb1)
          rw [HW6.out]
          refine region_quiet (by kernel_rfl) (by kernel_rfl) (by kernel_rfl) ?_
          repeat (gi_big_quiet_step (fail))
          refine wpQuietIn_nil ?_
          intro _ hw'
          obtain ⟨nq, hw''⟩ := hw'
          subst hw''
          have y0 : (w1.drewN nq).cell? ⟨w.heap.size + 1, 0, none⟩ = some (.slice (some ⟨g, 0, none⟩) (ya.length + 1) cap) := z0
          have y1 : (w1.drewN nq).cell? ⟨Bx, 0, none⟩ = some (.int .i64 x.fr) := z1
          have y2 : (w1.drewN nq).cell? ⟨Bx, 1, none⟩ = some (.int .i64 x.to) := z2
          obtain ⟨_, _, _, k1, k2, k3, k4⟩ := HL.out w1 HK.out
          have l1 : LsS w.heap.size (w.heap.size + 1) (W3.heap.size + 2 + 4) (wac (wcl s) pre) (w1.drewN nq) (.slice (some ⟨g, 0, none⟩) (ya.length + 1) cap) := ⟨k1.box, k1.row, k1.nil, k1.far⟩
          have HD : Hid (Below W.heap.size W (w1.drewN nq)) := ⟨HK.out.os, HK.out.tape, HK.out.output, HK.out.size, HK.out.block⟩
          have H2 : Hid ((w1.drewN nq).heap[w.heap.size]? = some (.cells #[.string s] 9 (0, 0))) := k2
          have H3 : Hid (Below w.heap.size w (w1.drewN nq)) := ⟨k3.os, k3.tape, k3.output, k3.size, k3.block⟩
          have H4 : Hid (W3.heap.size + 2 + 4 ≤ (w1.drewN nq).heap.size) := k4
          clear k1 k2 k3 k4 z0 z1 z2
          generalize w1.drewN nq = Wd at y0 y1 y2 l1 HD H2 H3 H4 ⊢
          gi_wp2_with (gi_at_builtin; refine wpListIn_append_own_at _ rfl _ _ 45 rfl w.heap.size 70 i0 _ 2 16 Tryd.underlying45 hi hz0 hz1 hz2 rfl (by decide) _ _ _ rfl (l1.row.alloc _) ⟨Wd.heap.size, 0, none⟩ 1 1 [.int .i64 (x.fr : Int), .int .i64 (x.to : Int)] rfl rfl (World.news_of_block (World.alloc_heap_new Wd _)) (by simp [Value.oneCell']) hml hbl (by have := H3.out.size; simp; omega) ?_; intro v' w2 hown' hgrow _ hob; obtain ⟨g', cap', rfl⟩ := ownsRow_succ hown'; have t0 := l1.grown (by omega) hgrow; have tc : w2.cell? ⟨w.heap.size + 1, 0, none⟩ = some (.slice (some ⟨g, 0, none⟩) (ya.length + 1) cap) := (by simp [World.cell?, t0]); have tf : w2.frozen? ⟨w.heap.size + 1, 0, none⟩ = false := (by simp [World.frozen?, t0]))
          obtain ⟨r1, r2, r3, r4⟩ := l1.appended (B := W3.heap.size) (x := (x.fr, x.to)) (M := fun k o => k = w.heap.size + 1 ∨ (W3.heap.size + 2 + 4 ≤ k ∧ ∃ vs fz, o = .cells vs 70 fz)) (by omega) H3.out (by omega) H4.out hgrow hown' hob (fun _ => .inl rfl) (fun k vs fz hk => .inr ⟨hk, vs, fz, rfl⟩)
          refine ⟨kf_trans (kf_below HD.out) r1, (KpT.of_below HD.out).trans r2, by rw [HN.out]; exact r3, ?_, r4⟩
          exact r2.2 _ _ H2.out rfl (fun h => by rcases h with h | ⟨h, _⟩ <;> omega)
  case done =>
    rintro D ys W hD rfl ⟨⟨v, hv⟩, hq, hB⟩ hK
    have hc : W.cell? ⟨w.heap.size + 1, 0, none⟩ = some v := by simp [World.cell?, hv.box]
    have hrow := hv.row
    rw [wac_eq _ (cl_tile s)] at hrow
    have HR : Hid (W.ownsRow w.heap.size 70 2 v (words s).length (spc (words s))) := hrow
    clear hrow
    gi_wp2
    refine ⟨by simp, .inl ⟨_, _, rfl, run_takeDeferred hK, ?_⟩⟩
    exact ⟨_, results_tmp rfl _ _ _, v, rfl, ownsRow_putObj HR.out _ hK rfl, hB.trans (belowK_b (w := w) (Nat.le_refl _) W D _ _ (by omega) hK rfl rfl)⟩
  case stop =>
    rintro D c pre W _ _ h _
    exact h.elim
theorem spans_any (s : ByteArray) (hs : s.size ≤ maxLen) (hm : s.size ≤ 4398046511104) (w : World) (hT : Lib.Utf8Tabs 1 2 w) (hlo0 : 1 < w.heap.size) (hlo1 : 2 < w.heap.size) :
    Calls Tryd.prog 15 #[.string s] w fun e W' => ∃ v, e = .returned v ∧ W'.ownsRow w.heap.size 70 2 v (words s).length (spc (words s)) ∧ Below w.heap.size w W' := callsIn_wide.1 (spans_in 5 (by omega) s hs hm w hT hlo0 hlo1)
end Go.Proofs.YtiejollfeggeoaaDoor
