/-
  What package cluster's Drawn answers: what is drawn for the clusters of the text, one behind the other. Conditions: the two tables of unicode/utf8 lie as their text lays them; the text is so short that what is drawn for it can be made.
-/
import Derived.Test.YtfjoklbiocniiaaDoorPkB
import Derived.Test.YtfjoklbiocniiaaDoorCDraw
import Derived.Test.YtfjoklbiocniiaaDoorPkU
namespace Go.Proofs.YtfjoklbiocniiaaDoor
open Go.RowKit Go.Shelf Bod Wid
attribute [local go_sem] Oper.semAt_some

theorem push3 (a : Array Obj) (o0 o1 o2 : Obj) : (((a.push o0).push o1).push o2)[a.size]? = some o0 ∧ (((a.push o0).push o1).push o2)[a.size + 1]? = some o1 ∧ (((a.push o0).push o1).push o2)[a.size + 1 + 1]? = some o2 := by
  refine ⟨?_, ?_, ?_⟩
  · rw [Array.getElem?_push, if_neg (by simp only [Array.size_push]; omega), Array.getElem?_push, if_neg (by simp only [Array.size_push]; omega), Array.getElem?_push_size]
  · rw [Array.getElem?_push, if_neg (by simp only [Array.size_push]; omega), ← Array.size_push o0, Array.getElem?_push_size]
  · rw [← Array.size_push o0, ← Array.size_push o1, Array.getElem?_push_size]
theorem Wr.below {b hi n₀ : Nat} {w W W' : World} (h : Wr b hi W W') (hb : n₀ ≤ b) (hh : n₀ ≤ hi) (hn : n₀ ≤ w.heap.size) (k : Below n₀ w W) : Below n₀ w W' :=
  ⟨h.1.trans k.os, h.2.1.trans k.tape, h.2.2.1.trans k.output, Nat.le_trans k.size h.2.2.2.1, fun j hj => by
    have hjw : j < W.heap.size := by have := k.size; omega
    have e : W.heap[j]? = some W.heap[j] := Array.getElem?_eq_getElem hjw
    rw [h.2.2.2.2 j _ e (by omega) (fun h => by omega), ← e]
    exact k.block j hj⟩
theorem Wr.keeps {b hi B : Nat} {W W' : World} (h : Wr b hi W W') {vs : Array Value} {t : TypeId} {fz : Nat × Nat} (hb : W.heap[b]? = some (.cells vs t fz)) : KeepsFrom B W W' :=
  ⟨h.2.2.2.1, fun k o _ hk hc => h.2.2.2.2 k o hk (fun e => by subst e; rw [hb] at hk; cases hk; cases hc) (fun _ vs fz e => by subst e; cases hc)⟩
theorem Wr.kpt {b hi : Nat} {W W' : World} {M : Nat → Obj → Prop} (h : Wr b hi W W') (m1 : ∀ o, M b o) (m2 : ∀ k vs fz, hi ≤ k → M k (.cells vs 5 fz)) : KpT M W W' :=
  ⟨h.2.2.2.1, fun k o hk _ hm => h.2.2.2.2 k o hk (fun e => by subst e; exact hm (m1 o)) (fun hh vs fz e => by subst e; exact hm (m2 k vs fz hh))⟩

set_option maxRecDepth 100000 in
set_option maxHeartbeats 1000000 in
theorem drawn_in (n : Nat) (hn : 5 ≤ n) (s : ByteArray) (hs : s.size ≤ maxLen) (hm : s.size ≤ 4398046511104) (w : World) (hT : Lib.Utf8Tabs 0 1 w) (_hlo0 : 0 < w.heap.size) (hlo1 : 1 < w.heap.size) :
    CallsIn Fence.wide n Tryd.prog 19 #[.string s] w fun e W' => e = .returned (.string ⟨(drawnL s (cl s)).toArray⟩) ∧ Below w.heap.size w W' := by
  have h1 : 1 ≤ n := by omega
  have h2 : 1 ≤ n - 1 - 1 := by omega
  refine callsIn_of_wp_marks Tryd.func19 rfl trivial ?_ rfl
  simp only [Tryd.ntmps19, List.size_toArray, List.length_cons, List.length_nil, Nat.reduceAdd, Nat.reduceSub, Array.replicate_succ, Array.replicate_zero, List.push_toArray, List.append_toArray, List.nil_append, List.cons_append]
  gi_wp2_with (refine ⟨trivial, ?_⟩; gi_at_call 26; refine (walk_in (n - 1) _ _).mono ?_; rintro e w' ⟨rfl, rfl⟩)
  obtain ⟨W3, hW3⟩ : ∃ W3, (((w.alloc (.cells #[.string s] 9)).alloc (.cells #[.pointer none, .slice none 0 0] 74)).alloc (.cells #[.string s] 9)) = W3 := ⟨_, rfl⟩
  rw [hW3]
  obtain ⟨p0, p1, p2⟩ : W3.heap[w.heap.size]? = some (.cells #[.string s] 9 (0, 0)) ∧ W3.heap[w.heap.size + 1]? = some (.cells #[.pointer none, .slice none 0 0] 74 (0, 0)) ∧ W3.heap[w.heap.size + 1 + 1]? = some (.cells #[.string s] 9 (0, 0)) := by rw [← hW3]; exact push3 w.heap _ _ _
  have hB0 : Below w.heap.size w W3 := by rw [← hW3]; exact (((Below.refl _ w).alloc (Nat.le_refl _) _).alloc (by simp) _).alloc (by simp; omega) _
  have hsz : W3.heap.size = w.heap.size + 3 := by rw [← hW3]; simp
  clear hW3
  refine range_own rfl h1 (gf := 43) (lb := #[.pointer (some ⟨w.heap.size + 1 + 1, 0, none⟩)]) rfl trivial (enters_of Tryd.func43 (by kernel_rfl) rfl)
    (clu_seq (n - 1) (by omega) (w.heap.size + 1 + 1) (W3.heap.size + 2) (fun k o => k = w.heap.size + 1 ∨ (W3.heap.size + 2 + 4 ≤ k ∧ ∃ vs fz, o = .cells vs 5 fz)) s hs (fun _ h => by rcases h with h | ⟨h, _⟩ <;> omega) (fun _ h => by rcases h with h | ⟨h, _⟩ <;> omega) (fun _ h => by rcases h with h | ⟨h, _⟩ <;> omega) (fun k _ h1 h2 h => by rcases h with h | ⟨h, _⟩ <;> omega)
      (fun k _ _ h1 h => by rcases h with h | ⟨_, vs, fz, h⟩; omega; cases h)
      W3 (by omega) (by omega) (by omega) p2 (tabs_below hT hB0))
    KpT.trans (fun W l o o' _ _ hl ho => KpT.putObj W l o o' hl ho) (fun _ => rfl)
    (fun pre W => (∃ p v, Bld (w.heap.size + 1) (W3.heap.size + 2 + 4) (Lib.byteCells (drawnL s pre)) W p v) ∧ W.heap[w.heap.size]? = some (.cells #[.string s] 9 (0, 0)) ∧ Below w.heap.size w W)
    (fun _ _ _ => False)
    (Ab.and (bld_ab (f := fun pre => Lib.byteCells (drawnL s pre)) (by omega)) (Ab.and (ab_block (o := fun _ => _) (by omega)) (ab_below (by omega) (Nat.le_refl _))))
    (fun _ _ _ _ _ hs _ _ => hs)
    ⟨⟨_, _, p1, World.ownsRow_nil _ _ _ _, .inl rfl⟩, p0, hB0⟩
    (fun x a' W' => ∃ Bx, w.heap.size + 1 < Bx ∧ W'.heap[Bx]? = some (.cells (cvs x) 56 (0, 0)) ∧
      a' = { tmps := #[.string s, .pointer (some ⟨w.heap.size, 0, none⟩), .string ⟨#[]⟩, .pointer (some ⟨w.heap.size + 1, 0, none⟩), .pointer (some ⟨Bx, 0, none⟩), .string s, .func (.func 43) #[] #[.pointer (some ⟨w.heap.size + 1 + 1, 0, none⟩)], cv x, undef, undef, undef, undef, undef, undef, undef, undef, undef, undef], defers := [] })
    (fun x a' _ X Y row h hg hr => h.imp fun Bx hx => ⟨hx.1, (hg.block Bx (Array.getElem?_eq_some_iff.1 hx.2.1).1 (fun e => by
      obtain ⟨_, (h3 | ⟨o, ho, hc⟩)⟩ := hr Bx e.symm
      · omega
      · rw [hx.2.1] at ho; cases ho; cases hc)).trans hx.2.1, hx.2.2⟩)
    ?assign ?body ?done ?stop
  case assign =>
    rintro l pre x W K ⟨⟨p, v, hv⟩, hq, hB⟩ hK
    have hsx := (Array.getElem?_eq_some_iff.1 hv.box).1
    gi_wp2
    exact hK _ _ (kf_below ((Below.refl _ W).alloc (Nat.le_refl _) _)) (KpT.of_below ((Below.refl _ W).alloc (Nat.le_refl _) _)) ⟨⟨p, v, hv.kept (World.grownBy_alloc W _ none) (by simp) (by simp)⟩, (Below.heap_alloc _ _ _ (Array.getElem?_eq_some_iff.1 hq).1).trans hq, hB.alloc hB.size _⟩ ⟨W.heap.size, hsx, World.alloc_heap_new W _, rfl⟩
  case body =>
    rintro l pre x a' W _ _ _ hWs ⟨⟨p, v, hv⟩, hq, hB⟩ ⟨Bx, hBx, qx, rfl⟩ hnx
    have hc : W.cell? ⟨w.heap.size, 0, none⟩ = some (.string s) := by simp [World.cell?, hq]
    obtain ⟨⟨d0, d1, d2, d3⟩, _⟩ := box4 qx
    have hlen := pre_drawn ((List.prefix_append pre [x]).trans hnx)
    have hsp := cl_span (hnx.subset (by simp : x ∈ pre ++ [x]))
    obtain ⟨hs1, hs2⟩ := hsp
    obtain ⟨c, r, hcr⟩ : ∃ c r, (s.extract x.fr x.to).data.toList = c :: r := by
      have := sub_len (s := s) (i := x.fr) hs2
      cases h : sub s x.fr x.to with
      | nil => rw [h] at this; simp at this; omega
      | cons c r => exact ⟨c, r, h⟩
    have hxs : (s.extract x.fr x.to).size ≤ s.size := by simp; omega
    have HC : Hid (sub s x.fr x.to = c :: r) := hcr
    have HV : Hid (Bld (w.heap.size + 1) (W3.heap.size + 2 + 4) (Lib.byteCells (drawnL s pre)) W p v) := hv
    have CD : Hid (∀ q, Calls Tryd.prog 34 #[.pointer (some ⟨w.heap.size + 1, 0, none⟩), .int .i64 x.k, .string (s.extract x.fr x.to)] (W.drewN q) fun e w' => (∃ u, e = .returned u) ∧ (∃ p' v', Bld (w.heap.size + 1) (W3.heap.size + 2 + 4) (Lib.byteCells (drawnL s pre ++ drw x.k (c :: r))) w' p' v') ∧ Wr (w.heap.size + 1) (W3.heap.size + 2 + 4) (W.drewN q) w') := fun q =>
      draw_any (w := W.drewN q) x.k (s.extract x.fr x.to) c r hcr ⟨hv.box, hv.row, hv.adr⟩ (by omega) hWs (by omega)
    clear hcr hv
    gi_wp2
    refine region_then (by kernel_rfl) (by kernel_rfl) (by kernel_rfl) (by kernel_rfl) rfl rfl ?_
    dsimp only [List.dropLast, List.getLast]
    repeat (gi_big_quiet_step (fail))
    refine wpQuietIn_nil ?_
    intro _ hw'
    obtain ⟨nq, hw''⟩ := hw'
    subst hw''
    have cD := CD.out nq
    gi_wp2_with (refine ⟨trivial, ?_⟩; gi_at_call 34; refine (CallsIn.inRound l (callsIn_wide.2 cD)).mono ?_; clear cD; rintro e w1 ⟨⟨u, rfl⟩, ⟨p1, v1, k1⟩, HW1⟩)
    have HW2 : Wr (w.heap.size + 1) (W3.heap.size + 2 + 4) W w1 := HW1
    exact ⟨HW2.keeps HV.out.box, HW2.kpt (fun _ => .inl rfl) (fun k vs fz hk => .inr ⟨hk, vs, fz, rfl⟩), ⟨p1, v1, by rw [drawnL_app]; simpa [drawnL, HC.out] using k1⟩, HW2.2.2.2.2 _ _ hq (by omega) (fun h => by omega), HW2.below (by omega) (by omega) (Nat.le_refl _) hB⟩
  case done =>
    rintro D ys W hD rfl ⟨⟨p, v, hv⟩, hq, hB⟩ hK
    have hbl : Lib.IsBuilderF 74 5 w.heap.size (w.heap.size + 1) (Lib.byteCells (drawnL s (cl s))) W := by
      have row := row_lower hv.row (show w.heap.size ≤ W3.heap.size + 2 + 4 by omega)
      have hne : v.ownBlock ≠ some (w.heap.size + 1) := fun e => by have := hv.far e; omega
      have hbox := hv.box
      refine Lib.IsBuilderF.of ?_
      rcases hv.adr with rfl | rfl
      · exact .inl ⟨by omega, v, hbox, row, hne⟩
      · exact .inr ⟨by omega, v, hbox, row, hne⟩
    have cS := Tryd.Builder_String_any_k w.heap.size (w.heap.size + 1) (drawnL s (cl s)) W hbl hB.size
    gi_wp2_with (refine ⟨trivial, ?_⟩; gi_at_call 35; refine (callsIn_wide.2 cS).mono ?_; rintro e w1 ⟨rfl, _, hb1, hk1⟩)
    have hK1 := hk1 D _ hK (by intro e; cases e; omega) (by intro c fz e; cases e)
    refine ⟨by simp, .inl ⟨_, _, rfl, run_takeDeferred hK1, ?_⟩⟩
    exact ⟨_, results_tmp rfl _ _ _, rfl, (hB.trans hb1).trans (belowK_b (w := w) (Nat.le_refl _) w1 D _ _ (by omega) hK1 rfl rfl)⟩
  case stop =>
    rintro D c pre W _ _ h _
    exact h.elim
theorem drawn_any (s : ByteArray) (hs : s.size ≤ maxLen) (hm : s.size ≤ 4398046511104) (w : World) (hT : Lib.Utf8Tabs 0 1 w) (hlo0 : 0 < w.heap.size) (hlo1 : 1 < w.heap.size) :
    Calls Tryd.prog 19 #[.string s] w fun e W' => e = .returned (.string ⟨(drawnL s (cl s)).toArray⟩) ∧ Below w.heap.size w W' := callsIn_wide.1 (drawn_in 5 (by omega) s hs hm w hT hlo0 hlo1)
end Go.Proofs.YtfjoklbiocniiaaDoor
