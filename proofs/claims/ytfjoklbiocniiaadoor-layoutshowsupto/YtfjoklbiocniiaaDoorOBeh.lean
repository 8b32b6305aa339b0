/-
  Package layout's behind: the pen behind a text. Conditions: the tables of unicode/utf8 lie as their text lays them; the rows can be counted.
-/
import Derived.Test.YtfjoklbiocniiaaDoorOLw
namespace Go.Proofs.YtfjoklbiocniiaaDoor
open Go.RowKit Go.Shelf Bod Wid
attribute [local go_sem] Oper.semAt_some
/-- the pen's step, in the plain state's words -/
theorem stp_pen {s : ByteArray} {cc : Clu} (hcc : cc ∈ cl s) (st : Lst) {W : Nat} (hst : st.Ok W) (hW2 : W ≤ 65535) (hr : st.rows.length ≤ 1099511627770) (X : World) :
    Calls Tryd.prog 31 #[.agg #[.int .i64 st.rows.length, .int .i64 st.col], .int .i64 cc.n, .int .i64 W] X fun e Y => (∃ ar ac : Int, e = .returned (.tuple #[.agg #[.int .i64 ar, .int .i64 ac], .agg #[.int .i64 (stpL W st (cuOf s cc)).rows.length, .int .i64 (stpL W st (cuOf s cc)).col]])) ∧ Below X.heap.size X Y := by
  obtain ⟨hn2, hn⟩ := cuOf_n hcc
  have := stp_any st.rows.length st.col (cuOf s cc).n W (by omega) (by omega) (by omega) (by have := hst.lt; omega) (by omega) (by omega) (by omega) X
  rw [stpI_L] at this
  rw [hn]
  refine this.mono ?_
  rintro e Y ⟨rfl, hY⟩
  exact ⟨⟨_, _, rfl⟩, hY⟩
section
set_option maxRecDepth 100000
set_option maxHeartbeats 2000000
theorem beh_in (n : Nat) (hn : 5 ≤ n) (s : ByteArray) (hs : s.size ≤ 268435456) (st : Lst) (Wn : Nat) (hst : st.Ok Wn) (hW1 : 1 ≤ Wn) (hW2 : Wn ≤ 65535) (hr : st.rows.length ≤ 1073741824) (w : World) (hT : Lib.Utf8Tabs 0 1 w) (_hlo0 : 0 < w.heap.size) (hlo1 : 1 < w.heap.size) :
    CallsIn Fence.wide n Tryd.prog 30 #[.agg #[.int .i64 st.rows.length, .int .i64 st.col], .string s, .int .i64 Wn] w fun e Y => e = .returned (.agg #[.int .i64 (layL Wn st (cus s (cl s))).rows.length, .int .i64 (layL Wn st (cus s (cl s))).col]) ∧ Hid (Below w.heap.size w Y) := by
  have h1 : 1 ≤ n := by omega
  have h3 : 1 ≤ n - 1 - 1 := by omega
  obtain ⟨W2, hW2'⟩ : ∃ W2, (((w.alloc (.cells #[.int .i64 st.rows.length, .int .i64 st.col] 28)).alloc (.cells #[.int .i64 Wn] 3)).alloc (.cells #[.int .i64 0, .int .i64 0] 28)).alloc (.cells #[.string s] 9) = W2 := ⟨_, rfl⟩
  have H2 : Hid (W2.heap[w.heap.size]? = some (.cells #[.int .i64 st.rows.length, .int .i64 st.col] 28 (0, 0)) ∧ W2.heap[w.heap.size + 1]? = some (.cells #[.int .i64 Wn] 3 (0, 0)) ∧ W2.heap[w.heap.size + 1 + 1]? = some (.cells #[.int .i64 0, .int .i64 0] 28 (0, 0)) ∧ W2.heap[w.heap.size + 1 + 1 + 1]? = some (.cells #[.string s] 9 (0, 0)) ∧ Below w.heap.size w W2 ∧ W2.heap.size = w.heap.size + 4) := by
    rw [← hW2']
    obtain ⟨q0, q1, q2, q3⟩ := push4 w.heap (.cells #[.int .i64 st.rows.length, .int .i64 st.col] 28) (.cells #[.int .i64 Wn] 3) (.cells #[.int .i64 0, .int .i64 0] 28) (.cells #[.string s] 9)
    exact ⟨q0, q1, q2, q3, ((((Below.refl _ w).alloc (Nat.le_refl _) _).alloc (by simp) _).alloc (by simp; omega) _).alloc (by simp; omega) _, by simp⟩
  refine callsIn_of_wp_marks Tryd.func30 rfl trivial ?_ rfl
  simp only [Tryd.ntmps30, List.size_toArray, List.length_cons, List.length_nil, Nat.reduceAdd, Nat.reduceSub, Array.replicate_succ, Array.replicate_zero, List.push_toArray, List.append_toArray, List.nil_append, List.cons_append]
  gi_wp2_with (refine ⟨trivial, ?_⟩; gi_at_call 26; refine (walk_in (n - 1) _ _).mono ?_; rintro e w' ⟨rfl, rfl⟩)
  clear hW2'
  have hsz := H2.out.2.2.2.2.2
  have hB2 := H2.out.2.2.2.2.1
  refine act_nameO fun A hA => ?_
  refine range_own rfl h1 (gf := 43) (lb := #[.pointer (some ⟨w.heap.size + 1 + 1 + 1, 0, none⟩)]) (by rw [hA]; rfl) trivial (enters_of Tryd.func43 (by kernel_rfl) rfl)
    (clu_seq (n - 1) (by omega) (w.heap.size + 1 + 1 + 1) (W2.heap.size + 2) (fun k _ => k = w.heap.size) s (by unfold maxLen; omega) (fun _ h => by omega) (fun _ h => by omega) (fun _ h => by omega) (fun k _ h1 h2 h => by omega) (fun k _ _ h1 h => by omega)
      W2 (by omega) (by omega) (by omega) H2.out.2.2.2.1 (tabs_below hT hB2))
    KpT.trans (fun W l o o' _ _ hl ho => KpT.putObj W l o o' hl ho) (fun _ => rfl)
    (fun pre W => Pb w.heap.size (layL Wn st (cus s pre)).rows.length (layL Wn st (cus s pre)).col W ∧ W.heap[w.heap.size + 1]? = some (.cells #[.int .i64 Wn] 3 (0, 0)) ∧ W.heap[w.heap.size + 1 + 1]? = some (.cells #[.int .i64 0, .int .i64 0] 28 (0, 0)) ∧ Below w.heap.size w W)
    (fun _ _ _ => False)
    (Ab.and (ab_block (o := fun _ => _) (by omega)) (Ab.and (ab_block (o := fun _ => _) (by omega)) (Ab.and (ab_block (o := fun _ => _) (by omega)) (ab_below (by omega) (Nat.le_refl _)))))
    (fun _ _ _ _ _ hs _ _ => hs)
    ⟨H2.out.1, H2.out.2.1, H2.out.2.2.1, hB2⟩
    (fun x a' W' => ∃ Bx, w.heap.size + 1 + 1 + 1 ≤ Bx ∧ W'.heap[Bx]? = some (.cells (cvs x) 56 (0, 0)) ∧ a' = { tmps := (((#[10] : Array Tmp).zip (encC x)).foldl (fun t (p, v) => t.setIfInBounds p v) A.tmps).setIfInBounds 7 (.pointer (some ⟨Bx, 0, none⟩)), defers := [] })
    (fun x a' _ X Y row h hg hr => h.imp fun Bx hx => ⟨hx.1, bx_keptO hx.1 hx.2.1 hg hr (Nat.le_refl _) rfl, hx.2.2⟩)
    ?assign ?body ?done ?stop
  case assign =>
    rintro l pre x W K ⟨hi, hj, hz, hbw⟩ hK
    have hWs : w.heap.size + 1 + 1 + 1 ≤ W.heap.size := by have := (Array.getElem?_eq_some_iff.1 hz).1; omega
    have hb : Below W.heap.size W (W.alloc (.cells (cvs x) 56)) := (Below.refl _ W).alloc (Nat.le_refl _) _
    subst hA
    gi_wp2
    exact hK _ _ (kf_below hb) (KpT.of_below hb) ⟨hi.below hb, (hb.block _ (Array.getElem?_eq_some_iff.1 hj).1).trans hj, (hb.block _ (Array.getElem?_eq_some_iff.1 hz).1).trans hz, hbw.trans (hb.mono (by have := hbw.size; omega))⟩ ⟨W.heap.size, hWs, World.alloc_heap_new W _, by simp [encC]⟩
  case body =>
    rintro l pre x a' W _ _ _ hWs ⟨hi, hj, hz, hbw⟩ ⟨Bx, hBx, qx, rfl⟩ hnx
    obtain ⟨⟨d0, d1, d2, d3⟩, _⟩ := box4 qx
    obtain ⟨⟨y0, y1⟩, _⟩ := hi.cells
    obtain ⟨t5, _⟩ := box1o hj
    have hxm : x ∈ cl s := hnx.subset (by simp)
    have hpl := pre_bd (show pre <+: cl s from (List.prefix_append pre [x]).trans hnx)
    have h2 : ∀ u ∈ cus s pre, u.n ≤ 2 := fun u hu => by
      obtain ⟨c, hc, rfl⟩ := List.mem_map.1 hu
      exact (cuOf_n (((List.prefix_append pre [x]).trans hnx).subset hc)).1
    have hrows := layL_rows (W := Wn) (l := cus s pre) (s := st)
    have e2 : (cus s pre).length = pre.length := by simp [cus]
    have hnew : layL Wn st (cus s (pre ++ [x])) = stpL Wn (layL Wn st (cus s pre)) (cuOf s x) := by simp only [cus, List.map_append, List.map_cons, List.map_nil]; exact layL_snoc _ _ _ _
    have hok := layL_ok hW1 h2 hst
    have hrl : (layL Wn st (cus s pre)).rows.length ≤ 1099511627770 := by omega
    have HN : Hid (layL Wn st (cus s (pre ++ [x])) = stpL Wn (layL Wn st (cus s pre)) (cuOf s x)) := hnew
    generalize layL Wn st (cus s pre) = st2 at hi y0 y1 hok hrl HN
    have CL : Hid (∀ X, X = W → _) := fun X (hX : X = W) => stp_pen hxm st2 hok hW2 hrl X
    generalize stpL Wn st2 (cuOf s x) = st3 at CL HN
    have HJ : Hid (Pb w.heap.size st2.rows.length st2.col W ∧ W.heap[w.heap.size + 1]? = some (.cells #[.int .i64 Wn] 3 (0, 0)) ∧ W.heap[w.heap.size + 1 + 1]? = some (.cells #[.int .i64 0, .int .i64 0] 28 (0, 0)) ∧ Below w.heap.size w W) := ⟨hi, hj, hz, hbw⟩
    clear hi hj hz hbw hrows e2 hpl h2 hnew hok hrl qx
    subst hA
    gi_wp2_with (refine ⟨trivial, ?_⟩; gi_at_call 31; refine (CallsIn.inRound l (callsIn_wide.2 (CL.out _ rfl))).mono ?_; clear CL d0 d1 d2 d3 y0 y1 t5; rintro e Y ⟨⟨ar, ac, rfl⟩, hY⟩; have HP : Hid (Pb w.heap.size st2.rows.length st2.col Y ∧ Below W.heap.size W Y) := ⟨HJ.out.1.below hY, hY⟩; clear hY; obtain ⟨⟨y0, y1⟩, f0, f1⟩ := HP.out.1.cells)
    have hbox : Y.heap[w.heap.size]? = some (.cells #[.int .i64 st2.rows.length, .int .i64 st2.col] 28 (0, 0)) := HP.out.1
    have g := o_grown2 (gcell Y w.heap.size 0 (.int .i64 st3.rows.length)) (gcell _ w.heap.size 1 (.int .i64 st3.col))
    have kb : ∀ {k : Nat} {o : Obj}, W.heap[k]? = some o → k ≠ w.heap.size → ((Y.setCell ⟨w.heap.size, 0, none⟩ (.int .i64 st3.rows.length)).setCell ⟨w.heap.size, 1, none⟩ (.int .i64 st3.col)).heap[k]? = some o := fun hk hne => (g.block _ (by have := (Array.getElem?_eq_some_iff.1 hk).1; have := HP.out.2.size; omega) (fun e => hne (by injection e))).trans ((HP.out.2.block _ (Array.getElem?_eq_some_iff.1 hk).1).trans hk)
    refine ⟨kf_trans (kf_below HP.out.2) (kf_cells g hbox), (KpT.of_below HP.out.2).trans (KpT.of_grown g (fun r o e _ => by cases e; rfl)), ?_, kb HJ.out.2.1 (by omega), kb HJ.out.2.2.1 (by omega), ?_⟩
    · rw [HN.out]
      exact pb_set hbox
    · exact ((HJ.out.2.2.2.trans (HP.out.2.mono (by have := HJ.out.2.2.2.size; omega))).setCell (p := ⟨w.heap.size, 0, none⟩) (Nat.le_refl _) _).setCell (p := ⟨w.heap.size, 1, none⟩) (Nat.le_refl _) _
  case stop =>
    rintro D c pre W _ _ h _
    exact h.elim
  case done =>
    rintro D ys W hD rfl ⟨hi, hj, hz, hbw⟩ hK
    obtain ⟨st2, hst2⟩ : ∃ st2, layL Wn st (cus s (cl s)) = st2 := ⟨_, rfl⟩
    rw [hst2] at hi
    have HS2 : Hid (layL Wn st (cus s (cl s)) = st2) := hst2
    clear hst2
    obtain ⟨⟨y0, y1⟩, _⟩ := hi.cells
    obtain ⟨⟨z0, z1⟩, f0, f1⟩ := obox2 hz
    have HEND : Hid (∀ V Z : World, V.heap = W.heap → V.os = W.os ∧ V.tape = W.tape ∧ V.output = W.output → Z = (V.setCell ⟨w.heap.size + 1 + 1, 0, none⟩ (.int .i64 st2.rows.length)).setCell ⟨w.heap.size + 1 + 1, 1, none⟩ (.int .i64 st2.col) → Z.heap[D]? = some (.deferred (some [])) ∧ Pb (w.heap.size + 1 + 1) st2.rows.length st2.col (Z.putObj D (.deferred none)) ∧ Below w.heap.size w (Z.putObj D (.deferred none))) := fun V Z hV hV2 hZ => by
      have hz' : V.heap[w.heap.size + 1 + 1]? = some (.cells #[.int .i64 0, .int .i64 0] 28 (0, 0)) := by rw [hV]; exact hz
      have g := o_grown2 (gcell V (w.heap.size + 1 + 1) 0 (.int .i64 st2.rows.length)) (gcell _ (w.heap.size + 1 + 1) 1 (.int .i64 st2.col))
      have hp := pb_set (r := st2.rows.length) (c := st2.col) hz'
      have hBV : Below w.heap.size w V := ⟨hV2.1.trans hbw.os, hV2.2.1.trans hbw.tape, hV2.2.2.trans hbw.output, by rw [hV]; exact hbw.size, fun j hj => by rw [hV]; exact hbw.block j hj⟩
      have hBZ := (hBV.setCell (p := ⟨w.heap.size + 1 + 1, 0, none⟩) (by show w.heap.size ≤ w.heap.size + 1 + 1; omega) (.int .i64 st2.rows.length)).setCell (p := ⟨w.heap.size + 1 + 1, 1, none⟩) (by show w.heap.size ≤ w.heap.size + 1 + 1; omega) (.int .i64 st2.col)
      rw [← hZ] at g hp hBZ
      have hd : Z.heap[D]? = some (.deferred (some [])) := (g.block _ (by rw [hV]; exact (Array.getElem?_eq_some_iff.1 hK).1) (fun e => by injection e with e; omega)).trans (by rw [hV]; exact hK)
      exact ⟨hd, (World.putObj_heap_other (by omega)).trans hp, hBZ.trans (belowK_b (w := w) (Nat.le_refl _) Z D _ _ (by omega) hd rfl rfl)⟩
    clear hi hj hz hbw hK
    subst hA
    gi_wp2
    obtain ⟨e1, e2, e3⟩ := HEND.out W _ rfl ⟨rfl, rfl, rfl⟩ rfl
    obtain ⟨⟨c0, c1⟩, -⟩ := e2.cells
    refine ⟨by simp, .inl ⟨_, _, rfl, run_takeDeferred e1, ?_⟩⟩
    exact ⟨.agg #[.int .i64 st2.rows.length, .int .i64 st2.col], (by simp [results, Tryd.results30, go_sem, c0, c1]), by rw [HS2.out], e3⟩
theorem beh_any (s : ByteArray) (hs : s.size ≤ 268435456) (st : Lst) (Wn : Nat) (hst : st.Ok Wn) (hW1 : 1 ≤ Wn) (hW2 : Wn ≤ 65535) (hr : st.rows.length ≤ 1073741824) (w : World) (hT : Lib.Utf8Tabs 0 1 w) (hlo0 : 0 < w.heap.size) (hlo1 : 1 < w.heap.size) :
    Calls Tryd.prog 30 #[.agg #[.int .i64 st.rows.length, .int .i64 st.col], .string s, .int .i64 Wn] w fun e Y => e = .returned (.agg #[.int .i64 (layL Wn st (cus s (cl s))).rows.length, .int .i64 (layL Wn st (cus s (cl s))).col]) ∧ Hid (Below w.heap.size w Y) := callsIn_wide.1 (beh_in 6 (by omega) s hs st Wn hst hW1 hW2 hr w hT hlo0 hlo1)
end
end Go.Proofs.YtfjoklbiocniiaaDoor
