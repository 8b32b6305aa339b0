/-
  The walk of the law LayoutPlaces: the program's Places are the document's; what is written into one answer is not seen in another. Conditions: those of walk_of.
-/
import Derived.Deep.CutRange
import Derived.Test.YtfjoklbiocniiaaDoorOAwk
import Derived.Test.YtfjoklbiocniiaaDoorOArg
import Derived.Test.YtfjoklbiocniiaaDoorPkOQ
import Derived.Test.YtfjoklbiocniiaaDoorOSpl
import Derived.Test.YtfjoklbiocniiaaDoorPkOC
namespace Go.Proofs.YtfjoklbiocniiaaDoor.layoutPlaces
open Go.RowKit Go.Shelf Bod Wid
theorem row_putP {W : World} {base n c k g i : Nat} {e : TypeId} {u : Value} {xs : List Value} (h : W.ownsRow base e c (.slice (some ⟨g, 0, none⟩) n k) n xs) : (W.setCell ⟨g, i, none⟩ u).ownsRow base e c (.slice (some ⟨g, 0, none⟩) n k) n (xs.set i u) := by
  obtain ⟨hl, h⟩ := h
  refine ⟨by rw [List.length_set]; exact hl, ?_⟩
  rcases h with ⟨h1, _⟩ | ⟨g', cap, cur, h1, h2, h3, h4, h5, h6, h7⟩
  · cases h1
  · obtain ⟨e, _, rfl⟩ := Value.slice.inj h1
    cases e
    refine .inr ⟨g, k, _, rfl, h2, set1 _ h3, h4, h5, by simpa using h6, ?_⟩
    rw [← h7, Array.toList_setIfInBounds, List.take_set]
/-- what stands while the list of n places at v is written to: all of V but the block gl -/
structure Sx (w V : World) (gl : Nat) (n : Nat) (v : Value) (Y : World) : Prop where
  bel : Below w.heap.size w Y
  size : V.heap.size ≤ Y.heap.size
  keep : ∀ k, k < V.heap.size → k ≠ gl → Y.heap[k]? = V.heap[k]?
  row : ∃ xs, Y.ownsRow w.heap.size 28 2 v n xs
  blk : ∀ g, v.ownBlock = some g → g = gl ∨ V.heap.size ≤ g
theorem Sx.cells {w V Y : World} {gl n k i : Nat} (h : Sx w V gl n (.slice (some ⟨gl, 0, none⟩) n k) Y) (hi : i < n) : ∃ u0 u1, Y.cell? ⟨gl, i * 2, none⟩ = some u0 ∧ Y.cell? ⟨gl, i * 2 + 1, none⟩ = some u1 ∧ Y.frozen? ⟨gl, i * 2, none⟩ = false ∧ Y.frozen? ⟨gl, i * 2 + 1, none⟩ = false := by
  obtain ⟨xs, hr⟩ := h.row
  obtain ⟨⟨cur, hc⟩, -⟩ := own_blkO hr (g := gl) rfl
  have hl := hr.1
  exact ⟨_, _, (hr.cellAt (i * 2) (by omega)).trans (List.getElem?_eq_getElem (by omega)), (hr.cellAt (i * 2 + 1) (by omega)).trans (List.getElem?_eq_getElem (by omega)), by simp [World.frozen?, hc], by simp [World.frozen?, hc]⟩
theorem Sx.put {w V Y : World} {gl n k i : Nat} (h : Sx w V gl n (.slice (some ⟨gl, 0, none⟩) n k) Y) (hg : w.heap.size ≤ gl) (u0 u1 : Value) : Sx w V gl n (.slice (some ⟨gl, 0, none⟩) n k) ((Y.setCell ⟨gl, i * 2, none⟩ u0).setCell ⟨gl, i * 2 + 1, none⟩ u1) := by
  obtain ⟨xs, hr⟩ := h.row
  have g2 := (gcell Y gl (i * 2) u0).trans (gcell _ gl (i * 2 + 1) u1)
  exact ⟨(h.bel.setCell (p := ⟨gl, i * 2, none⟩) hg _).setCell (p := ⟨gl, i * 2 + 1, none⟩) hg _, by have := g2.size; have := h.size; omega, fun b hb hne => (g2.block b (by have := h.size; omega) (fun e => hne (Option.some.inj e))).trans (h.keep b hb hne), ⟨_, row_putP (row_putP hr)⟩, h.blk⟩
theorem Sx.app {w V Y : World} {gl n : Nat} {v : Value} (h : Sx w V gl n v Y) (u0 u1 : Value) (h0 : u0.oneCell') (h1 : u1.oneCell') (hn : n ≤ 1073741824) : ∃ v3 w3, (Builtin.append_ #[35, 35] 35 #[v, .slice (some ⟨Y.heap.size, 0, none⟩) 1 1]).run Tryd.prog (Y.alloc (.cells #[u0, u1] 28)) = .ok v3 w3 ∧ Sx w V gl (n + 1) v3 w3 := by
  obtain ⟨i0, hi0, hz0, hz1, hz2⟩ := info_parts infoPL
  obtain ⟨xs, hr⟩ := h.row
  have hb1 : Below Y.heap.size Y (Y.alloc (.cells #[u0, u1] 28)) := (Below.refl _ Y).alloc (Nat.le_refl _) _
  have hs := h.size
  have hbs := h.bel.size
  obtain ⟨v3, w3, hrun, h2, h3, -, h5⟩ := run_append_own_at (P := Tryd.prog) (w := Y.alloc (.cells #[u0, u1] 28)) w.heap.size 35 35 28 i0 (.agg #[.int .i64 0, .int .i64 0]) 2 16 Tryd.underlying35 hi0 hz0 hz1 hz2 rfl (by omega) v n _ (own_nextO hr hb1) ⟨Y.heap.size, 0, none⟩ 1 1 [u0, u1] rfl (fun j u hu => by
    match j, hu with
    | 0, hu => obtain rfl := Option.some.inj hu; simp [Addr.add]
    | 1, hu => obtain rfl := Option.some.inj hu; simp [Addr.add]
    | j + 2, hu => simp at hu) (by intro u hu; simp at hu; rcases hu with rfl | rfl; exact h0; exact h1) (by unfold maxLen; omega) (by omega) (by simp; omega)
  refine ⟨v3, w3, hrun, (h.bel.alloc hbs _).grown h3 (by simp; omega) (fun b e => (own_blkO hr e).2.1), by have := h3.size; simp at this; omega, fun b hb hne => ?_, ⟨_, h2⟩, fun g e => ?_⟩
  · rw [h3.block b (by simp; omega) (fun e => ?_), hb1.block b (by omega)]
    · exact h.keep b hb hne
    · rcases h.blk b e.symm with q | q
      · exact hne q
      · omega
  · rcases h5 with h5 | h5
    · exact h.blk g (h5 ▸ e)
    · rw [h5] at e
      have e := Option.some.inj e
      simp at e
      omega
set_option maxRecDepth 100000 in
set_option maxHeartbeats 4000000 in
theorem walk (hM : Tryd.prog.follows .mixedOrders = true) (prompt text : ByteArray) (cur W0 : Int) (hp : prompt.size ≤ 1048576) (ht : text.size ≤ 1048576) (w : World) (hT : Lib.Utf8Tabs 0 1 w) (hlo0 : 0 < w.heap.size) (hlo1 : 1 < w.heap.size) :
    Calls Tryd.prog 4 #[.agg #[.string prompt, .string text, .int .i64 cur, .int .i64 W0]] w fun e w' => e = .returned (.bool true) ∧ Below w.heap.size w w' := by
  obtain ⟨Wn, hW⟩ : ∃ Wn : Nat, (Wn : Int) = couW W0 := ⟨(couW W0).toNat, by have := couW_in W0; omega⟩
  obtain ⟨N, hN⟩ : ∃ N, (cl text).length = N := ⟨_, rfl⟩
  have hNs := cl_len text
  rw [hN] at hNs
  have hpl := plL_len Wn (layL Wn lst0 (cus prompt (cl prompt))) text (cl text)
  rw [hN] at hpl
  have tb : ∀ {X : World}, Below w.heap.size w X → Lib.Utf8Tabs 0 1 X ∧ 0 < X.heap.size ∧ 1 < X.heap.size := fun {X} hX => ⟨tabs_below hT hX, Nat.lt_of_lt_of_le hlo0 hX.size, Nat.lt_of_lt_of_le hlo1 hX.size⟩
  have CA : Hid (∀ X, Below w.heap.size w X → Calls Tryd.prog 7 #[] X fun e w' => e = .returned (.bool true) ∧ Hid (Below X.heap.size X w')) := fun X hX => awk_any hM X (tb hX).1 (tb hX).2.1 (tb hX).2.2
  have CP0 : ∀ X, Below w.heap.size w X → Calls Tryd.prog 13 #[.string prompt, .string text, .int .i64 W0] X fun e Y => ∃ v, e = .returned v ∧ Hid (Y.ownsRow X.heap.size 28 2 v (N + 1) (pcs (plL Wn (layL Wn lst0 (cus prompt (cl prompt))) text (cl text))) ∧ Below X.heap.size X Y) := fun X hX => by
    have := pls_any prompt text W0 (by omega) (by omega) X (tb hX).1 (tb hX).2.1 (tb hX).2.2 Wn hW
    rw [hN] at this
    exact this
  have CR0 : ∀ X, Calls Tryd.prog 12 #[.string prompt, .string text, .int .i64 W0] X fun e Y => ∃ v, e = .returned v ∧ Hid (Y.ownsRow X.heap.size 28 2 v (N + 1) (pcs (plL Wn (layL Wn lst0 (cus prompt (cl prompt))) text (cl text))) ∧ Below X.heap.size X Y) := fun X => by
    have := rpls_any prompt text W0 (by omega) (by omega) X Wn hW
    rw [hN] at this
    exact this
  generalize plL Wn (layL Wn lst0 (cus prompt (cl prompt))) text (cl text) = ps at hpl CP0 CR0
  have CP : Hid (∀ X, Below w.heap.size w X → Calls Tryd.prog 13 #[.string prompt, .string text, .int .i64 W0] X fun e Y => ∃ g k, e = .returned (.slice (some ⟨g, 0, none⟩) (N + 1) k) ∧ Hid (X.heap.size ≤ g ∧ g < Y.heap.size ∧ Y.ownsRow X.heap.size 28 2 (.slice (some ⟨g, 0, none⟩) (N + 1) k) (N + 1) (pcs ps) ∧ RdPl Y (.slice (some ⟨g, 0, none⟩) (N + 1) k) ps ∧ Below X.heap.size X Y)) := fun X hX => (CP0 X hX).mono fun e Y ⟨v, he, H⟩ => by
    obtain ⟨g, k, rfl⟩ := ownsRow_succ H.out.1
    exact ⟨g, k, he, (own_blkO H.out.1 (g := g) rfl).2.1, (own_blkO H.out.1 (g := g) rfl).2.2, H.out.1, RdPl.of_row H.out.1 hpl, H.out.2⟩
  have CR : Hid (∀ X, Calls Tryd.prog 12 #[.string prompt, .string text, .int .i64 W0] X fun e Y => ∃ g k, e = .returned (.slice (some ⟨g, 0, none⟩) (N + 1) k) ∧ Hid (g < Y.heap.size ∧ RdPl Y (.slice (some ⟨g, 0, none⟩) (N + 1) k) ps ∧ Below X.heap.size X Y)) := fun X => (CR0 X).mono fun e Y ⟨v, he, H⟩ => by
    obtain ⟨g, k, rfl⟩ := ownsRow_succ H.out.1
    exact ⟨g, k, he, (own_blkO H.out.1 (g := g) rfl).2.2, RdPl.of_row H.out.1 hpl, H.out.2⟩
  have CS : Hid (∀ v1 v2 X, RdPl X v1 ps → RdPl X v2 ps → Calls Tryd.prog 14 #[v1, v2] X fun e Y => e = .returned (.bool true) ∧ Hid (Below X.heap.size X Y)) := fun v1 v2 X h1 h2 => rsp_yes ps (by omega) X h1 h2
  -- reading what was not written to
  have HRK : Hid (∀ (V Y : World) (gl g n k : Nat), g < V.heap.size → g ≠ gl → (∀ k, k < V.heap.size → k ≠ gl → Y.heap[k]? = V.heap[k]?) → RdPl V (.slice (some ⟨g, 0, none⟩) n k) ps → RdPl Y (.slice (some ⟨g, 0, none⟩) n k) ps) := fun V Y gl g n k hg hne hk ⟨a, c, e, h⟩ => by
    refine ⟨a, c, e, fun j x hj => ?_⟩
    obtain ⟨g', e', c0, c1⟩ := h j x hj
    obtain ⟨e1, -, -⟩ := Value.slice.inj e
    rw [← e1] at e'
    obtain rfl : g = g' := by cases e'; rfl
    exact ⟨g, e1.symm.trans e' |>.trans rfl, (World.cell?_of_block (a := ⟨g, j * 2, none⟩) (hk g hg hne)).trans c0, (World.cell?_of_block (a := ⟨g, j * 2 + 1, none⟩) (hk g hg hne)).trans c1⟩
  have HB0 : Hid (Below w.heap.size w (w.alloc (.cells #[.string prompt, .string text, .int .i64 cur, .int .i64 W0] 25)) ∧ (w.alloc (.cells #[.string prompt, .string text, .int .i64 cur, .int .i64 W0] 25)).heap[w.heap.size]? = some (.cells #[.string prompt, .string text, .int .i64 cur, .int .i64 W0] 25 (0, 0))) := ⟨(Below.refl _ w).alloc (Nat.le_refl _) _, World.alloc_heap_new _ _⟩
  have HT : Hid (∀ X Y : World, Below w.heap.size w X ∧ X.heap[w.heap.size]? = some (.cells #[.string prompt, .string text, .int .i64 cur, .int .i64 W0] 25 (0, 0)) → Below X.heap.size X Y → Below w.heap.size w Y ∧ Y.heap[w.heap.size]? = some (.cells #[.string prompt, .string text, .int .i64 cur, .int .i64 W0] 25 (0, 0))) := fun X Y hX hY => ⟨hX.1.trans (hY.mono hX.1.size), (hY.block _ (Array.getElem?_eq_some_iff.1 hX.2).1).trans hX.2⟩
  have HNN : Hid (N ≤ 1048576) := by show N ≤ _; omega
  clear hM hT hW hN tb hp ht hlo0 hlo1 CP0 CR0 hpl hNs
  go_enter Tryd.func4, Tryd.ntmps4
  go_upto_region 3 with (go_at_call 7; refine (CA.out _ HB0.out.1).mono ?_; clear CA; rintro e w1 ⟨rfl, HB1⟩; have HX1 := HT.out _ w1 HB0.out HB1.out; obtain ⟨⟨x0, x1, x2, x3⟩, -⟩ := box4 HX1.2; replace HX1 : Hid _ := HX1)
  go_upto_region 4 with (go_at_call 12; refine (CR.out _).mono ?_; clear CR x0 x1 x2 x3; rintro e w2 ⟨gw, kw, rfl, HR⟩; have HX2 := HT.out _ w2 HX1.out HR.out.2.2; obtain ⟨⟨x0, x1, x2, x3⟩, -⟩ := box4 HX2.2; replace HX2 : Hid _ := HX2)
  go_upto_region 5 with (go_at_call 13; refine (CP.out _ HX2.out.1).mono ?_; clear x0 x1 x2 x3; rintro e w3 ⟨gl, kl, rfl, HL⟩; have HX3 := HT.out _ w3 HX2.out HL.out.2.2.2.2; obtain ⟨⟨x0, x1, x2, x3⟩, -⟩ := box4 HX3.2; replace HX3 : Hid _ := HX3)
  go_upto_region 6 with (go_at_call 13; refine (CP.out _ HX3.out.1).mono ?_; clear x0 x1 x2 x3; rintro e w4 ⟨gm, km, rfl, HMm⟩; have HX4 := HT.out _ w4 HX3.out HMm.out.2.2.2.2; replace HX4 : Hid _ := HX4)
  have HR4 : Hid (RdPl w4 (.slice (some ⟨gw, 0, none⟩) (N + 1) kw) ps ∧ RdPl w4 (.slice (some ⟨gl, 0, none⟩) (N + 1) kl) ps ∧ RdPl w4 (.slice (some ⟨gm, 0, none⟩) (N + 1) km) ps) := ⟨(HR.out.2.1.below HL.out.2.2.2.2).below HMm.out.2.2.2.2, HL.out.2.2.2.1.below HMm.out.2.2.2.2, HMm.out.2.2.2.1⟩
  have HG : Hid (w.heap.size < gl ∧ gl < gm ∧ gw < gl ∧ gm < w4.heap.size ∧ w4.ownsRow w.heap.size 28 2 (.slice (some ⟨gl, 0, none⟩) (N + 1) kl) (N + 1) (pcs ps)) := ⟨Nat.lt_of_lt_of_le (Array.getElem?_eq_some_iff.1 HX2.out.2).1 HL.out.1, Nat.lt_of_lt_of_le HL.out.2.1 HMm.out.1, Nat.lt_of_lt_of_le HR.out.1 HL.out.1, HMm.out.2.1, own_lower (own_nextO HL.out.2.2.1 HMm.out.2.2.2.2) HX2.out.1.size⟩
  clear HR HL HMm HX1 HX2 HX3 HB1 HB0
  go_wp2_with (go_at_call 14; refine (CS.out _ _ _ HR4.out.2.1 HR4.out.1).mono ?_; rintro e V ⟨rfl, HV⟩)
  have HXV : Hid (Below w.heap.size w V ∧ V.heap[w.heap.size]? = some (.cells #[.string prompt, .string text, .int .i64 cur, .int .i64 W0] 25 (0, 0))) := HT.out _ V HX4.out HV.out
  have HRV : Hid (RdPl V (.slice (some ⟨gw, 0, none⟩) (N + 1) kw) ps ∧ RdPl V (.slice (some ⟨gm, 0, none⟩) (N + 1) km) ps ∧ gw < V.heap.size ∧ gm < V.heap.size ∧ gw ≠ gl ∧ gm ≠ gl ∧ w.heap.size < gl) := ⟨HR4.out.1.below HV.out, HR4.out.2.2.below HV.out, by have := HG.out; have := HV.out.size; omega, by have := HG.out; have := HV.out.size; omega, by have := HG.out; omega, by have := HG.out; omega, HG.out.1⟩
  have HS0 : Hid (Sx w V gl (N + 1) (.slice (some ⟨gl, 0, none⟩) (N + 1) kl) V) := ⟨HXV.out.1, Nat.le_refl _, fun _ _ _ => rfl, ⟨_, own_nextO HG.out.2.2.2.2 HV.out⟩, fun g e => by cases e; exact .inl rfl⟩
  clear HR4 HG HV HX4
  go_loopw [6] (fun t6 wr => ∃ i : Nat, i ≤ N + 1 ∧ t6 = .int .i64 i ∧ Hid (Sx w V gl (N + 1) (.slice (some ⟨gl, 0, none⟩) (N + 1) kl) wr)) (fun t6 _ => N + 1 - (intOf t6).toNat)
  case atStart => exact ⟨0, Nat.zero_le _, rfl, HS0⟩
  case round =>
    obtain ⟨i, hi, rfl, HS⟩ := hrel
    clear HS0
    by_cases hlt : i < N + 1
    · obtain ⟨u0, u1, c0, c1, f0, f1⟩ := HS.out.cells hlt
      have HS2 : Hid (Sx w V gl (N + 1) (.slice (some ⟨gl, 0, none⟩) (N + 1) kl) ((wr.setCell ⟨gl, i * 2, none⟩ (.int .i64 (-1))).setCell ⟨gl, i * 2 + 1, none⟩ (.int .i64 0))) := HS.out.put (by have := HRV.out; omega) _ _
      have hib : i < 4294967296 := by have := HNN.out; omega
      clear HS
      go_wp2
      exact ⟨⟨i + 1, by omega, by go_num, HS2⟩, by simp [intOf]; omega⟩
    · clear hi
      go_wp2
      go_loopw [4, 7] (fun t4 t7 wr => ∃ j : Nat, j ≤ 9 ∧ t7 = .int .i64 j ∧ Hid (Sx w V gl (N + 1 + j) t4 wr)) (fun _ t7 _ => 9 - (intOf t7).toNat)
      case atStart => exact ⟨0, by omega, rfl, HS⟩
      case round =>
        obtain ⟨j, hj, rfl, HS3⟩ := hrel
        clear HS
        by_cases hlt : j < 9
        · obtain ⟨v3, w6, hrun, hS4⟩ := HS3.out.app (.int .i64 (-2)) (.int .i64 0) rfl rfl (by have := HNN.out; omega)
          have HS4 : Hid (Sx w V gl (N + 1 + j + 1) v3 w6) := hS4
          clear hS4 HS3
          go_wp2_with (at_builtin; refine Lib.wpList_append_run _ rfl _ _ 35 35 rfl _ _ rfl rfl _ w6 hrun ?_; clear hrun)
          exact ⟨⟨j + 1, by omega, by go_num, HS4⟩, by simp [intOf]; omega⟩
        · have HQ : Hid (RdPl wr (.slice (some ⟨gm, 0, none⟩) (N + 1) km) ps ∧ RdPl wr (.slice (some ⟨gw, 0, none⟩) (N + 1) kw) ps ∧ Below w.heap.size w wr ∧ wr.heap[w.heap.size]? = some (.cells #[.string prompt, .string text, .int .i64 cur, .int .i64 W0] 25 (0, 0))) := ⟨HRK.out V wr gl gm _ _ HRV.out.2.2.2.1 HRV.out.2.2.2.2.2.1 HS3.out.keep HRV.out.2.1, HRK.out V wr gl gw _ _ HRV.out.2.2.1 HRV.out.2.2.2.2.1 HS3.out.keep HRV.out.1, HS3.out.bel, (HS3.out.keep _ (Array.getElem?_eq_some_iff.1 HXV.out.2).1 (by have := HRV.out; omega)).trans HXV.out.2⟩
          clear HS3 HXV HRV HRK hj
          go_wp2_with (first | (go_at_call 14; first | (refine (CS.out _ _ _ HQ.out.1 HQ.out.2.1).mono ?_; rintro e w7 ⟨rfl, HB7⟩; have HX7 := HT.out _ w7 HQ.out.2.2 HB7.out; obtain ⟨⟨x0, x1, x2, x3⟩, -⟩ := box4 HX7.2; have HW7 : Hid (RdPl w7 (.slice (some ⟨gw, 0, none⟩) (N + 1) kw) ps) := HQ.out.2.1.below HB7.out; replace HX7 : Hid _ := HX7; clear HQ HB7) | (refine (CS.out _ _ _ HL8.out.2.2.2.1 HW8.out).mono ?_; rintro e w9 ⟨rfl, HB9⟩)) | (go_at_call 13; refine (CP.out _ HX7.out.1).mono ?_; clear x0 x1 x2 x3; rintro e w8 ⟨g8, k8, rfl, HL8⟩; have HW8 : Hid (RdPl w8 (.slice (some ⟨gw, 0, none⟩) (N + 1) kw) ps) := HW7.out.below HL8.out.2.2.2.2; clear HW7))
          go_ret
          exact ⟨rfl, ((HX7.out.1.trans (HL8.out.2.2.2.2.mono HX7.out.1.size)).trans (HB9.out.mono (HX7.out.1.trans (HL8.out.2.2.2.2.mono HX7.out.1.size)).size))⟩
theorem walk_of {H : Type} {d : DataW H} (a : Akf) (w : World) (hT : Lib.Utf8Tabs 0 1 w) (hlo0 : 0 < w.heap.size) (hlo1 : 1 < w.heap.size) (hx : a.p.size + a.t.size ≤ Rows.uptoBulk d) (hk : Rows.uptoSmall H ([d] ++ []) = true) :
    Calls Tryd.prog 4 #[akfv a] w fun e w' => e = .returned (.bool true) ∧ Below w.heap.size w w' := by
  have h : Rows.uptoBulkAll ([d] ++ []) ≤ 1048576 := of_decide_eq_true hk
  simp only [List.append_nil, Rows.uptoBulkAll] at h
  exact walk (by kernel_rfl) a.p a.t a.c a.w (by omega) (by omega) w hT hlo0 hlo1
end Go.Proofs.YtfjoklbiocniiaaDoor.layoutPlaces
