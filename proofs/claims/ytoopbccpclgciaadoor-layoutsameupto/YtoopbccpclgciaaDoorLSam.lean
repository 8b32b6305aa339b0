/-
  The walk of the law LayoutSame: the program's Same of any two frames is the document's. Conditions: those of walk_of.
-/
import Derived.Deep.CutRange
import Derived.Test.YtoopbccpclgciaaDoorOAwk
import Derived.Test.YtoopbccpclgciaaDoorOSmd
namespace Go.Proofs.YtoopbccpclgciaaDoor.layoutSame
open Go.RowKit Go.Shelf Bod Wid
theorem cell_rgO {W : World} {p : Addr} {v : Value} (h : W.cell? p = some v) : ∀ d os, (Go.Sort.grow (redrawn W d) os).cell? p = some v := fun d os => ((below_regrown W d os).cell (p := p) (World.block_lt_of_cell? W p h)).trans h
theorem call_rgO {f : Nat} {args : Array Value} {v : Value} {W : World} (h : ∀ w, Below W.heap.size W w → Calls Tryd.prog f args w fun e w' => e = .returned v ∧ Below w.heap.size w w') :
    ∀ d os, Calls Tryd.prog f args (Go.Sort.grow (redrawn W d) os) fun e w'' => e = .returned v ∧ ∃ p : Regrown, w'' = Go.Sort.grow (redrawn W p.d) p.os := fun d os => Calls.regrown_of (h _ (below_regrown W d os))
set_option maxRecDepth 100000 in
set_option maxHeartbeats 4000000 in
theorem walk (hM : Tryd.prog.follows .mixedOrders = true) (v1 v2 : Value) (f g : Fm) (hf : Fsz f) (hg : Fsz g) (w : World) (hT : Lib.Utf8Tabs 0 1 w) (hlo0 : 0 < w.heap.size) (hlo1 : 1 < w.heap.size) (h1 : RdFm w v1 f) (h2 : RdFm w v2 g) :
    Calls Tryd.prog 5 #[v1, v2] w fun e w' => e = .returned (.bool true) ∧ Below w.heap.size w w' := by
  have kp : ∀ {X : World} {v : Value} {f : Fm}, Below w.heap.size w X → RdFm w v f → RdFm X v f := fun hX h => h.below (Nat.le_refl _) hX
  have CA : Hid (∀ X, Below w.heap.size w X → Calls Tryd.prog 9 #[] X fun e w' => e = .returned (.bool true) ∧ Hid (Below X.heap.size X w')) := fun X hX => awk_any hM X (tabs_below hT hX) (Nat.lt_of_lt_of_le hlo0 hX.size) (Nat.lt_of_lt_of_le hlo1 hX.size)
  have CP : Hid (∀ v, v = v1 ∨ v = v2 → ∀ X, Below w.heap.size w X → Calls Tryd.prog 17 #[v, v] X fun e w' => e = .returned (.bool true) ∧ Hid (Below X.heap.size X w')) := fun v hv X hX => by
    rcases hv with rfl | rfl
    · have := psmf_any f f hf hf X (kp hX h1) (kp hX h1); rw [fmE_self] at this; exact this
    · have := psmf_any g g hg hg X (kp hX h2) (kp hX h2); rw [fmE_self] at this; exact this
  have P12 : Hid (∀ X, Below w.heap.size w X → Calls Tryd.prog 17 #[v1, v2] X fun e w' => e = .returned (.bool (fmE f g)) ∧ Below X.heap.size X w') := fun X hX => psmf_any f g hf hg X (kp hX h1) (kp hX h2)
  have R12 : Hid (∀ X, Below w.heap.size w X → Calls Tryd.prog 11 #[v1, v2] X fun e w' => e = .returned (.bool (fmE f g)) ∧ Below X.heap.size X w') := fun X hX => rsmf_any f g hf hg X (kp hX h1) (kp hX h2)
  have P21 : Hid (∀ X, Below w.heap.size w X → Calls Tryd.prog 17 #[v2, v1] X fun e w' => e = .returned (.bool (fmE g f)) ∧ Below X.heap.size X w') := fun X hX => psmf_any g f hg hf X (kp hX h2) (kp hX h1)
  have R21 : Hid (∀ X, Below w.heap.size w X → Calls Tryd.prog 11 #[v2, v1] X fun e w' => e = .returned (.bool (fmE g f)) ∧ Below X.heap.size X w') := fun X hX => rsmf_any g f hg hf X (kp hX h2) (kp hX h1)
  obtain ⟨r1, rfl, -⟩ := h1
  obtain ⟨r2, rfl, -⟩ := h2
  generalize fmE f g = p at P12 R12
  generalize fmE g f = q at P21 R21
  obtain ⟨fw, fR, fr, fc⟩ := f
  obtain ⟨gw, gR, gr, gc⟩ := g
  simp only at CA CP P12 R12 P21 R21 ⊢
  have H0 : Hid (Below w.heap.size w ((w.alloc (.cells #[.int .i64 fw, r1, .int .i64 fr, .int .i64 fc] 30)).alloc (.cells #[.int .i64 gw, r2, .int .i64 gr, .int .i64 gc] 30)) ∧ _ ∧ _) := box_pair (w := w) (.cells #[.int .i64 fw, r1, .int .i64 fr, .int .i64 fc] 30) (.cells #[.int .i64 gw, r2, .int .i64 gr, .int .i64 gc] 30)
  have HT : Hid (∀ X Y : World, Below w.heap.size w X ∧ X.heap[w.heap.size]? = some (.cells #[.int .i64 fw, r1, .int .i64 fr, .int .i64 fc] 30 (0, 0)) ∧ X.heap[w.heap.size + 1]? = some (.cells #[.int .i64 gw, r2, .int .i64 gr, .int .i64 gc] 30 (0, 0)) → Below X.heap.size X Y → Below w.heap.size w Y ∧ Y.heap[w.heap.size]? = some (.cells #[.int .i64 fw, r1, .int .i64 fr, .int .i64 fc] 30 (0, 0)) ∧ Y.heap[w.heap.size + 1]? = some (.cells #[.int .i64 gw, r2, .int .i64 gr, .int .i64 gc] 30 (0, 0))) := fun X Y hX hY => ⟨hX.1.trans (hY.mono hX.1.size), (hY.block _ (Array.getElem?_eq_some_iff.1 hX.2.1).1).trans hX.2.1, (hY.block _ (Array.getElem?_eq_some_iff.1 hX.2.2).1).trans hX.2.2⟩
  have HM : Hid (Tryd.prog.follows .mixedOrders = true) := hM
  clear hM hT hlo0 hlo1 kp hf hg
  go_enter Tryd.func5, Tryd.ntmps5
  go_wp2_with (first
    | (go_at_call 9; refine (CA.out _ H0.out.1).mono ?_; clear CA; rintro e w3 ⟨rfl, HB1⟩; have HX3 := HT.out _ w3 H0.out HB1.out; obtain ⟨⟨x0, x1, x2, x3⟩, -⟩ := box4 HX3.2.1; obtain ⟨⟨y0, y1, y2, y3⟩, -⟩ := box4 HX3.2.2; replace HX3 : Hid _ := HX3)
    | (go_at_call 17; refine (CP.out _ (by first | exact .inl rfl | exact .inr rfl) _ HX3.out.1).mono ?_; clear x0 x1 x2 x3 y0 y1 y2 y3; rintro e w3 ⟨rfl, HB2⟩; replace HX3 := HT.out _ w3 HX3.out HB2.out; obtain ⟨⟨x0, x1, x2, x3⟩, -⟩ := box4 HX3.2.1; obtain ⟨⟨y0, y1, y2, y3⟩, -⟩ := box4 HX3.2.2; replace HX3 : Hid _ := HX3))
  clear x0 x1 x2 x3 y0 y1 y2 y3
  obtain ⟨⟨x0, x1, x2, x3⟩, -⟩ := box4 HX3.out.2.1
  obtain ⟨⟨y0, y1, y2, y3⟩, -⟩ := box4 HX3.out.2.2
  have k1 := call_rgO (W := w3) fun X hX => P12.out X (HX3.out.1.trans (hX.mono HX3.out.1.size))
  have k2 := call_rgO (W := w3) fun X hX => R12.out X (HX3.out.1.trans (hX.mono HX3.out.1.size))
  have k3 := call_rgO (W := w3) fun X hX => P21.out X (HX3.out.1.trans (hX.mono HX3.out.1.size))
  have k4 := call_rgO (W := w3) fun X hX => R21.out X (HX3.out.1.trans (hX.mono HX3.out.1.size))
  have r0 := cell_rgO x0
  have r1' := cell_rgO x1
  have r2' := cell_rgO x2
  have r3 := cell_rgO x3
  have s0 := cell_rgO y0
  have s1 := cell_rgO y1
  have s2 := cell_rgO y2
  have s3 := cell_rgO y3
  have HF0 : Hid (∀ dq osq, Below w.heap.size w (Go.Sort.grow (redrawn w3 dq) osq)) := fun dq osq => HX3.out.1.trans ((below_regrown w3 dq osq).mono HX3.out.1.size)
  clear P12 R12 P21 R21 x0 x1 x2 x3 y0 y1 y2 y3
  cases p <;> cases q <;> (
    refine wp_region_quiet_below HM.out (by kernel_rfl) ?_
    iterate 2 (go_big_quiet_step (fail))
    go_big_quiet_step (exact k1 _ _)
    iterate 2 (go_big_quiet_step (fail))
    go_big_quiet_step (exact k2 _ _)
    iterate 4 (go_big_quiet_step (fail))
    go_big_quiet_step (exact k3 _ _)
    iterate 2 (go_big_quiet_step (fail))
    go_big_quiet_step (exact k4 _ _)
    repeat (go_big_quiet_step (fail))
    refine wpQuiet_nil ?_
    intro _ hw'
    obtain ⟨⟨dq, osq⟩, hw''⟩ := hw'
    subst hw''
    have HF := HF0.out dq osq
    dsimp only
    generalize Go.Sort.grow (redrawn w3 dq) osq = wz at HF ⊢
    go_wp2
    go_ret
    exact ⟨rfl, HF⟩)
theorem walk_of {H : Type} {d1 d2 : DataW H} (v1 : Value) (f : Fm) (v2 : Value) (g : Fm) (w : World) (hT : Lib.Utf8Tabs 0 1 w) (hlo0 : 0 < w.heap.size) (hlo1 : 1 < w.heap.size) (h1 : RdFm w v1 f) (hx : fwt f ≤ Rows.uptoBulk d1 ∧ (-9223372036854775808 ≤ f.w ∧ f.w ≤ 9223372036854775807) ∧ (-9223372036854775808 ≤ f.r ∧ f.r ≤ 9223372036854775807) ∧ (-9223372036854775808 ≤ f.c ∧ f.c ≤ 9223372036854775807)) (h2 : RdFm w v2 g) (hy : fwt g ≤ Rows.uptoBulk d2 ∧ (-9223372036854775808 ≤ g.w ∧ g.w ≤ 9223372036854775807) ∧ (-9223372036854775808 ≤ g.r ∧ g.r ≤ 9223372036854775807) ∧ (-9223372036854775808 ≤ g.c ∧ g.c ≤ 9223372036854775807)) (hk : Rows.uptoSmall H ([d1, d2] ++ []) = true) :
    Calls Tryd.prog 5 #[v1, v2] w fun e w' => e = .returned (.bool true) ∧ Below w.heap.size w w' := by
  have h : Rows.uptoBulkAll ([d1, d2] ++ []) ≤ 1048576 := of_decide_eq_true hk
  simp only [List.append_nil, Rows.uptoBulkAll] at h
  have q1 := fwt_len f
  have q2 := fwt_len g
  exact walk (by kernel_rfl) v1 v2 f g ⟨by omega, fun l hl => by have := fwt_mem hl; have := rwt_len l; omega⟩ ⟨by omega, fun l hl => by have := fwt_mem hl; have := rwt_len l; omega⟩ w hT hlo0 hlo1 h1 h2
end Go.Proofs.YtoopbccpclgciaaDoor.layoutSame
