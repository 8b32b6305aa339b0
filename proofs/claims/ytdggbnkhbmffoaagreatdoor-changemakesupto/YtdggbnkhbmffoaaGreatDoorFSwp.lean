/-
  Package change's swap. Conditions: those of each theorem.
-/
import Derived.Test.YtdggbnkhbmffoaaGreatDoorFBas
import Derived.Test.YtdggbnkhbmffoaaGreatDoorUThenC
import Derived.BigQuiet
namespace Go.Proofs.YtdggbnkhbmffoaaGreatDoor
open Go.RowKit Go.Shelf Go.Sort Bod Wid Go.Lib

theorem block_cell {W : World} {p : Addr} {v : Value} (h : W.cell? p = some v) : p.block < W.heap.size := by
  unfold World.cell? at h
  cases ho : W.heap[p.block]? with
  | none => simp [ho] at h
  | some o => exact (Array.getElem?_eq_some_iff.1 ho).1
theorem cell_rgw {W : World} {p : Addr} {v : Value} (h : W.cell? p = some v) : ∀ d os, (grow (redrawn W d) os).cell? p = some v := fun d os => ((below_regrown W d os).cell (p := p) (block_cell h)).trans h
theorem call_rgw {f : Nat} {args : Array Value} {v : Value} {W : World} (h : ∀ w, Below W.heap.size W w → Calls Tryz.prog f args w fun e w' => e = .returned v ∧ Below w.heap.size w w') :
    ∀ d os, Calls Tryz.prog f args (grow (redrawn W d) os) fun e w'' => e = .returned v ∧ ∃ p : Regrown, w'' = grow (redrawn W p.d) p.os := fun d os => Calls.regrown_of (h _ (below_regrown W d os))
/-- what lies where in swap: the scene, two spans, the answer's box -/
structure Sw (w : World) (s : ByteArray) (a : Nat) (r : Int) (n v1 v2 x1 x2 : Nat) (W : World) : Prop where
  bel : Below w.heap.size w W
  sc : W.heap[w.heap.size]? = some (.cells #[.string s, .int .i64 a, .int .i64 r, .int .i64 n] 50 (0, 0))
  va : W.heap[w.heap.size + 1]? = some (.cells #[.int .i64 v1, .int .i64 v2] 53 (0, 0))
  xa : W.heap[w.heap.size + 1 + 1]? = some (.cells #[.int .i64 x1, .int .i64 x2] 53 (0, 0))
  rs : W.heap[w.heap.size + 1 + 1 + 1]? = some (.cells #[.int .i64 0, .int .i64 0, .string ⟨#[]⟩, .int .i64 0, .string ⟨#[]⟩, .bool false] 29 (0, 0))
theorem sw0 (w : World) (s : ByteArray) (a : Nat) (r : Int) (n v1 v2 x1 x2 : Nat) : Sw w s a r n v1 v2 x1 x2 ((((w.alloc (.cells #[.string s, .int .i64 a, .int .i64 r, .int .i64 n] 50)).alloc (.cells #[.int .i64 v1, .int .i64 v2] 53)).alloc (.cells #[.int .i64 x1, .int .i64 x2] 53)).alloc (.cells #[.int .i64 0, .int .i64 0, .string ⟨#[]⟩, .int .i64 0, .string ⟨#[]⟩, .bool false] 29)) := by
  obtain ⟨p0, p1, p2, p3⟩ := push4 w.heap (.cells #[.string s, .int .i64 a, .int .i64 r, .int .i64 n] 50) (.cells #[.int .i64 v1, .int .i64 v2] 53) (.cells #[.int .i64 x1, .int .i64 x2] 53) (.cells #[.int .i64 0, .int .i64 0, .string ⟨#[]⟩, .int .i64 0, .string ⟨#[]⟩, .bool false] 29)
  exact ⟨((((Below.refl _ w).alloc (Nat.le_refl _) _).alloc (by simp) _).alloc (by simp; omega) _).alloc (by simp; omega) _, p0, p1, p2, p3⟩
theorem Sw.below {w W X : World} {s : ByteArray} {a n v1 v2 x1 x2 : Nat} {r : Int} (h : Sw w s a r n v1 v2 x1 x2 W) (hb : Below W.heap.size W X) : Sw w s a r n v1 v2 x1 x2 X :=
  ⟨below_on h.bel hb, (hb.block _ (Array.getElem?_eq_some_iff.1 h.sc).1).trans h.sc, (hb.block _ (Array.getElem?_eq_some_iff.1 h.va).1).trans h.va, (hb.block _ (Array.getElem?_eq_some_iff.1 h.xa).1).trans h.xa, (hb.block _ (Array.getElem?_eq_some_iff.1 h.rs).1).trans h.rs⟩
theorem box2' {W : World} {b : Nat} {v0 v1 : Value} {t : TypeId} (h : W.heap[b]? = some (.cells #[v0, v1] t (0, 0))) : W.cell? ⟨b, 0, none⟩ = some v0 ∧ W.cell? ⟨b, 1, none⟩ = some v1 := by simp [World.cell?, h]
set_option maxRecDepth 100000 in
set_option maxHeartbeats 2000000 in
theorem swap_any (hM : Tryz.prog.follows .mixedOrders = true) (w : World) (s : ByteArray) (a : Nat) (r : Int) (n : Nat) (v x : Nat × Nat) (hs : s.size ≤ 1099511627776) (h1 : v.1 ≤ v.2) (h2 : v.2 ≤ x.1) (h3 : x.1 ≤ x.2) (h4 : x.2 ≤ s.size) :
    Calls Tryz.prog 80 #[scv s a r n, .agg #[.int .i64 v.1, .int .i64 v.2], .agg #[.int .i64 x.1, .int .i64 x.2]] w fun e W' => e = .returned (.agg (chc (swapP s v x))) ∧ Below w.heap.size w W' := by
  obtain ⟨v1, v2⟩ := v
  obtain ⟨x1, x2⟩ := x
  simp only at h1 h2 h3 h4 ⊢
  unfold scv swapP swp
  simp only
  have l1 := size_extract s x1 x2 h4
  have l2 := size_extract s v2 x1 (by omega)
  have l3 := size_extract s v1 v2 (by omega)
  have l4 : (s.extract x1 x2 ++ s.extract v2 x1).size = x2 - v2 := by rw [size_app]; omega
  have l5 : (s.extract x1 x2 ++ s.extract v2 x1 ++ s.extract v1 v2).size = x2 - v1 := by rw [size_app]; omega
  have HM : Hid (Tryz.prog.follows .mixedOrders = true) := hM
  have HW0 : Hid (Sw w s a r n v1 v2 x1 x2 ((((w.alloc (.cells #[.string s, .int .i64 a, .int .i64 r, .int .i64 n] 50)).alloc (.cells #[.int .i64 v1, .int .i64 v2] 53)).alloc (.cells #[.int .i64 x1, .int .i64 x2] 53)).alloc (.cells #[.int .i64 0, .int .i64 0, .string ⟨#[]⟩, .int .i64 0, .string ⟨#[]⟩, .bool false] 29))) := sw0 w s a r n v1 v2 x1 x2
  clear hM
  go_enter Tryz.func80, Tryz.ntmps80
  go_wp2
  generalize (((w.alloc (.cells #[.string s, .int .i64 a, .int .i64 r, .int .i64 n] 50)).alloc (.cells #[.int .i64 v1, .int .i64 v2] 53)).alloc (.cells #[.int .i64 x1, .int .i64 x2] 53)).alloc (.cells #[.int .i64 0, .int .i64 0, .string ⟨#[]⟩, .int .i64 0, .string ⟨#[]⟩, .bool false] 29) = W0 at HW0 ⊢
  obtain ⟨⟨c0, c1, c2, c3⟩, -⟩ := box4 HW0.out.sc
  obtain ⟨c4, c5⟩ := box2' HW0.out.va
  obtain ⟨c6, c7⟩ := box2' HW0.out.xa
  have d0 := cell_rgw c0
  have d4 := cell_rgw c4
  have d5 := cell_rgw c5
  have d6 := cell_rgw c6
  have d7 := cell_rgw c7
  have cP := call_rgw (W := W0) (f := 83) (args := #[.int .i64 v1, .int .i64 x2, .string (s.extract x1 x2 ++ s.extract v2 x1 ++ s.extract v1 v2)]) (v := .agg #[.int .i64 v1, .int .i64 (x2 - v1 : Nat), .string (s.extract x1 x2 ++ s.extract v2 x1 ++ s.extract v1 v2), .int .i64 x2, .string ⟨#[]⟩, .bool false]) (fun W _ => (put_any W v1 x2 _ (by omega) (by omega) (by rw [l5]; omega)).mono fun e W' ⟨q1, q2⟩ => ⟨by rw [q1, l5, show v1 + (x2 - v1) = x2 by omega]; rfl, q2⟩)
  clear c0 c1 c2 c3 c4 c5 c6 c7
  refine region_then_below HM.out (by kernel_rfl) (by kernel_rfl) (by kernel_rfl) rfl rfl ?_
  dsimp only [List.dropLast, List.getLast]
  repeat (go_big_quiet_step (exact cP _ _))
  refine wpQuiet_nil ?_
  intro _ hw'
  obtain ⟨⟨dq, osq⟩, hw''⟩ := hw'
  subst hw''
  have HX : Hid (Sw w s a r n v1 v2 x1 x2 (grow (redrawn W0 dq) osq)) := HW0.out.below (below_regrown W0 dq osq)
  simp only at HX ⊢
  generalize grow (redrawn W0 dq) osq = W1 at HX ⊢
  clear d0 d4 d5 d6 d7 cP HW0
  obtain ⟨⟨z0, z1, z2, z3, z4, z5⟩, f0, f1, f2, f3, f4, f5, hl⟩ := cbox HX.out.rs
  refine .inr ⟨(((((W1.setCell ⟨w.heap.size + 1 + 1 + 1, 0, none⟩ (.int .i64 v1)).setCell ⟨w.heap.size + 1 + 1 + 1, 1, none⟩ (.int .i64 (x2 - v1 : Nat))).setCell ⟨w.heap.size + 1 + 1 + 1, 2, none⟩ (.string (s.extract x1 x2 ++ s.extract v2 x1 ++ s.extract v1 v2))).setCell ⟨w.heap.size + 1 + 1 + 1, 3, none⟩ (.int .i64 x2)).setCell ⟨w.heap.size + 1 + 1 + 1, 4, none⟩ (.string ⟨#[]⟩)).setCell ⟨w.heap.size + 1 + 1 + 1, 5, none⟩ (.bool false), ?_, ?_⟩
  · go_simp
  · dsimp only [Act.put]
    obtain ⟨k1, k2⟩ := cset (.int .i64 v1) (.int .i64 (x2 - v1 : Nat)) (.string (s.extract x1 x2 ++ s.extract v2 x1 ++ s.extract v1 v2)) (.int .i64 x2) (.string ⟨#[]⟩) (.bool false) HX.out.bel (by omega) HX.out.rs
    have k3 := (cbox k2).1
    generalize (((((W1.setCell ⟨w.heap.size + 1 + 1 + 1, 0, none⟩ (.int .i64 v1)).setCell ⟨w.heap.size + 1 + 1 + 1, 1, none⟩ (.int .i64 (x2 - v1 : Nat))).setCell ⟨w.heap.size + 1 + 1 + 1, 2, none⟩ (.string (s.extract x1 x2 ++ s.extract v2 x1 ++ s.extract v1 v2))).setCell ⟨w.heap.size + 1 + 1 + 1, 3, none⟩ (.int .i64 x2)).setCell ⟨w.heap.size + 1 + 1 + 1, 4, none⟩ (.string ⟨#[]⟩)).setCell ⟨w.heap.size + 1 + 1 + 1, 5, none⟩ (.bool false) = W2 at k1 k3 ⊢
    clear k2 z0 z1 z2 z3 z4 z5 f0 f1 f2 f3 f4 f5 hl HX
    have HK : Hid (Below w.heap.size w W2) := k1
    clear k1
    obtain ⟨y0, y1, y2, y3, y4, y5⟩ := k3
    go_wp2
    exact bodyPost_ret (v := .agg (chc ⟨v1, x2 - v1, s.extract x1 x2 ++ s.extract v2 x1 ++ s.extract v1 v2, x2, ⟨#[]⟩, false⟩)) (by simp [results, Tryz.results80, go_sem, chc, y0, y1, y2, y3, y4, y5]) rfl ⟨rfl, HK.out⟩
end Go.Proofs.YtdggbnkhbmffoaaGreatDoor
