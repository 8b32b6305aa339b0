/-
  What package metric's New answers, text by text. Conditions: those of each theorem.
-/
import Derived.Test.YtplieccalmkloaaGreatDoorNRef
import Derived.Test.YtplieccalmkloaaGreatDoorShelf
import Derived.Deep.RegionWith
import Derived.Deep.RegionHeld3
import Derived.Test.YtplieccalmkloaaGreatDoorXCount
import Derived.Test.YtplieccalmkloaaGreatDoorPkN
namespace Go.Proofs.YtplieccalmkloaaGreatDoor
open Go.RowKit Bod Wid

theorem countByte_nls (s : ByteArray) : Lib.countByte s.data.toList 10 = nls s := by
  unfold nls
  have h : ∀ l : List UInt8, Lib.countByte l 10 = l.countP (· == 10) := fun l => by
    rfl
  exact h _
theorem scount_any (s : ByteArray) (w : World) : Calls Tryz.prog 96 #[.string s, .string ⟨#[10]⟩] w fun e w' => e = .returned (.int .i64 (nls s)) ∧ w = w' :=
  (Tryz.strings_Count_one s 10 w).mono fun _ _ ⟨h1, h2⟩ => ⟨by rw [h1, countByte_nls], h2.symm⟩
theorem hd_min (s : ByteArray) : s.extract 0 (min (s.size : Int) 16).toNat = hd s := by
  unfold hd
  split
  · rw [show (min (s.size : Int) 16).toNat = 16 by omega]
  · rw [show (min (s.size : Int) 16).toNat = s.size by omega]; simp
theorem tl_max (s : ByteArray) : s.extract (max 0 ((s.size : Int) - 16)).toNat s.size = tl s := by
  unfold tl
  split
  · rw [show (max 0 ((s.size : Int) - 16)).toNat = s.size - 16 by omega]
  · rw [show (max 0 ((s.size : Int) - 16)).toNat = 0 by omega]; simp

set_option maxHeartbeats 1000000 in
theorem first_any (s : ByteArray) (w : World) : Calls Tryz.prog 163 #[.string s] w fun e w' => e = .returned (.string (hd s)) ∧ w = w' := by
  rw [← hd_min]
  go_enter Tryz.func163, Tryz.ntmps163
  go_wp2
  go_ret
  exact ⟨rfl, rfl⟩
set_option maxHeartbeats 1000000 in
theorem last_any (s : ByteArray) (hs : s.size ≤ maxLen) (w : World) : Calls Tryz.prog 164 #[.string s] w fun e w' => e = .returned (.string (tl s)) ∧ w = w' := by
  unfold maxLen at hs
  rw [← tl_max]
  go_enter Tryz.func164, Tryz.ntmps164
  go_wp2
  go_ret
  exact ⟨rfl, rfl⟩
/-- the nearest offset -/
def heldOf (s : ByteArray) (i : Int) : Nat := (min (max i 0) s.size).toNat
theorem held_any (s : ByteArray) (i : Int) (w : World) : Calls Tryz.prog 214 #[.string s, .int .i64 i] w fun e w' => e = .returned (.int .i64 (heldOf s i)) ∧ w = w' := by
  have e : ((heldOf s i : Nat) : Int) = min (max i 0) s.size := by unfold heldOf; omega
  rw [e]
  go_enter Tryz.func214, Tryz.ntmps214
  go_wp2
  go_ret
  exact ⟨rfl, rfl⟩
theorem sclone_any (s : ByteArray) (hs : s.size ≤ 281474976710656) (w : World) : Calls Tryz.prog 153 #[.string s] w fun e w' => e = .returned (.string s) ∧ Below w.heap.size w w' := by
  have C := Tryz.stringslite_Clone s w hs
  go_enter Tryz.func153, Tryz.ntmps153
  go_wp2_with (go_at_call 161; refine C.mono ?_; clear C; rintro e w1 ⟨rfl, hb⟩)
  go_ret
  exact ⟨rfl, hb⟩

theorem set7_at {w W : World} {b : Nat} (h : Below w.heap.size w W) (hb : w.heap.size ≤ b) (u0 u1 u2 u3 u4 u5 u6 : Value) : Below w.heap.size w (((((((W.setCell ⟨b, 0, none⟩ u0).setCell ⟨b, 1, none⟩ u1).setCell ⟨b, 2, none⟩ u2).setCell ⟨b, 3, none⟩ u3).setCell ⟨b, 4, none⟩ u4).setCell ⟨b, 5, none⟩ u5).setCell ⟨b, 6, none⟩ u6) :=
  ((((((h.setCell (p := ⟨b, 0, none⟩) hb _).setCell (p := ⟨b, 1, none⟩) hb _).setCell (p := ⟨b, 2, none⟩) hb _).setCell (p := ⟨b, 3, none⟩) hb _).setCell (p := ⟨b, 4, none⟩) hb _).setCell (p := ⟨b, 5, none⟩) hb _).setCell (p := ⟨b, 6, none⟩) hb _
/-- what lies where in owned: the summary and the result -/
structure OW (w : World) (x : Sum) (W : World) : Prop where
  a : W.heap[w.heap.size]? = some (.cells (scs x) 125 (0, 0))
  r : W.heap[w.heap.size + 1]? = some (.cells (scs sm0) 125 (0, 0))
  bel : Below w.heap.size w W
theorem OW.below {w : World} {x : Sum} {W W' : World} (h : OW w x W) (hb : Below W.heap.size W W') : OW w x W' := by
  have kp : ∀ {k : Nat} {o : Obj}, W.heap[k]? = some o → W'.heap[k]? = some o := fun ho => (hb.block _ (Array.getElem?_eq_some_iff.1 ho).1).trans ho
  exact ⟨kp h.a, kp h.r, h.bel.trans (hb.mono h.bel.size)⟩
theorem OW.drew {w : World} {x : Sum} {W : World} (h : OW w x W) : OW w x W.drew := ⟨h.a, h.r, ⟨h.bel.os, h.bel.tape, h.bel.output, h.bel.size, h.bel.block⟩⟩
theorem OW.drawn {w : World} {x : Sum} {W : World} (h : OW w x W.drew) : OW w x W := ⟨h.a, h.r, ⟨h.bel.os, h.bel.tape, h.bel.output, h.bel.size, h.bel.block⟩⟩
theorem OW.cells {w : World} {x : Sum} {W : World} (h : OW w x W) : W.cell? ⟨w.heap.size, 5, none⟩ = some (.string x.hd) ∧ W.cell? ⟨w.heap.size, 6, none⟩ = some (.string x.tl) := by
  obtain ⟨⟨-, -, -, -, -, x5, x6⟩, -⟩ := box7 h.a
  exact ⟨x5, x6⟩
theorem OW.set {w : World} {x : Sum} {W : World} (h : OW w x W) (i : Nat) (v : Value) (hv : (scs x).setIfInBounds i v = scs x) : OW w x (W.setCell ⟨w.heap.size, i, none⟩ v) := by
  have hg := gcell W w.heap.size i v
  exact ⟨by rw [← hv]; exact set1 v h.a, (hg.block _ (Array.getElem?_eq_some_iff.1 h.r).1 (fun e => by have := Option.some.inj e; omega)).trans h.r, h.bel.setCell (p := ⟨w.heap.size, i, none⟩) (Nat.le_refl _) _⟩
theorem OW.set5 {w : World} {x : Sum} {W : World} (h : OW w x W) : OW w x (W.setCell ⟨w.heap.size, 5, none⟩ (.string x.hd)) := h.set 5 _ rfl
theorem OW.set6 {w : World} {x : Sum} {W : World} (h : OW w x W) : OW w x (W.setCell ⟨w.heap.size, 6, none⟩ (.string x.tl)) := h.set 6 _ rfl
set_option maxRecDepth 100000 in
set_option maxHeartbeats 2000000 in
theorem owned_any (x : Sum) (h1 : x.hd.size ≤ 281474976710656) (h2 : x.tl.size ≤ 281474976710656) (w : World) : Calls Tryz.prog 165 #[sv x] w fun e w' => e = .returned (sv x) ∧ Below w.heap.size w w' := by
  have C1 : Hid (∀ W, OW w x W → Calls Tryz.prog 153 #[.string x.hd] W fun e w' => e = .returned (.string x.hd) ∧ OW w x w') := fun W h => (sclone_any x.hd h1 W).mono fun _ _ ⟨e, hb⟩ => ⟨e, h.below hb⟩
  have C2 : Hid (∀ W, OW w x W → Calls Tryz.prog 153 #[.string x.tl] W fun e w' => e = .returned (.string x.tl) ∧ OW w x w') := fun W h => (sclone_any x.tl h2 W).mono fun _ _ ⟨e, hb⟩ => ⟨e, h.below hb⟩
  obtain ⟨W0, hW0⟩ : ∃ W0, (w.alloc (.cells (scs x) 125)).alloc (.cells #[.int .i64 0, .int .i64 0, .int .i64 0, .int .i64 0, .int .i64 0, .string ⟨#[]⟩, .string ⟨#[]⟩] 125) = W0 := ⟨_, rfl⟩
  have HO : Hid (OW w x W0) := by
    obtain ⟨p0, p1⟩ := push2' w.heap (.cells (scs x) 125) (.cells (scs sm0) 125)
    show OW w x W0
    rw [← hW0]
    exact ⟨p0, p1, ((Below.refl _ w).alloc (Nat.le_refl _) _).alloc (by simp) _⟩
  clear h1 h2
  go_enter Tryz.func165, Tryz.ntmps165
  go_wp2
  go_region_held3 (fun w' => w'.cell? ⟨w.heap.size, 5, none⟩ = some (.string x.hd) ∧ w'.cell? ⟨w.heap.size, 6, none⟩ = some (.string x.tl)) (first | exact HO.out.cells | exact HO.out.drew.cells | exact HO.out.set5.cells | exact HO.out.set6.cells | exact HO.out.set5.set6.cells | exact HO.out.set6.set5.cells) (first | (go_at_call 153; refine (C1.out _ HO.out.drew).mono ?_; clear C1; rintro e w1 ⟨rfl, h⟩; have HO1 : Hid (OW w x w1) := h; clear h HO; have HO := HO1; clear HO1) | (go_at_call 153; refine (C1.out _ HO.out).mono ?_; clear C1; rintro e w1 ⟨rfl, h⟩; have HO1 : Hid (OW w x w1) := h; clear h HO; have HO := HO1; clear HO1) | (go_at_call 153; refine (C2.out _ HO.out).mono ?_; clear C2; rintro e w2 ⟨rfl, h⟩; have HO1 : Hid (OW w x w2) := h; clear h HO; have HO := HO1; clear HO1; obtain ⟨⟨x0, x1, x2, x3, x4, x5, x6⟩, g0, g1, g2, g3, g4, g5, g6⟩ := box7 HO.out.a; obtain ⟨⟨z0, z1, z2, z3, z4, z5, z6⟩, f0, f1, f2, f3, f4, f5, f6⟩ := box7 HO.out.r))
  obtain ⟨W3, hW3⟩ : ∃ W3, (w2.setCell ⟨w.heap.size, 5, none⟩ (.string x.hd)).setCell ⟨w.heap.size, 6, none⟩ (.string x.tl) = W3 := ⟨_, rfl⟩
  have HO3 : Hid (OW w x W3) := by show OW _ _ _; rw [← hW3]; exact HO.out.set5.set6
  clear x0 x1 x2 x3 x4 x5 x6 g0 g1 g2 g3 g4 g5 g6 z0 z1 z2 z3 z4 z5 z6 f0 f1 f2 f3 f4 f5 f6 HO hW0
  rw [hW3]
  clear hW3
  obtain ⟨⟨x0, x1, x2, x3, x4, x5, x6⟩, -⟩ := box7 HO3.out.a
  obtain ⟨⟨z0, z1, z2, z3, z4, z5, z6⟩, f0, f1, f2, f3, f4, f5, f6⟩ := box7 HO3.out.r
  have hl : w.heap.size + 1 < W3.heap.size := (Array.getElem?_eq_some_iff.1 HO3.out.r).1
  go_wp2
  exact bodyPost_ret (v := sv x) (by simp [results, Tryz.results165, go_sem, z0, z1, z2, z3, z4, z5, z6]) rfl ⟨rfl, set7_at HO3.out.bel (by omega) _ _ _ _ _ _ _⟩

end Go.Proofs.YtplieccalmkloaaGreatDoor
namespace Go.Proofs.YtplieccalmkloaaGreatDoor
open Go.RowKit Go.Shelf Bod Wid
attribute [local go_sem] Oper.semAt_some

theorem set7_grown (W : World) (b : Nat) (u0 u1 u2 u3 u4 u5 u6 : Value) : W.grownBy (((((((W.setCell ⟨b, 0, none⟩ u0).setCell ⟨b, 1, none⟩ u1).setCell ⟨b, 2, none⟩ u2).setCell ⟨b, 3, none⟩ u3).setCell ⟨b, 4, none⟩ u4).setCell ⟨b, 5, none⟩ u5).setCell ⟨b, 6, none⟩ u6) (some b) :=
  grown2 (grown2 (grown2 (grown2 (grown2 (grown2 (gcell W b 0 u0) (gcell _ _ 1 u1)) (gcell _ _ 2 u2)) (gcell _ _ 3 u3)) (gcell _ _ 4 u4)) (gcell _ _ 5 u5)) (gcell _ _ 6 u6)
/-- the summary of a text without its ends -/
def smc (s : ByteArray) : Sum := ⟨s.size, kU.of s, kC.of s, kN.of s, nls s, ⟨#[]⟩, ⟨#[]⟩⟩
set_option maxRecDepth 100000 in
set_option maxHeartbeats 2000000 in
theorem counted_in (n : Nat) (hn : 5 ≤ n) (s : ByteArray) (hs : s.size ≤ maxLen) (hm : s.size ≤ 2305843009213693951) (w : World) (hT : Lib.Utf8Tabs 0 1 w) (_hlo0 : 0 < w.heap.size) (hlo1 : 1 < w.heap.size) :
    CallsIn Fence.wide n Tryz.prog 162 #[.string s] w fun e W' => e = .returned (sv (smc s)) ∧ Below w.heap.size w W' := by
  have h1 : 1 ≤ n := by omega
  obtain ⟨u, hu⟩ : ∃ u, ((offs s 0).length : Int) = u := ⟨_, rfl⟩
  obtain ⟨c, hc⟩ : ∃ c, (nls s : Int) = c := ⟨_, rfl⟩
  have HE : Hid (sv (smc s) = .agg #[.int .i64 s.size, .int .i64 u, .int .i64 (cl s).length, .int .i64 (sumN (cl s)), .int .i64 c, .string ⟨#[]⟩, .string ⟨#[]⟩]) := by
    show sv (smc s) = _
    unfold smc sv
    rw [kU_of, kC_of, kN_of, hu, hc]
  obtain ⟨W0, hW0⟩ : ∃ W0, w.alloc (.cells #[.int .i64 0, .int .i64 0, .int .i64 0, .int .i64 0, .int .i64 0, .string ⟨#[]⟩, .string ⟨#[]⟩] 125) = W0 := ⟨_, rfl⟩
  have hb0 : Below w.heap.size w W0 := by rw [← hW0]; exact (Below.refl _ w).alloc (Nat.le_refl _) _
  have hz0 : W0.heap.size = w.heap.size + 1 := by rw [← hW0]; simp
  have r0 : W0.heap[w.heap.size]? = some (.cells (scs sm0) 125 (0, 0)) := by rw [← hW0]; exact World.alloc_heap_new w _
  have CU : Calls Tryz.prog 169 #[.string s] W0 fun e W' => e = .returned (.int .i64 u) ∧ Below W0.heap.size W0 W' := by rw [← hu]; exact ucount_any s hs W0 (tabs_below hT hb0) (by omega) (by omega)
  have CS : ∀ W, Calls Tryz.prog 96 #[.string s, .string ⟨#[10]⟩] W fun e W' => e = .returned (.int .i64 c) ∧ W = W' := fun W => by rw [← hc]; exact scount_any s W
  clear hu hc
  refine callsIn_of_wp_marks Tryz.func162 rfl trivial ?_ rfl
  simp only [Tryz.ntmps162, List.size_toArray, List.length_cons, List.length_nil, Nat.reduceAdd, Nat.reduceSub, Array.replicate_succ, Array.replicate_zero, List.push_toArray, List.append_toArray, List.nil_append, List.cons_append]
  gi_wp2_with (first | (refine ⟨trivial, ?_⟩; gi_at_call 169; refine (callsIn_wide.2 CU).mono ?_; clear CU; rintro e w1 ⟨rfl, hb1⟩) | (refine ⟨trivial, ?_⟩; gi_at_call 96; refine (callsIn_wide.2 (CS _)).mono ?_; clear CS; rintro e w' ⟨rfl, rfl⟩) | (refine ⟨trivial, ?_⟩; gi_at_call 26; refine (walk_in (n - 1) _ _).mono ?_; rintro e w' ⟨rfl, rfl⟩))
  obtain ⟨b, hb⟩ : ∃ b, w1.heap.size = b := ⟨_, rfl⟩
  obtain ⟨W2, hW2⟩ : ∃ W2, (w1.alloc (.cells #[.int .i64 s.size, .int .i64 u, .int .i64 0, .int .i64 0, .int .i64 c, .string ⟨#[]⟩, .string ⟨#[]⟩] 125)).alloc (.cells #[.string s] 9) = W2 := ⟨_, rfl⟩
  rw [hW2, hb]
  obtain ⟨p0, p1⟩ : W2.heap[b]? = some (.cells #[.int .i64 s.size, .int .i64 u, .int .i64 0, .int .i64 0, .int .i64 c, .string ⟨#[]⟩, .string ⟨#[]⟩] 125 (0, 0)) ∧ W2.heap[b + 1]? = some (.cells #[.string s] 9 (0, 0)) := by rw [← hW2, ← hb]; exact push2 w1.heap _ _
  have hB1 : Below w.heap.size w w1 := hb0.trans (hb1.mono hb0.size)
  have hB0 : Below w.heap.size w W2 := by rw [← hW2]; exact (hB1.alloc hB1.size _).alloc (by have := hB1.size; simp; omega) _
  have hsz : W2.heap.size = b + 2 := by rw [← hW2, ← hb]; simp
  have hbw : w.heap.size < b := by have := hb1.size; omega
  have r2 : W2.heap[w.heap.size]? = some (.cells (scs sm0) 125 (0, 0)) := by
    rw [← hW2, Below.heap_alloc _ _ _ (by simp; omega), Below.heap_alloc _ _ _ (by omega), hb1.block _ (by omega)]
    exact r0
  clear hW2 hb r0 hW0 hb0 hb1 hz0 hB1
  refine act_name' fun A hA => ?_
  refine range_own rfl h1 (gf := 51) (lb := #[.pointer (some ⟨b + 1, 0, none⟩)]) (by rw [hA]; rfl) trivial (enters_of Tryz.func51 (by kernel_rfl) rfl)
    (clu_seq (n - 1) (by omega) (b + 1) (W2.heap.size + 2) (fun k _ => k = b) s hs (fun _ h => by omega) (fun _ h => by omega) (fun _ h => by omega) (fun k _ h1 h2 h => by omega) (fun k _ _ h1 h => by omega)
      W2 (by omega) (by omega) (by omega) p1 (tabs_below hT hB0))
    KpT.trans (fun W l o o' _ _ hl ho => KpT.putObj W l o o' hl ho) (fun _ => rfl)
    (fun pre W => W.heap[b]? = some (.cells #[.int .i64 s.size, .int .i64 u, .int .i64 pre.length, .int .i64 (sumN pre), .int .i64 c, .string ⟨#[]⟩, .string ⟨#[]⟩] 125 (0, 0)) ∧ W.heap[w.heap.size]? = some (.cells (scs sm0) 125 (0, 0)) ∧ Below w.heap.size w W)
    (fun _ _ _ => False)
    (Ab.and (ab_block (by omega)) (Ab.and (ab_block (by omega)) (ab_below (by omega) (Nat.le_refl _))))
    (fun _ _ _ _ _ hs _ _ => hs)
    ⟨p0, r2, hB0⟩
    (fun x a' W' => ∃ Bx, b < Bx ∧ W'.heap[Bx]? = some (.cells (cvs x) 34 (0, 0)) ∧ a' = { tmps := (A.tmps.setIfInBounds 14 (cv x)).setIfInBounds 4 (.pointer (some ⟨Bx, 0, none⟩)), defers := [] })
    (fun x a' _ X Y row h hg hr => h.imp fun Bx hx => ⟨hx.1, (hg.block Bx (Array.getElem?_eq_some_iff.1 hx.2.1).1 (fun e => by
      obtain ⟨_, (h3 | ⟨o, ho, hc⟩)⟩ := hr Bx e.symm
      · omega
      · rw [hx.2.1] at ho; cases ho; cases hc)).trans hx.2.1, hx.2.2⟩)
    ?assign ?body ?done ?stop
  case assign =>
    rintro l pre x W K hi hK
    have hsx := (Array.getElem?_eq_some_iff.1 hi.1).1
    subst hA
    gi_wp2
    exact hK _ _ (kf_below ((Below.refl _ W).alloc (Nat.le_refl _) _)) (KpT.of_below ((Below.refl _ W).alloc (Nat.le_refl _) _)) ⟨(Below.heap_alloc _ _ _ hsx).trans hi.1, (Below.heap_alloc _ _ _ (Array.getElem?_eq_some_iff.1 hi.2.1).1).trans hi.2.1, hi.2.2.alloc hi.2.2.size _⟩ ⟨W.heap.size, hsx, World.alloc_heap_new W _, rfl⟩
  case body =>
    rintro l pre x a' W _ _ _ _ ⟨hv, hq, hB⟩ ⟨Bx, hBx, qx, rfl⟩ hnx
    obtain ⟨⟨-, -, y2, y3, -, -, -⟩, -, -, f2, f3, -, -, -⟩ := box7 hv
    obtain ⟨⟨d0, d1, d2, d3⟩, _⟩ := box4 qx
    have hlen := (pre_bd hnx).1
    simp only [List.length_append, List.length_cons, List.length_nil] at hlen
    obtain ⟨_, h3, h4⟩ := pre_bd hnx
    rw [sumN_app] at h3 h4
    simp only [sumN] at h3 h4
    obtain ⟨_, g3, g4⟩ := pre_bd (show pre <+: cl s from (List.prefix_append pre [x]).trans hnx)
    subst hA
    gi_wp2
    have hg := grown2 (gcell W b 2 (.int .i64 (pre.length + 1))) (gcell _ b 3 (.int .i64 (sumN pre + x.n)))
    exact ⟨kf_cells hg hv, KpT.of_grown hg (fun r o e _ => by cases e; rfl), by simpa [sumN_app, sumN] using set1 (i := 3) (.int .i64 (sumN pre + x.n)) (set1 (i := 2) (.int .i64 (pre.length + 1)) hv),
      (hg.block _ (Array.getElem?_eq_some_iff.1 hq).1 (fun e => by have := Option.some.inj e; omega)).trans hq, (hB.setCell (p := ⟨b, 2, none⟩) (by simp; omega) _).setCell (p := ⟨b, 3, none⟩) (by simp; omega) _⟩
  case done =>
    rintro D ys W hD rfl ⟨hv, hq, hB⟩ hK
    obtain ⟨⟨y0, y1, y2, y3, y4, y5, y6⟩, -⟩ := box7 hv
    obtain ⟨⟨z0, z1, z2, z3, z4, z5, z6⟩, f0, f1, f2, f3, f4, f5, f6⟩ := box7 hq
    subst hA
    gi_wp2
    obtain ⟨W7, hW7⟩ : ∃ W7, ((((((W.setCell ⟨w.heap.size, 0, none⟩ (.int .i64 s.size)).setCell ⟨w.heap.size, 1, none⟩ (.int .i64 u)).setCell ⟨w.heap.size, 2, none⟩ (.int .i64 (cl s).length)).setCell ⟨w.heap.size, 3, none⟩ (.int .i64 (sumN (cl s)))).setCell ⟨w.heap.size, 4, none⟩ (.int .i64 c)).setCell ⟨w.heap.size, 5, none⟩ (.string ⟨#[]⟩)).setCell ⟨w.heap.size, 6, none⟩ (.string ⟨#[]⟩) = W7 := ⟨_, rfl⟩
    have q7 : W7.heap[w.heap.size]? = some (.cells #[.int .i64 s.size, .int .i64 u, .int .i64 (cl s).length, .int .i64 (sumN (cl s)), .int .i64 c, .string ⟨#[]⟩, .string ⟨#[]⟩] 125 (0, 0)) := by rw [← hW7]; exact set7_box hq _ _ _ _ _ _ _
    have b7 : Below w.heap.size w W7 := by rw [← hW7]; exact set7_below hB _ _ _ _ _ _ _
    have k7 : W7.heap[D]? = some (.deferred (some [])) := by
      rw [← hW7]
      exact ((set7_grown W w.heap.size _ _ _ _ _ _ _).block _ (Array.getElem?_eq_some_iff.1 hK).1 (fun e => by have := Option.some.inj e; omega)).trans hK
    rw [hW7]
    have q8 : (W7.putObj D (.deferred none)).heap[w.heap.size]? = _ := ((grownBy_putObj' W7 D (.deferred none)).block _ (Array.getElem?_eq_some_iff.1 q7).1 (fun e => by have := Option.some.inj e; omega)).trans q7
    obtain ⟨⟨v0, v1, v2, v3, v4, v5, v6⟩, -⟩ := box7 q8
    refine ⟨by simp, .inl ⟨_, _, rfl, run_takeDeferred k7, ?_⟩⟩
    refine ⟨.agg #[.int .i64 s.size, .int .i64 u, .int .i64 (cl s).length, .int .i64 (sumN (cl s)), .int .i64 c, .string ⟨#[]⟩, .string ⟨#[]⟩], by simp [results, Tryz.results162, go_sem, v0, v1, v2, v3, v4, v5, v6], by rw [HE.out], b7.trans (belowK_b (w := w) (Nat.le_refl _) W7 D _ _ (by omega) k7 rfl rfl)⟩
  case stop =>
    rintro D c pre W _ _ h _
    exact h.elim
theorem counted_any (s : ByteArray) (hs : s.size ≤ maxLen) (hm : s.size ≤ 2305843009213693951) (w : World) (hT : Lib.Utf8Tabs 0 1 w) (hlo0 : 0 < w.heap.size) (hlo1 : 1 < w.heap.size) :
    Calls Tryz.prog 162 #[.string s] w fun e W' => e = .returned (sv (smc s)) ∧ Below w.heap.size w W' := callsIn_wide.1 (counted_in 5 (by omega) s hs hm w hT hlo0 hlo1)
end Go.Proofs.YtplieccalmkloaaGreatDoor
