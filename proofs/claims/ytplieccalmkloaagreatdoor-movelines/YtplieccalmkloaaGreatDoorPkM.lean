/-
  What package metric's joined answers. Conditions: those of each theorem.
-/
import Derived.Test.YtplieccalmkloaaGreatDoorPkMA
import Derived.Test.YtplieccalmkloaaGreatDoorPkU
namespace Go.Proofs.YtplieccalmkloaaGreatDoor
open Go.RowKit Go.Shelf Bod Wid
attribute [local go_sem] Oper.semAt_some

theorem sum_ext {x y : Sum} (h0 : x.by' = y.by') (h1 : x.un = y.un) (h2 : x.cl = y.cl) (h3 : x.ce = y.ce) (h4 : x.nl = y.nl) (h5 : x.hd = y.hd) (h6 : x.tl = y.tl) : x = y := by
  cases x; cases y
  simp only at h0 h1 h2 h3 h4 h5 h6
  subst h0 h1 h2 h3 h4 h5 h6
  rfl
theorem sv_same (x y : Sum) (h : x = y) (w : World) : (binOp .eql 125 (sv x) (sv y)).run Tryz.prog w = .ok (.bool true) w := by
  subst h
  simp [go_sem, sv]
theorem sv_apart (x y : Sum) (h : x ≠ y) (w : World) : (binOp .eql 125 (sv x) (sv y)).run Tryz.prog w = .ok (.bool false) w := by
  simp [go_sem, sv]
  intro h0 h1 h2 h3 h4 h5 h6
  rw [Lib.toList_data, Lib.toList_data] at h5 h6
  exact h (sum_ext h0 h1 h2 h3 h4 (ext_data h5) (ext_data h6))
/-- two summaries joined as the program does it -/
def jnt (x y : Sum) : Sum :=
  ⟨wrap64 (x.by' + y.by'), wrap64 (wrap64 (wrap64 (wrap64 (x.un + y.un) + kU.of (tl x.tl ++ hd y.hd)) - kU.of (tl x.tl)) - kU.of (hd y.hd)), wrap64 (wrap64 (wrap64 (wrap64 (x.cl + y.cl) + kC.of (tl x.tl ++ hd y.hd)) - kC.of (tl x.tl)) - kC.of (hd y.hd)),
   wrap64 (wrap64 (wrap64 (wrap64 (x.ce + y.ce) + kN.of (tl x.tl ++ hd y.hd)) - kN.of (tl x.tl)) - kN.of (hd y.hd)), wrap64 (x.nl + y.nl), hd (x.hd ++ hd y.hd), tl (tl x.tl ++ y.tl)⟩
/-- what lies where in joined -/
structure JW (w : World) (x y : Sum) (W : World) : Prop where
  a : W.heap[w.heap.size]? = some (.cells (scs x) 125 (0, 0))
  b : W.heap[w.heap.size + 1]? = some (.cells (scs y) 125 (0, 0))
  r : W.heap[w.heap.size + 1 + 1]? = some (.cells (scs sm0) 125 (0, 0))
  e : W.heap[w.heap.size + 1 + 1 + 1]? = some (.cells (scs sm0) 125 (0, 0))
  bel : Below w.heap.size w W
theorem JW.below {w : World} {x y : Sum} {W W' : World} (h : JW w x y W) (hb : Below W.heap.size W W') : JW w x y W' := by
  have kp : ∀ {k : Nat} {o : Obj}, W.heap[k]? = some o → W'.heap[k]? = some o := fun ho => (hb.block _ (Array.getElem?_eq_some_iff.1 ho).1).trans ho
  exact ⟨kp h.a, kp h.b, kp h.r, kp h.e, h.bel.trans (hb.mono h.bel.size)⟩
theorem JW.drewN {w : World} {x y : Sum} {W : World} (h : JW w x y W) (q : Nat) : JW w x y (W.drewN q) := ⟨h.a, h.b, h.r, h.e, ⟨h.bel.os, h.bel.tape, h.bel.output, h.bel.size, h.bel.block⟩⟩
theorem JW.start {w W0 : World} {x y : Sum} (h : (((w.alloc (.cells (scs x) 125)).alloc (.cells (scs y) 125)).alloc (.cells (scs sm0) 125)).alloc (.cells (scs sm0) 125) = W0) : JW w x y W0 := by
  rw [← h]
  obtain ⟨p0, p1, p2⟩ := push3 w.heap (.cells (scs x) 125) (.cells (scs y) 125) (.cells (scs sm0) 125)
  have hz : (((w.heap.push (.cells (scs x) 125)).push (.cells (scs y) 125)).push (.cells (scs sm0) 125)).size = w.heap.size + 1 + 1 + 1 := by simp
  have kp : ∀ {k : Nat} {o : Obj}, (((w.heap.push (.cells (scs x) 125)).push (.cells (scs y) 125)).push (.cells (scs sm0) 125))[k]? = some o → ((((w.heap.push (.cells (scs x) 125)).push (.cells (scs y) 125)).push (.cells (scs sm0) 125)).push (.cells (scs sm0) 125))[k]? = some o := fun {k o} ho => by
    have := (Array.getElem?_eq_some_iff.1 ho).1
    rw [Array.getElem?_push, if_neg (by omega)]
    exact ho
  refine ⟨kp p0, kp p1, kp p2, ?_, ((((Below.refl _ w).alloc (Nat.le_refl _) _).alloc (by simp) _).alloc (by simp; omega) _).alloc (by simp; omega) _⟩
  show ((((w.heap.push (.cells (scs x) 125)).push (.cells (scs y) 125)).push (.cells (scs sm0) 125)).push (.cells (scs sm0) 125))[w.heap.size + 1 + 1 + 1]? = _
  rw [← hz, Array.getElem?_push_size]
set_option maxRecDepth 100000 in
set_option maxHeartbeats 1000000 in
theorem joined_l (x y : Sum) (hx : x = sm0) (w : World) :
    Calls Tryz.prog 170 #[sv x, sv y] w fun e W' => e = .returned (sv y) ∧ Below w.heap.size w W' := by
  have hX : ∀ W, (binOp .eql 125 (.agg #[.int .i64 x.by', .int .i64 x.un, .int .i64 x.cl, .int .i64 x.ce, .int .i64 x.nl, .string x.hd, .string x.tl]) (.agg #[.int .i64 0, .int .i64 0, .int .i64 0, .int .i64 0, .int .i64 0, .string ⟨#[]⟩, .string ⟨#[]⟩])).run Tryz.prog W = .ok (.bool true) W := fun W => sv_same x sm0 hx W
  obtain ⟨W0, hW0⟩ : ∃ W0, (((w.alloc (.cells (scs x) 125)).alloc (.cells (scs y) 125)).alloc (.cells #[.int .i64 0, .int .i64 0, .int .i64 0, .int .i64 0, .int .i64 0, .string ⟨#[]⟩, .string ⟨#[]⟩] 125)).alloc (.cells #[.int .i64 0, .int .i64 0, .int .i64 0, .int .i64 0, .int .i64 0, .string ⟨#[]⟩, .string ⟨#[]⟩] 125) = W0 := ⟨_, rfl⟩
  have HJ : Hid (JW w x y W0) := JW.start hW0
  obtain ⟨⟨x0, x1, x2, x3, x4, x5, x6⟩, -⟩ := box7 HJ.out.a
  obtain ⟨⟨y0, y1, y2, y3, y4, y5, y6⟩, -⟩ := box7 HJ.out.b
  obtain ⟨⟨r0, r1, r2, r3, r4, r5, r6⟩, f0, f1, f2, f3, f4, f5, f6⟩ := box7 HJ.out.r
  obtain ⟨⟨e0, e1, e2, e3, e4, e5, e6⟩, -⟩ := box7 HJ.out.e
  simp only [sm0] at e0 e1 e2 e3 e4 e5 e6
  have hl : w.heap.size + 1 + 1 < W0.heap.size := (Array.getElem?_eq_some_iff.1 HJ.out.r).1
  clear hx
  go_enter Tryz.func170, Tryz.ntmps170
  go_wp2
  exact bodyPost_ret (v := sv y) (by simp [results, Tryz.results170, go_sem, r0, r1, r2, r3, r4, r5, r6]) rfl ⟨rfl, set7_at HJ.out.bel (by omega) _ _ _ _ _ _ _⟩
set_option maxRecDepth 100000 in
set_option maxHeartbeats 1000000 in
theorem joined_r (x y : Sum) (hx : x ≠ sm0) (hy : y = sm0) (w : World) :
    Calls Tryz.prog 170 #[sv x, sv y] w fun e W' => e = .returned (sv x) ∧ Below w.heap.size w W' := by
  have hX : ∀ W, (binOp .eql 125 (.agg #[.int .i64 x.by', .int .i64 x.un, .int .i64 x.cl, .int .i64 x.ce, .int .i64 x.nl, .string x.hd, .string x.tl]) (.agg #[.int .i64 0, .int .i64 0, .int .i64 0, .int .i64 0, .int .i64 0, .string ⟨#[]⟩, .string ⟨#[]⟩])).run Tryz.prog W = .ok (.bool false) W := fun W => sv_apart x sm0 hx W
  have hY : ∀ W, (binOp .eql 125 (.agg #[.int .i64 y.by', .int .i64 y.un, .int .i64 y.cl, .int .i64 y.ce, .int .i64 y.nl, .string y.hd, .string y.tl]) (.agg #[.int .i64 0, .int .i64 0, .int .i64 0, .int .i64 0, .int .i64 0, .string ⟨#[]⟩, .string ⟨#[]⟩])).run Tryz.prog W = .ok (.bool true) W := fun W => sv_same y sm0 hy W
  obtain ⟨W0, hW0⟩ : ∃ W0, (((w.alloc (.cells (scs x) 125)).alloc (.cells (scs y) 125)).alloc (.cells #[.int .i64 0, .int .i64 0, .int .i64 0, .int .i64 0, .int .i64 0, .string ⟨#[]⟩, .string ⟨#[]⟩] 125)).alloc (.cells #[.int .i64 0, .int .i64 0, .int .i64 0, .int .i64 0, .int .i64 0, .string ⟨#[]⟩, .string ⟨#[]⟩] 125) = W0 := ⟨_, rfl⟩
  have HJ : Hid (JW w x y W0) := JW.start hW0
  obtain ⟨⟨x0, x1, x2, x3, x4, x5, x6⟩, -⟩ := box7 HJ.out.a
  obtain ⟨⟨y0, y1, y2, y3, y4, y5, y6⟩, -⟩ := box7 HJ.out.b
  obtain ⟨⟨r0, r1, r2, r3, r4, r5, r6⟩, f0, f1, f2, f3, f4, f5, f6⟩ := box7 HJ.out.r
  obtain ⟨⟨e0, e1, e2, e3, e4, e5, e6⟩, -⟩ := box7 HJ.out.e
  simp only [sm0] at e0 e1 e2 e3 e4 e5 e6
  have hl : w.heap.size + 1 + 1 < W0.heap.size := (Array.getElem?_eq_some_iff.1 HJ.out.r).1
  clear hx hy
  go_enter Tryz.func170, Tryz.ntmps170
  go_wp2
  exact bodyPost_ret (v := sv x) (by simp [results, Tryz.results170, go_sem, r0, r1, r2, r3, r4, r5, r6]) rfl ⟨rfl, set7_at HJ.out.bel (by omega) _ _ _ _ _ _ _⟩
/-- what lies where in joined, behind the three counts -/
structure J3 (w : World) (x y : Sum) (k : Nat) (a b c : Sum) (W : World) : Prop where
  j : JW w x y W
  p : W.heap[k]? = some (.cells (scs a) 125 (0, 0))
  q : W.heap[k + 1]? = some (.cells (scs b) 125 (0, 0))
  s : W.heap[k + 1 + 1]? = some (.cells (scs c) 125 (0, 0))
theorem J3.start {w u W : World} {x y a b c : Sum} (h : JW w x y u) (hW : ((u.alloc (.cells (scs a) 125)).alloc (.cells (scs b) 125)).alloc (.cells (scs c) 125) = W) : J3 w x y u.heap.size a b c W := by
  rw [← hW]
  obtain ⟨p0, p1, p2⟩ := push3 u.heap (.cells (scs a) 125) (.cells (scs b) 125) (.cells (scs c) 125)
  exact ⟨h.below (((((Below.refl _ u).alloc (Nat.le_refl _) _).alloc (by simp) _).alloc (by simp; omega) _)), p0, p1, p2⟩
theorem J3.drewN {w : World} {x y : Sum} {k : Nat} {a b c : Sum} {W : World} (h : J3 w x y k a b c W) (n : Nat) : J3 w x y k a b c (W.drewN n) := ⟨h.j.drewN n, h.p, h.q, h.s⟩
set_option maxRecDepth 100000 in
set_option maxHeartbeats 4000000 in
theorem joined_t (n : Nat) (hn : 8 ≤ n) (x y : Sum) (hx : x ≠ sm0) (hy : y ≠ sm0) (h1 : x.hd.size ≤ 1152921504606846976) (h2 : x.tl.size ≤ 1152921504606846976) (h3 : y.hd.size ≤ 1152921504606846976) (h4 : y.tl.size ≤ 1152921504606846976) (w : World) (hT : Lib.Utf8Tabs 0 1 w) (hlo0 : 0 < w.heap.size) (hlo1 : 1 < w.heap.size) :
    CallsIn Fence.wide n Tryz.prog 170 #[sv x, sv y] w fun e W' => e = .returned (sv (jnt x y)) ∧ Below w.heap.size w W' := by
  have hX : ∀ W, (binOp .eql 125 (.agg #[.int .i64 x.by', .int .i64 x.un, .int .i64 x.cl, .int .i64 x.ce, .int .i64 x.nl, .string x.hd, .string x.tl]) (.agg #[.int .i64 0, .int .i64 0, .int .i64 0, .int .i64 0, .int .i64 0, .string ⟨#[]⟩, .string ⟨#[]⟩])).run Tryz.prog W = .ok (.bool false) W := fun W => sv_apart x sm0 hx W
  have hY : ∀ W, (binOp .eql 125 (.agg #[.int .i64 y.by', .int .i64 y.un, .int .i64 y.cl, .int .i64 y.ce, .int .i64 y.nl, .string y.hd, .string y.tl]) (.agg #[.int .i64 0, .int .i64 0, .int .i64 0, .int .i64 0, .int .i64 0, .string ⟨#[]⟩, .string ⟨#[]⟩])).run Tryz.prog W = .ok (.bool false) W := fun W => sv_apart y sm0 hy W
  have hn1 : 1 ≤ n := by omega
  have zT := tl_size x.tl
  have zH := hd_size y.hd
  have HE : Hid (jnt x y = _) := (rfl : jnt x y = _)
  obtain ⟨T, hT1⟩ : ∃ T, tl x.tl = T := ⟨_, rfl⟩
  obtain ⟨H, hH1⟩ : ∃ H, hd y.hd = H := ⟨_, rfl⟩
  have CT : Hid (∀ W, Calls Tryz.prog 164 #[.string x.tl] W fun e w' => e = .returned (.string T) ∧ W = w') := fun W => by rw [← hT1]; exact last_any _ (by unfold maxLen; omega) W
  have CH : Hid (∀ W, Calls Tryz.prog 163 #[.string y.hd] W fun e w' => e = .returned (.string H) ∧ W = w') := fun W => by rw [← hH1]; exact first_any _ W
  rw [hT1] at zT
  rw [hH1] at zH
  have CC : ∀ s, s.size ≤ 32 → ∀ W, JW w x y W → Calls Tryz.prog 162 #[.string s] W fun e W' => e = .returned (sv (smc s)) ∧ JW w x y W' := fun s hs W h =>
    (counted_any s (by unfold maxLen; omega) (by omega) W (tabs_below hT h.bel) (Nat.lt_of_lt_of_le hlo0 h.bel.size) (Nat.lt_of_lt_of_le hlo1 h.bel.size)).mono fun e W' ⟨e1, e2⟩ => ⟨e1, h.below e2⟩
  have zTH : (T ++ H).size ≤ 32 := by rw [size_app]; omega
  have C1 := CC T (by omega)
  have C2 := CC H (by omega)
  have C3 := CC (T ++ H) zTH
  obtain ⟨a, ha⟩ : ∃ a, smc T = a := ⟨_, rfl⟩
  obtain ⟨b, hb⟩ : ∃ b, smc H = b := ⟨_, rfl⟩
  obtain ⟨c, hc⟩ : ∃ c, smc (T ++ H) = c := ⟨_, rfl⟩
  have HE2 : Hid (jnt x y = ⟨wrap64 (x.by' + y.by'), wrap64 (wrap64 (wrap64 (wrap64 (x.un + y.un) + c.un) - a.un) - b.un), wrap64 (wrap64 (wrap64 (wrap64 (x.cl + y.cl) + c.cl) - a.cl) - b.cl), wrap64 (wrap64 (wrap64 (wrap64 (x.ce + y.ce) + c.ce) - a.ce) - b.ce), wrap64 (x.nl + y.nl), hd (x.hd ++ H), tl (T ++ y.tl)⟩) := by
    show jnt x y = _
    rw [← ha, ← hb, ← hc, ← hT1, ← hH1]
    rfl
  rw [ha] at C1
  rw [hb] at C2
  rw [hc] at C3
  have D1 : Hid _ := C1
  have D2 : Hid _ := C2
  have D3 : Hid _ := C3
  obtain ⟨h', hh'⟩ : ∃ h', hd (x.hd ++ H) = h' := ⟨_, rfl⟩
  obtain ⟨t', ht'⟩ : ∃ t', tl (T ++ y.tl) = t' := ⟨_, rfl⟩
  have CF : Hid (∀ W, Calls Tryz.prog 163 #[.string (x.hd ++ H)] W fun e w' => e = .returned (.string h') ∧ W = w') := fun W => by rw [← hh']; exact first_any _ W
  have CL : Hid (∀ W, Calls Tryz.prog 164 #[.string (T ++ y.tl)] W fun e w' => e = .returned (.string t') ∧ W = w') := fun W => by rw [← ht']; exact last_any _ (by rw [size_app]; unfold maxLen; omega) W
  rw [hh', ht'] at HE2
  obtain ⟨W0, hW0⟩ : ∃ W0, (((w.alloc (.cells (scs x) 125)).alloc (.cells (scs y) 125)).alloc (.cells #[.int .i64 0, .int .i64 0, .int .i64 0, .int .i64 0, .int .i64 0, .string ⟨#[]⟩, .string ⟨#[]⟩] 125)).alloc (.cells #[.int .i64 0, .int .i64 0, .int .i64 0, .int .i64 0, .int .i64 0, .string ⟨#[]⟩, .string ⟨#[]⟩] 125) = W0 := ⟨_, rfl⟩
  have HJ : Hid (JW w x y W0) := JW.start hW0
  obtain ⟨⟨x0, x1, x2, x3, x4, x5, x6⟩, -⟩ := box7 HJ.out.a
  obtain ⟨⟨y0, y1, y2, y3, y4, y5, y6⟩, -⟩ := box7 HJ.out.b
  obtain ⟨⟨r0, r1, r2, r3, r4, r5, r6⟩, f0, f1, f2, f3, f4, f5, f6⟩ := box7 HJ.out.r
  obtain ⟨⟨e0, e1, e2, e3, e4, e5, e6⟩, -⟩ := box7 HJ.out.e
  simp only [sm0] at e0 e1 e2 e3 e4 e5 e6
  have hl : w.heap.size + 1 + 1 < W0.heap.size := (Array.getElem?_eq_some_iff.1 HJ.out.r).1
  clear hx hy CC C1 C2 C3 ha hb hc hT1 hH1 hh' ht' HE hT hlo0 hlo1
  refine callsIn_of_wp_marks Tryz.func170 rfl trivial ?_ rfl
  simp only [Tryz.ntmps170, List.size_toArray, List.length_cons, List.length_nil, Nat.reduceAdd, Nat.reduceSub, Array.replicate_succ, Array.replicate_zero, List.push_toArray, List.append_toArray, List.nil_append, List.cons_append]
  gi_wp2
  clear hX hY hW0
  refine wpIn_region_quiet_lit rfl (by kernel_rfl) (by kernel_rfl) ?_
  repeat (gi_big_quiet_step (fail))
  refine BigFrame.wpQuietIn_want (fun _ _ _ _ => trivial) rfl ?_
  intro K hK
  gi_big_quiet_op
  refine ⟨.string T, fun q => (callsIn_wide.2 (CT.out _)).mono fun e w' h => ⟨h.1, q, h.2.symm⟩, ?_⟩
  go_big_quiet_on
  repeat (gi_big_quiet_step (fail))
  refine BigFrame.wpQuietIn_want (fun _ _ _ _ => trivial) rfl ?_
  intro K hK
  gi_big_quiet_op
  refine ⟨.string H, fun q => (callsIn_wide.2 (CH.out _)).mono fun e w' h => ⟨h.1, q, h.2.symm⟩, ?_⟩
  go_big_quiet_on
  repeat (gi_big_quiet_step (fail))
  refine wpQuietIn_nil ?_
  intro _ hw'
  obtain ⟨nq, hw''⟩ := hw'
  subst hw''
  clear CT CH x0 x1 x2 x3 x4 x5 x6 y0 y1 y2 y3 y4 y5 y6 r0 r1 r2 r3 r4 r5 r6 f0 f1 f2 f3 f4 f5 f6 e0 e1 e2 e3 e4 e5 e6 hl
  gi_wp2_with (first | (refine ⟨trivial, ?_⟩; gi_at_call 162; refine (callsIn_wide.2 (D1.out _ (HJ.out.drewN _))).mono ?_; clear D1; rintro e u1 ⟨rfl, hj⟩; have Hu1 : Hid (JW w x y u1) := hj; clear hj) | (refine ⟨trivial, ?_⟩; gi_at_call 162; refine (callsIn_wide.2 (D2.out _ Hu1.out)).mono ?_; clear D2; rintro e u2 ⟨rfl, hj⟩; have Hu2 : Hid (JW w x y u2) := hj; clear hj) | (refine ⟨trivial, ?_⟩; gi_at_call 162; refine (callsIn_wide.2 (D3.out _ Hu2.out)).mono ?_; clear D3; rintro e u3 ⟨rfl, hj⟩; have Hu3 : Hid (JW w x y u3) := hj; clear hj))
  obtain ⟨W4, hW4⟩ : ∃ W4, ((u3.alloc (.cells #[.int .i64 a.by', .int .i64 a.un, .int .i64 a.cl, .int .i64 a.ce, .int .i64 a.nl, .string a.hd, .string a.tl] 125)).alloc (.cells #[.int .i64 b.by', .int .i64 b.un, .int .i64 b.cl, .int .i64 b.ce, .int .i64 b.nl, .string b.hd, .string b.tl] 125)).alloc (.cells #[.int .i64 c.by', .int .i64 c.un, .int .i64 c.cl, .int .i64 c.ce, .int .i64 c.nl, .string c.hd, .string c.tl] 125) = W4 := ⟨_, rfl⟩
  have H4 : Hid (J3 w x y u3.heap.size a b c W4) := J3.start Hu3.out hW4
  rw [hW4]
  clear hW4
  obtain ⟨⟨x0, x1, x2, x3, x4, x5, x6⟩, -⟩ := box7 H4.out.j.a
  obtain ⟨⟨y0, y1, y2, y3, y4, y5, y6⟩, -⟩ := box7 H4.out.j.b
  obtain ⟨⟨-, a1, a2, a3, -, -, -⟩, -⟩ := box7 H4.out.p
  obtain ⟨⟨-, b1, b2, b3, -, -, -⟩, -⟩ := box7 H4.out.q
  obtain ⟨⟨-, c1, c2, c3, -, -, -⟩, -⟩ := box7 H4.out.s
  have s1 : ¬ 9223372036854775807 < x.hd.size + H.size := by omega
  have s2 : ¬ 9223372036854775807 < T.size + y.tl.size := by omega
  clear Hu1 Hu2 Hu3 HJ zT zH zTH
  refine region_thenB (by kernel_rfl) (by kernel_rfl) (by kernel_rfl) (by kernel_rfl) rfl rfl ?_
  dsimp only [List.dropLast, List.getLast]
  repeat (gi_big_quiet_step (fail))
  refine BigFrame.wpQuietIn_want (fun _ _ _ _ => trivial) rfl ?_
  intro K hK
  gi_big_quiet_op
  refine ⟨.string h', fun q => (callsIn_wide.2 (CF.out _)).mono fun e w' h => ⟨h.1, q, h.2.symm⟩, ?_⟩
  go_big_quiet_on
  repeat (gi_big_quiet_step (fail))
  refine BigFrame.wpQuietIn_want (fun _ _ _ _ => trivial) rfl ?_
  intro K hK
  gi_big_quiet_op
  refine ⟨.string t', fun q => (callsIn_wide.2 (CL.out _)).mono fun e w' h => ⟨h.1, q, h.2.symm⟩, ?_⟩
  go_big_quiet_on
  repeat (gi_big_quiet_step (fail))
  refine wpQuietIn_nil ?_
  intro _ hw'
  obtain ⟨nr, hw''⟩ := hw'
  subst hw''
  clear x0 x1 x2 x3 x4 x5 x6 y0 y1 y2 y3 y4 y5 y6 a1 a2 a3 b1 b2 b3 c1 c2 c3 CF CL
  have H5 : Hid (JW w x y (W4.drewN nr)) := (H4.out.drewN nr).j
  clear H4
  generalize W4.drewN nr = W5 at H5 ⊢
  obtain ⟨⟨r0, r1, r2, r3, r4, r5, r6⟩, f0, f1, f2, f3, f4, f5, f6⟩ := box7 H5.out.r
  have hl : w.heap.size + 1 + 1 < W5.heap.size := (Array.getElem?_eq_some_iff.1 H5.out.r).1
  gi_wp2
  exact ⟨sv ⟨wrap64 (x.by' + y.by'), wrap64 (wrap64 (wrap64 (wrap64 (x.un + y.un) + c.un) - a.un) - b.un), wrap64 (wrap64 (wrap64 (wrap64 (x.cl + y.cl) + c.cl) - a.cl) - b.cl), wrap64 (wrap64 (wrap64 (wrap64 (x.ce + y.ce) + c.ce) - a.ce) - b.ce), wrap64 (x.nl + y.nl), h', t'⟩, by simp [results, Tryz.results170, go_sem, r0, r1, r2, r3, r4, r5, r6], by rw [HE2.out], set7_at H5.out.bel (by omega) _ _ _ _ _ _ _⟩
end Go.Proofs.YtplieccalmkloaaGreatDoor
namespace Go.Proofs.YtplieccalmkloaaGreatDoor
open Go.RowKit Go.Shelf Bod Wid

theorem hd_long (a b : ByteArray) : hd (a ++ hd b) = hd (a ++ b) := by
  apply ext_data
  rw [hd_data, hd_data, data_app, data_app, hd_data, List.take_append, List.take_append, List.take_take]
  congr 2
  omega
theorem hd_hd2 (a b : ByteArray) : hd (hd a ++ hd b) = hd (a ++ b) := by
  rw [hd_long]
  apply ext_data
  rw [hd_data, hd_data, data_app, data_app, hd_data, List.take_append, List.take_append, List.take_take, List.length_take]
  congr 1
  by_cases h : a.data.toList.length ≤ 16
  · rw [Nat.min_eq_right h]
  · rw [Nat.min_eq_left (by omega), show 16 - 16 = 0 by rfl, show 16 - a.data.toList.length = 0 by omega]
theorem tl_tl2 (a b : ByteArray) : tl (tl a ++ tl b) = tl (a ++ b) := by
  rw [tl_app a b]
  split
  · rfl
  · rename_i h
    have := tl_size b
    have e := tl_app (tl a) (tl b)
    rw [tl_tl, if_neg h] at e
    exact e
/-- of summaries of texts the join is that of the texts laid together -/
theorem jnt_smr (a b : ByteArray) (h : a.size + b.size ≤ 288230376151711744) : jnt (smr a) (smr b) = smr (a ++ b) := by
  have hab : (a ++ b).size ≤ 288230376151711744 := by rw [size_app]; omega
  obtain ⟨a1, a2, a3⟩ := cnt_bd a
  obtain ⟨b1, b2, b3⟩ := cnt_bd b
  obtain ⟨c1, c2, c3⟩ := cnt_bd (tl a ++ hd b)
  obtain ⟨d1, d2, d3⟩ := cnt_bd (tl a)
  obtain ⟨e1, e2, e3⟩ := cnt_bd (hd b)
  have z1 := tl_size a
  have z2 := hd_size b
  have z3 := size_app (tl a) (hd b)
  have n1 := nls_le a
  have n2 := nls_le b
  unfold jnt smr
  simp only [tl_tl, hd_hd]
  refine sum_ext ?_ ?_ ?_ ?_ ?_ ?_ ?_
  · show wrap64 _ = ((a ++ b).size : Int)
    rw [size_app, IntWalk.wrap64_in _ (by omega)]; omega
  · show wrap64 _ = kU.of (a ++ b)
    rw [of_app kU a b, IntWalk.wrap64_in (kU.of a + kU.of b) (by omega), IntWalk.wrap64_in (kU.of a + kU.of b + _) (by omega), IntWalk.wrap64_in (kU.of a + kU.of b + _ - _) (by omega), IntWalk.wrap64_in _ (by omega)]
  · show wrap64 _ = kC.of (a ++ b)
    rw [of_app kC a b, IntWalk.wrap64_in (kC.of a + kC.of b) (by omega), IntWalk.wrap64_in (kC.of a + kC.of b + _) (by omega), IntWalk.wrap64_in (kC.of a + kC.of b + _ - _) (by omega), IntWalk.wrap64_in _ (by omega)]
  · show wrap64 _ = kN.of (a ++ b)
    rw [of_app kN a b, IntWalk.wrap64_in (kN.of a + kN.of b) (by omega), IntWalk.wrap64_in (kN.of a + kN.of b + _) (by omega), IntWalk.wrap64_in (kN.of a + kN.of b + _ - _) (by omega), IntWalk.wrap64_in _ (by omega)]
  · show wrap64 _ = (nls (a ++ b) : Int)
    rw [nls_app, IntWalk.wrap64_in _ (by omega)]; omega
  · exact hd_hd2 a b
  · exact tl_tl2 a b
theorem smr_smallB {s : ByteArray} (hs : s.size ≤ 288230376151711744) : Small (smr s) := by
  obtain ⟨h1, h2, h3⟩ := cnt_bd s
  have h4 := nls_le s
  refine ⟨?_, ?_, ?_, ?_, ?_, ?_, ?_⟩
  · show _ ≤ (s.size : Int) ∧ (s.size : Int) ≤ _; omega
  · show _ ≤ kU.of s ∧ kU.of s ≤ _; omega
  · show _ ≤ kC.of s ∧ kC.of s ≤ _; omega
  · show _ ≤ kN.of s ∧ kN.of s ≤ _; omega
  · show _ ≤ (nls s : Int) ∧ (nls s : Int) ≤ _; omega
  · show (hd s).size ≤ 16; rw [hd_size]; omega
  · show (tl s).size ≤ 16; rw [tl_size]; omega
theorem smr_zero' {a : ByteArray} (h : smr a = sm0) : a = ByteArray.empty := by
  have e : (a.size : Int) = 0 := congrArg Sum.by' h
  have e2 : a.size = 0 := by omega
  exact ByteArray.ext (Array.eq_empty_of_size_eq_zero e2)
/-- what joined answers: one of the two, or the join -/
def Jn (x y z : Sum) : Prop := (x = sm0 ∧ z = y) ∨ (y = sm0 ∧ z = x) ∨ z = jnt x y
theorem joined_all (x y : Sum) (h1 : x.hd.size ≤ 1152921504606846976) (h2 : x.tl.size ≤ 1152921504606846976) (h3 : y.hd.size ≤ 1152921504606846976) (h4 : y.tl.size ≤ 1152921504606846976) (w : World) (hT : Lib.Utf8Tabs 0 1 w) (hlo0 : 0 < w.heap.size) (hlo1 : 1 < w.heap.size) :
    Calls Tryz.prog 170 #[sv x, sv y] w fun e W' => ∃ z, Jn x y z ∧ e = .returned (sv z) ∧ Below w.heap.size w W' := by
  by_cases hx : x = sm0
  · exact (joined_l x y hx w).mono fun e W' h => ⟨y, .inl ⟨hx, rfl⟩, h⟩
  · by_cases hy : y = sm0
    · exact (joined_r x y hx hy w).mono fun e W' h => ⟨x, .inr (.inl ⟨hy, rfl⟩), h⟩
    · exact (callsIn_wide.1 (joined_t 8 (Nat.le_refl _) x y hx hy h1 h2 h3 h4 w hT hlo0 hlo1)).mono fun e W' h => ⟨jnt x y, .inr (.inr rfl), h⟩
theorem Jn_smr {a b : ByteArray} {z : Sum} (h : Jn (smr a) (smr b) z) (hs : a.size + b.size ≤ 288230376151711744) : z = smr (a ++ b) := by
  rcases h with ⟨h0, h1⟩ | ⟨h0, h1⟩ | h1
  · rw [h1, smr_zero' h0]; simp
  · rw [h1, smr_zero' h0]; simp
  · rw [h1, jnt_smr a b hs]
/-- the ends' texts are no longer than n bytes -/
def Ends (n : Nat) (x : Sum) : Prop := x.hd.size ≤ n ∧ x.tl.size ≤ n
theorem Jn.ends {n : Nat} (hn : 16 ≤ n) {x y z : Sum} (h : Jn x y z) (hx : Ends n x) (hy : Ends n y) : Ends n z := by
  rcases h with ⟨_, h1⟩ | ⟨_, h1⟩ | h1
  · rw [h1]; exact hy
  · rw [h1]; exact hx
  · rw [h1]
    have e1 := hd_size (x.hd ++ hd y.hd)
    have e2 := tl_size (tl x.tl ++ y.tl)
    exact ⟨by show (hd (x.hd ++ hd y.hd)).size ≤ n; omega, by show (tl (tl x.tl ++ y.tl)).size ≤ n; omega⟩
/-- joined one behind the other -/
def JR (m : Sum) : List Sum → Sum → Prop
  | [], z => z = m
  | x :: r, z => ∃ m', Jn m x m' ∧ JR m' r z
theorem JR.snoc : ∀ {l : List Sum} {m m' x z : Sum}, JR m l m' → Jn m' x z → JR m (l ++ [x]) z
  | [], _, _, _, _, h, hj => by
    have h : _ = _ := h
    subst h
    exact ⟨_, hj, rfl⟩
  | _ :: _, _, _, _, _, ⟨m1, h1, h2⟩, hj => ⟨m1, h1, JR.snoc h2 hj⟩
theorem JR.ends {n : Nat} (hn : 16 ≤ n) : ∀ {l : List Sum} {m z : Sum}, JR m l z → Ends n m → (∀ x ∈ l, Ends n x) → Ends n z
  | [], _, _, h, hm, _ => by
    have h : _ = _ := h
    subst h
    exact hm
  | _ :: _, _, _, ⟨_, h1, h2⟩, hm, hl => JR.ends hn h2 (h1.ends hn hm (hl _ (.head _))) (fun x hx => hl x (.tail _ hx))
theorem JR_smr : ∀ {ss : List ByteArray} {a : ByteArray} {z : Sum}, JR (smr a) (ss.map smr) z → (ss.foldl (· ++ ·) a).size ≤ 288230376151711744 → z = smr (ss.foldl (· ++ ·) a)
  | [], _, _, h, _ => h
  | s :: r, a, z, ⟨m1, h1, h2⟩, hs => by
    have hle : a.size + s.size ≤ (r.foldl (· ++ ·) (a ++ s)).size := by
      have : ∀ (r : List ByteArray) (x : ByteArray), x.size ≤ (r.foldl (· ++ ·) x).size := fun r => by
        induction r with
        | nil => intro x; exact Nat.le_refl _
        | cons c r ih => intro x; have := ih (x ++ c); have := size_app x c; simp only [List.foldl_cons]; omega
      have := this r (a ++ s)
      rw [size_app] at this
      exact this
    rw [List.foldl_cons] at hs ⊢
    have e := Jn_smr h1 (by omega)
    subst e
    exact JR_smr h2 hs
end Go.Proofs.YtplieccalmkloaaGreatDoor
