/-
  The walk of the law LinesWalks: Lines goes through all lines, again and again, broken off and nested, as the text stands when a range begins. Conditions: the two tables of unicode/utf8 lie as their text lays them.
-/
import Derived.Test.YtcjmfoadimpffaaGreatDoorDWb
import Derived.Test.YtcjmfoadimpffaaGreatDoorPkUK
import Derived.Test.YtcjmfoadimpffaaGreatDoorPkU
import Derived.Maps.OwnIn
import Derived.Lib.QuietBelowIn
namespace Go.Proofs.YtcjmfoadimpffaaGreatDoor.Sto
open Go.RowKit Go.Shelf Bod Wid
attribute [local go_sem] Oper.semAt_some

theorem func_nil4 (f : Fn) (a b : Array Value) (w : World) : (binOp .eql 70 (.func f a b) .nilFunc).run Tryz.prog w = .ok (.bool false) w := by kernel_rfl
theorem num_nx {ys : List (Nat × Nat)} {pre : List (Nat × Nat × Nat)} {i a b : Nat} (h : pre ++ [(i, a, b)] <+: num ys) : i = pre.length ∧ ys[pre.length]? = some (a, b) ∧ pre.length < ys.length ∧ pre.map (·.2) = ys.take pre.length := by
  obtain ⟨r, hr⟩ := h
  have hl : pre.length < ys.length := by
    have := congrArg List.length hr
    rw [num_len] at this
    simp at this
    omega
  obtain ⟨x, hx⟩ : ∃ x, ys[pre.length]? = some x := ⟨_, List.getElem?_eq_getElem hl⟩
  have e1 := num_get hx
  have e2 : (num ys)[pre.length]? = some (i, a, b) := by rw [← hr]; simp
  rw [e1] at e2
  injection e2 with e2
  injection e2 with e2 e3
  refine ⟨e2.symm, by rw [hx, e3], hl, ?_⟩
  have e4 : pre = (num ys).take pre.length := by rw [← hr]; simp
  have e5 : (num ys).map (·.2) = ys := by
    unfold num
    rw [List.map_snd_zip]
    simp
  calc pre.map (·.2) = ((num ys).take pre.length).map (·.2) := by rw [← e4]
    _ = ys.take pre.length := by rw [List.map_take, e5]
theorem num_all (ys : List (Nat × Nat)) : (num ys).map (·.2) = ys := by
  unfold num
  rw [List.map_snd_zip]
  simp
/-- what stands while the ranges go -/
structure Fx (w : World) (s : ByteArray) (kd stop : Int) (t : Value) (c7 : Nat) (want : Value) (ys : List (Nat × Nat)) (wk : World) (W : World) : Prop where
  bel : Below w.heap.size w W
  kt : W.heap[w.heap.size]? = some (.cells #[.string s, .int .i64 kd] 41 (0, 0))
  st : W.heap[w.heap.size + 1]? = some (.cells #[.int .i64 stop] 3 (0, 0))
  rs : W.heap[w.heap.size + 1 + 1]? = some (.cells #[.bool false] 4 (0, 0))
  wb : W.heap[c7]? = some (.cells #[want] 67 (0, 0))
  rd : RdY W want ys
  tx : W.heap[c7 + 1]? = some (.cells #[t] 44 (0, 0))
  al : W.heap[c7 + 1 + 1]? = some (.cells #[.func (.func 70) #[] #[.pointer (some ⟨c7 + 1, 0, none⟩)]] 70 (0, 0))
  kp : Kpt wk s t W
theorem Fx.below {w W W' : World} {s : ByteArray} {kd stop : Int} {t : Value} {c7 : Nat} {want : Value} {ys : List (Nat × Nat)} {wk : World} (h : Fx w s kd stop t c7 want ys wk W) (hb : Below W.heap.size W W') : Fx w s kd stop t c7 want ys wk W' :=
  have kp : ∀ {k : Nat} {o : Obj}, W.heap[k]? = some o → W'.heap[k]? = some o := fun ho => (hb.block _ (Array.getElem?_eq_some_iff.1 ho).1).trans ho
  ⟨Below.on h.bel hb, kp h.kt, kp h.st, kp h.rs, kp h.wb, h.rd.below hb, kp h.tx, kp h.al, h.kp.below hb⟩
theorem box1' {W : World} {b : Nat} {v : Value} {t : TypeId} (h : W.heap[b]? = some (.cells #[v] t (0, 0))) : W.cell? ⟨b, 0, none⟩ = some v ∧ W.frozen? ⟨b, 0, none⟩ = false := by
  simp [World.cell?, World.frozen?, h]
theorem box2' {W : World} {b : Nat} {u v : Value} {t : TypeId} (h : W.heap[b]? = some (.cells #[u, v] t (0, 0))) : W.cell? ⟨b, 0, none⟩ = some u ∧ W.cell? ⟨b, 1, none⟩ = some v := by
  simp [World.cell?, h]
/-- the first boxes -/
structure Fb (w : World) (s : ByteArray) (kd stop : Int) (r : Bool) (W : World) : Prop where
  bel : Below w.heap.size w W
  kt : W.heap[w.heap.size]? = some (.cells #[.string s, .int .i64 kd] 41 (0, 0))
  st : W.heap[w.heap.size + 1]? = some (.cells #[.int .i64 stop] 3 (0, 0))
  rs : W.heap[w.heap.size + 1 + 1]? = some (.cells #[.bool r] 4 (0, 0))
theorem Fb.below {w W W' : World} {s : ByteArray} {kd stop : Int} {r : Bool} (h : Fb w s kd stop r W) (hb : Below W.heap.size W W') : Fb w s kd stop r W' :=
  have kp : ∀ {k : Nat} {o : Obj}, W.heap[k]? = some o → W'.heap[k]? = some o := fun ho => (hb.block _ (Array.getElem?_eq_some_iff.1 ho).1).trans ho
  ⟨Below.on h.bel hb, kp h.kt, kp h.st, kp h.rs⟩
theorem push3' (a : Array Obj) (o0 o1 o2 : Obj) : (((a.push o0).push o1).push o2)[a.size]? = some o0 ∧ (((a.push o0).push o1).push o2)[a.size + 1]? = some o1 ∧ (((a.push o0).push o1).push o2)[a.size + 1 + 1]? = some o2 := by
  obtain ⟨h0, h1⟩ := push2 a o0 o1
  refine ⟨?_, ?_, ?_⟩
  · rw [Array.getElem?_push, if_neg (by simp only [Array.size_push]; omega)]; exact h0
  · rw [Array.getElem?_push, if_neg (by simp only [Array.size_push]; omega)]; exact h1
  · rw [Array.getElem?_push, if_pos (by simp only [Array.size_push])]
theorem Rg.at1 {P : World → Prop} {gb nb hi : Nat} {l : List (Nat × Nat)} {n : Int} {W w1 : World} {v : Value} {o : Obj} (h : Rg P gb nb hi l n W) (hlg : gb < hi) (hv : W.heap[gb]? = some (.cells #[v] 67 (0, 0))) (hg : (W.alloc o).grownBy w1 v.ownBlock) : w1.heap[gb]? = some (.cells #[v] 67 (0, 0)) := by
  obtain ⟨v0, hb, hr⟩ := h.got
  have e : v0 = v := by
    rw [hb] at hv
    injection hv with hv
    injection hv with hv _ _
    injection hv with hv
    injection hv with hv _
  subst e
  have hgbs := (Array.getElem?_eq_some_iff.1 hb).1
  exact (hg.block gb (by simp; omega) (fun e => by have := (row_cells hr e.symm).1; omega)).trans ((Below.heap_alloc _ _ _ hgbs).trans hb)
/-- all that lies below is as it was at W, but the boxes gb and nb -/
structure Bw (gb nb : Nat) (W W' : World) : Prop where
  os : W'.os = W.os
  tape : W'.tape = W.tape
  output : W'.output = W.output
  size : W.heap.size ≤ W'.heap.size
  block : ∀ k, k < W.heap.size → k ≠ gb → k ≠ nb → W'.heap[k]? = W.heap[k]?
theorem Bw.refl (gb nb : Nat) (W : World) : Bw gb nb W W := ⟨rfl, rfl, rfl, Nat.le_refl _, fun _ _ _ _ => rfl⟩
theorem bw_stays (gb nb : Nat) (W : World) : Stays (Bw gb nb W) gb nb W.heap.size := fun X X' row h hg hr => ⟨hg.os.trans h.os, hg.tape.trans h.tape, hg.output.trans h.output, Nat.le_trans h.size hg.size, fun k hk h1 h2 => (hg.block k (Nat.lt_of_lt_of_le hk h.size) (fun e => by rcases hr k e.symm with e | e | e <;> omega)).trans (h.block k hk h1 h2)⟩
theorem rd_one {W : World} {g n c : Nat} {ys : List (Nat × Nat)} {j : Nat} {o : Value} {T : TypeId} {z : Nat × Nat} (h : RdY W (.slice (some ⟨g, 0, none⟩) n c) ys) (hne : ys ≠ []) (hj : W.heap[j]? = some (.cells #[o] T z)) : g ≠ j := by
  obtain ⟨g', c', e, _, hc⟩ := h
  cases e
  intro e
  subst e
  obtain ⟨x, hx⟩ : ∃ x, ys[0]? = some x := ⟨_, List.getElem?_eq_getElem (List.length_pos_iff.2 hne)⟩
  have := (hc 0 x hx).2
  simp [World.cell?, hj] at this
theorem rd_kp {W W' : World} {g n c : Nat} {ys : List (Nat × Nat)} (h : RdY W (.slice (some ⟨g, 0, none⟩) n c) ys) (he : W'.heap[g]? = W.heap[g]?) (hs : W.heap.size ≤ W'.heap.size) : RdY W' (.slice (some ⟨g, 0, none⟩) n c) ys := by
  obtain ⟨g', c', e, hl, hc⟩ := h
  cases e
  have q : ∀ i, W'.cell? ⟨g, i, none⟩ = W.cell? ⟨g, i, none⟩ := fun i => by unfold World.cell?; simp only [he]
  exact ⟨g, _, rfl, by omega, fun k x hk => by rw [q, q]; exact hc k x hk⟩
theorem rd_lt {W : World} {g n c : Nat} {ys : List (Nat × Nat)} (h : RdY W (.slice (some ⟨g, 0, none⟩) n c) ys) : g < W.heap.size := by
  obtain ⟨g', c', e, hl, hc⟩ := h
  cases e
  exact hl
/-- what stands when the last range begins -/
structure Fl (w : World) (D D2 c7 gb g n c : Nat) (ys : List (Nat × Nat)) (N : Int) (wk : World) (s : ByteArray) (t : Value) (W : World) : Prop where
  kpx : Kpx wk s t W
  bel : Below w.heap.size w W
  rs : W.heap[w.heap.size + 1 + 1]? = some (.cells #[.bool false] 4 (0, 0))
  wb : W.heap[c7]? = some (.cells #[.slice (some ⟨g, 0, none⟩) n c] 67 (0, 0))
  gt : W.heap[gb]? = some (.cells #[.slice none 0 0] 67 (0, 0))
  nx : W.heap[gb + 1]? = some (.cells #[.int .i64 N] 3 (0, 0))
  rd : RdY W (.slice (some ⟨g, 0, none⟩) n c) ys
  d1 : W.heap[D]? = some (.deferred (some []))
  d2 : W.heap[D2]? = some (.deferred (some []))
  tx : W.heap[c7 + 1]? = some (.cells #[t] 44 (0, 0))
  al : W.heap[c7 + 1 + 1]? = some (.cells #[.func (.func 70) #[] #[.pointer (some ⟨c7 + 1, 0, none⟩)]] 70 (0, 0))
theorem set_kp {W : World} {j k : Nat} {o : Obj} (v : Value) (h : W.heap[k]? = some o) (hne : k ≠ j) : (W.setCell ⟨j, 0, none⟩ v).heap[k]? = some o := ((gcell W j 0 v).block k (Array.getElem?_eq_some_iff.1 h).1 (fun e => by injection e with e; exact hne e)).trans h
theorem fl_of {w wk W : World} {D D2 c7 gb g n c : Nat} {ys : List (Nat × Nat)} {N : Int} {s : ByteArray} {t o v : Value} (hk : Kpx wk s t W) (hw : Below w.heap.size w wk) (hle : wk.heap.size ≤ c7) (hl : w.heap.size + 1 + 1 < c7) (hg : gb = c7 + 3) (hD : gb + 2 ≤ D) (hD2 : D < D2) (hne : ys ≠ [])
    (rs : W.heap[w.heap.size + 1 + 1]? = some (.cells #[.bool false] 4 (0, 0))) (wb : W.heap[c7]? = some (.cells #[o] 67 (0, 0))) (gt : W.heap[gb]? = some (.cells #[v] 67 (0, 0))) (nx : W.heap[gb + 1]? = some (.cells #[.int .i64 N] 3 (0, 0))) (rd : RdY W (.slice (some ⟨g, 0, none⟩) n c) ys) (d1 : W.heap[D]? = some (.deferred (some []))) (d2 : W.heap[D2]? = some (.deferred (some []))) (tx : W.heap[c7 + 1]? = some (.cells #[t] 44 (0, 0)))
    (al : W.heap[c7 + 1 + 1]? = some (.cells #[.func (.func 70) #[] #[.pointer (some ⟨c7 + 1, 0, none⟩)]] 70 (0, 0))) : Fl w D D2 c7 gb g n c ys N wk s t ((W.setCell ⟨c7, 0, none⟩ (.slice (some ⟨g, 0, none⟩) n c)).setCell ⟨gb, 0, none⟩ (.slice none 0 0)) := by
  have kp : ∀ {k : Nat} {o : Obj}, W.heap[k]? = some o → k ≠ c7 → k ≠ gb → ((W.setCell ⟨c7, 0, none⟩ (.slice (some ⟨g, 0, none⟩) n c)).setCell ⟨gb, 0, none⟩ (.slice none 0 0)).heap[k]? = some o := fun h a b => set_kp _ (set_kp _ h a) b
  have gt' : (W.setCell ⟨c7, 0, none⟩ (.slice (some ⟨g, 0, none⟩) n c)).heap[gb]? = some (.cells #[v] 67 (0, 0)) := set_kp _ gt (by omega)
  have wb' : (W.setCell ⟨c7, 0, none⟩ (.slice (some ⟨g, 0, none⟩) n c)).heap[c7]? = some (.cells #[.slice (some ⟨g, 0, none⟩) n c] 67 (0, 0)) := by simpa using set1 (i := 0) (.slice (some ⟨g, 0, none⟩) n c) wb
  have hk2 := (hk.set wb hle (.slice (some ⟨g, 0, none⟩) n c)).set gt' (by omega) (.slice none 0 0)
  obtain ⟨og, hog⟩ : ∃ og, W.heap[g]? = some og := ⟨_, Array.getElem?_eq_getElem (rd_lt rd)⟩
  refine ⟨hk2, Below.on hw hk2.bel, kp rs (by omega) (by omega), set_kp _ wb' (by omega), by simpa using set1 (i := 0) (.slice none 0 0) gt', kp nx (by omega) (by omega), rd_kp rd ((kp hog (rd_one rd hne wb) (rd_one rd hne gt)).trans hog.symm) (by simp), kp d1 (by omega) (by omega), kp d2 (by omega) (by omega), kp tx (by omega) (by omega), kp al (by omega) (by omega)⟩
set_option maxRecDepth 100000 in
set_option maxHeartbeats 4000000 in
theorem walks_in (d : Nat) (hd : 8 ≤ d) (s : ByteArray) (kd stop : Int) (w : World) (hE : Ev w) :
    CallsIn Fence.wide d Tryz.prog 6 #[.agg #[.string s, .int .i64 kd], .int .i64 stop] w fun e W' => e = .returned (.bool true) ∧ Below w.heap.size w W' := by
  have h1 : 1 ≤ d := by omega
  have hM : Tryz.prog.follows .mixedOrders = true := by kernel_rfl
  have HM : Hid (Tryz.prog.follows .mixedOrders = true) := hM
  have hfn := func_nil4
  obtain ⟨i0, hi0, hz0, hz1, hz2⟩ := info_parts info_spl
  obtain ⟨W0, hW0⟩ : ∃ W0, ((w.alloc (.cells #[.string s, .int .i64 kd] 41)).alloc (.cells #[.int .i64 stop] 3)).alloc (.cells #[.bool false] 4) = W0 := ⟨_, rfl⟩
  have hF0 : Fb w s kd stop false W0 := by
    obtain ⟨p0, p1, p2⟩ := push3' w.heap (.cells #[.string s, .int .i64 kd] 41) (.cells #[.int .i64 stop] 3) (.cells #[.bool false] 4)
    rw [← hW0]
    exact ⟨(((Below.refl _ w).alloc (Nat.le_refl _) _).alloc (by simp) _).alloc (by simp; omega) _, p0, p1, p2⟩
  have CA : Hid (Calls Tryz.prog 18 #[] W0 fun e W' => e = .returned (.bool true) ∧ Hid (Fb w s kd stop false W')) := (awake_any hM W0 (hE.below hF0.bel)).mono fun e W' ⟨q1, q2⟩ => ⟨q1, hF0.below q2⟩
  have HG : Hid (∀ W, Hid (Fb w s kd stop false W) → W.cell? ⟨w.heap.size, 0, none⟩ = some (.string s) ∧ W.cell? ⟨w.heap.size, 1, none⟩ = some (.int .i64 kd) ∧ W.cell? ⟨w.heap.size + 1 + 1, 0, none⟩ = some (.bool false) ∧ W.frozen? ⟨w.heap.size + 1 + 1, 0, none⟩ = false) := fun W h => ⟨(box2' h.out.kt).1, (box2' h.out.kt).2, box1' h.out.rs⟩
  by_cases hbig : 1073741822 < s.size
  · clear hE hM hF0
    refine callsIn_of_wp_marks Tryz.func6 rfl trivial ?_ rfl
    simp only [Tryz.ntmps6, List.size_toArray, List.length_cons, List.length_nil, Nat.reduceAdd, Nat.reduceSub, Array.replicate_succ, Array.replicate_zero, List.push_toArray, List.append_toArray, List.nil_append, List.cons_append]
    gi_wp2_with (refine ⟨trivial, ?_⟩; gi_at_call 18; refine (callsIn_wide.2 CA.out).mono ?_; clear CA hW0; rintro e w1 ⟨rfl, H1⟩; obtain ⟨c0, c1, c2, c3⟩ := HG.out _ H1)
    have s1 := set1 (i := 0) (.bool true) H1.out.rs
    exact ⟨_, (by simp [results, Tryz.results6, go_sem, (box1' s1).1]), rfl, H1.out.bel.setCell (p := ⟨w.heap.size + 1 + 1, 0, none⟩) (by simp; omega) _⟩
  · have hs : s.size + 2 ≤ 1073741824 := by omega
    obtain ⟨ys, hys⟩ := lns_ex s
    have hyl : ys.length ≤ 1073741826 := by have := hys.len.1; omega
    have hsz : ¬ (1073741822 : Int) < (s.size : Int) := by omega
    have CK : Hid (∀ W, Hid (Fb w s kd stop false W) → Calls Tryz.prog 19 #[.agg #[.string s, .int .i64 kd]] W fun e W' => ∃ T u, e = .returned (.tuple #[.iface T u, .bool true]) ∧ Hid (Fb w s kd stop false W' ∧ Kpt W s (.iface T u) W')) := fun W h => (keep_any hM W (hE.below h.out.bel) s kd (by omega)).mono fun e W' ⟨T, u, q1, q2⟩ => ⟨T, u, q1, h.out.below q2.bel, q2⟩
    have CR : Hid (∀ W wk T u, Hid (Fb w s kd stop false W ∧ Kpt wk s (.iface T u) W) → Calls Tryz.prog 32 #[.string s] W fun e W' => ∃ (g cap : Nat), e = .returned (.slice (some ⟨g, 0, none⟩) ys.length cap) ∧ Hid (Fb w s kd stop false W' ∧ Kpt wk s (.iface T u) W' ∧ RdY W' (.slice (some ⟨g, 0, none⟩) ys.length cap) ys)) := fun W wk T u h => (rlines_rd (by omega) hys W).mono fun e W' ⟨g, cap, q1, q2, q3⟩ => ⟨g, cap, q1, h.out.1.below q3, h.out.2.below q3, q2⟩
    have CL : Hid (∀ W T u, Calls Tryz.prog 33 #[.iface T u] W fun e W' => e = .returned (.func (.func 70) #[] #[.pointer (some ⟨W.heap.size, 0, none⟩)]) ∧ W' = W.alloc (.cells #[.iface T u] 44)) := fun W T u => lines_any W T u
    have HS : Hid (s.size + 2 ≤ 1073741824 ∧ Lns s 0 ys none ∧ Ev w) := ⟨hs, hys, hE⟩
    clear hE hM hbig hF0 hs hys
    refine callsIn_of_wp_marks Tryz.func6 rfl trivial ?_ rfl
    simp only [Tryz.ntmps6, List.size_toArray, List.length_cons, List.length_nil, Nat.reduceAdd, Nat.reduceSub, Array.replicate_succ, Array.replicate_zero, List.push_toArray, List.append_toArray, List.nil_append, List.cons_append]
    gi_wp2_with (first
      | (refine ⟨trivial, ?_⟩; gi_at_call 18; refine (callsIn_wide.2 CA.out).mono ?_; clear CA hW0; rintro e w1 ⟨rfl, H1⟩; have HW1 : Hid (Below w.heap.size w w1) := H1.out.bel; obtain ⟨c0, c1, c2, c3⟩ := HG.out _ H1)
      | (refine ⟨trivial, ?_⟩; gi_at_call 19; refine (callsIn_wide.2 (CK.out _ H1)).mono ?_; clear CK H1 c0 c1 c2 c3; rintro e w2 ⟨T, u, rfl, H2⟩; obtain ⟨c0, c1, c2, c3⟩ := HG.out _ H2.out.1)
      | (refine ⟨trivial, ?_⟩; gi_at_call 32; refine (callsIn_wide.2 (CR.out _ _ _ _ H2)).mono ?_; clear CR H2 c0 c1 c2 c3; rintro e w3 ⟨g, cap, rfl, H3⟩)
      | (refine ⟨trivial, ?_⟩; gi_at_call 33; refine (callsIn_wide.2 (CL.out _ _ _)).mono ?_; rintro e w4 ⟨rfl, rfl⟩))
    obtain ⟨X5, hX5⟩ : ∃ X5, ((w3.alloc (.cells #[.slice (some ⟨g, 0, none⟩) ys.length cap] 67)).alloc (.cells #[.iface T u] 44)).alloc (.cells #[.func (.func 70) #[] #[.pointer (some ⟨w3.heap.size + 1, 0, none⟩)]] 70) = X5 := ⟨_, rfl⟩
    have hs5 : X5.heap.size = w3.heap.size + 3 := by rw [← hX5]; simp
    have hF5 : Fx w s kd stop (.iface T u) w3.heap.size (.slice (some ⟨g, 0, none⟩) ys.length cap) ys w1 X5 := by
      obtain ⟨f1, f2, f3⟩ := H3.out
      obtain ⟨p0, p1, p2⟩ := push3' w3.heap (.cells #[.slice (some ⟨g, 0, none⟩) ys.length cap] 67) (.cells #[.iface T u] 44) (.cells #[.func (.func 70) #[] #[.pointer (some ⟨w3.heap.size + 1, 0, none⟩)]] 70)
      have hb : Below w3.heap.size w3 X5 := by rw [← hX5]; exact (((Below.refl _ w3).alloc (Nat.le_refl _) _).alloc (by simp) _).alloc (by simp; omega) _
      have fb := f1.below hb
      rw [← hX5] at fb hb ⊢
      exact ⟨fb.bel, fb.kt, fb.st, fb.rs, p0, f3.below hb, p1, p2, f2.below hb⟩
    have HF5 : Hid (∀ W, Below X5.heap.size X5 W → Fx w s kd stop (.iface T u) w3.heap.size (.slice (some ⟨g, 0, none⟩) ys.length cap) ys w1 W) := fun W hW => hF5.below hW
    rw [hX5]
    clear hX5
    obtain ⟨X6, hX6⟩ : ∃ X6, (X5.alloc (.cells #[.slice none 0 0] 67)).alloc (.cells #[.int .i64 0] 3) = X6 := ⟨_, rfl⟩
    have hs6 : X6.heap.size = X5.heap.size + 2 := by rw [← hX6]; simp
    have hP : Stays (fun W => Below X5.heap.size X5 W) X5.heap.size (X5.heap.size + 1) (X5.heap.size + 2) := fun W W' row h hg hr => h.grown hg h.size (fun j e => by rcases hr j e with e | e | e <;> omega)
    have hR6 : Rg (fun W => Below X5.heap.size X5 W) X5.heap.size (X5.heap.size + 1) (X5.heap.size + 2) [] 0 X6 := by
      obtain ⟨p0, p1⟩ := push2 X5.heap (.cells #[.slice none 0 0] 67) (.cells #[.int .i64 0] 3)
      rw [← hX6]
      exact ⟨((Below.refl _ X5).alloc (Nat.le_refl _) _).alloc (by simp) _, ⟨_, p0, World.ownsRow_nil _ _ _ _⟩, p1⟩
    have hG6 : X6.heap[X5.heap.size]? = some (.cells #[.slice none 0 0] 67 (0, 0)) := by rw [← hX6]; exact (push2 X5.heap _ _).1
    rw [hX6]
    have hF6 := HF5.out X6 hR6.p
    have hE1 : Ev w1 := HS.out.2.2.below HW1.out
    clear hX6 hF5
    refine act_name' fun A hA => ?_
    rw [show w3.heap.size + 1 + 1 + 1 = X5.heap.size by omega] at hA
    refine range_own rfl h1 (gf := 70) (lb := #[.pointer (some ⟨w3.heap.size + 1, 0, none⟩)]) (by rw [hA]; rfl) trivial (enters_of Tryz.func70 (by kernel_rfl) rfl)
      (lines_seq2 (d - 1) (by omega) (w3.heap.size + 1) (X6.heap.size + 2) (KpG X5.heap.size (X5.heap.size + 1)) X6 KpG.trans (KpG.refl _ _) (fun h => h.size) (fun W W' hle hb => KpG.of_below (by omega) hb)
        (fun W w2 X g vs b1 b2 b3 b4 b5 b6 => b6.kept g _ b5 rfl (by omega) (by omega) (fun e => by
          have hb : w2.heap[X5.heap.size]? = some (.cells #[.slice none 0 0] 67 (0, 0)) := (b3.block _ (by omega)).trans ((b1.block _ (by omega)).trans hG6)
          unfold rowB at e
          rw [(box1' hb).1] at e
          cases e))
        (box1' hF6.tx).1 ((hF6.kp.vt hE1).tl (by have := HS.out.1; omega)) ys HS.out.2.1)
      KpG.trans (fun W l o o' a1 _ hl ho => KpG.putObj W l o o' (by omega) hl ho) (fun _ => rfl)
      (fun pre W => Rg (fun W => Below X5.heap.size X5 W) X5.heap.size (X5.heap.size + 1) (X5.heap.size + 2) (pre.map (·.2)) pre.length W) (fun _ _ _ => False)
      (rg_ab (α := Nat × Nat × Nat) (B := X6.heap.size) (lo := X6.heap.size + 2) (fun pre => pre.map (·.2)) (fun pre => (pre.length : Int)) hP (by omega) (by omega) (by omega)) (fun _ _ _ _ _ hs _ _ => hs)
      hR6
      (fun x a' W' => ∃ Bx, X6.heap.size ≤ Bx ∧ W'.heap[Bx]? = some (.cells #[.int .i64 (x.2.1 : Int), .int .i64 (x.2.2 : Int)] 53 (0, 0)) ∧ a' = { tmps := ((((#[42, 43] : Array Tmp).zip (encN x)).foldl (fun t (p, v) => t.setIfInBounds p v) A.tmps).setIfInBounds 11 (.int .i64 (x.1 : Int))).setIfInBounds 12 (.pointer (some ⟨Bx, 0, none⟩)), defers := [] })
      (fun x a' _ X Y row h hg hr => h.imp fun Bx hx => ⟨hx.1, (hg.block Bx (Array.getElem?_eq_some_iff.1 hx.2.1).1 (fun e => by
        obtain ⟨_, (h3 | ⟨o, ho, hc⟩)⟩ := hr Bx e.symm
        · omega
        · rw [hx.2.1] at ho; cases ho; cases hc)).trans hx.2.1, hx.2.2⟩)
      ?assign ?body ?done ?stop
    case assign =>
      rintro l pre ⟨i, a, b⟩ W K hi hK
      have hWs : X6.heap.size ≤ W.heap.size := by have := (Array.getElem?_eq_some_iff.1 hi.nx).1; omega
      subst hA
      gi_wp2
      exact hK _ _ (kf_below ((Below.refl _ W).alloc (Nat.le_refl _) _)) (KpG.of_below (by omega) ((Below.refl _ W).alloc (Nat.le_refl _) _)) (hi.below hP ((Below.refl _ W).alloc (Nat.le_refl _) _)) ⟨W.heap.size, hWs, World.alloc_heap_new W _, by simp [encN]⟩
    case body =>
      rintro l pre ⟨i, a, b⟩ a' W hl1 hl2 ⟨r, hr⟩ hWs hi ⟨Bx, hBx, qx, rfl⟩ hnx
      obtain ⟨rfl, hget, hlt, hmap⟩ := num_nx hnx
      obtain ⟨v, hv, hrow⟩ := hi.got
      have hFW := HF5.out W hi.p
      obtain ⟨n0, n1⟩ := box1' hi.nx
      obtain ⟨hn1, hn2, hn3⟩ := hi.next (B := X6.heap.size) hP (by omega) (by omega) ((pre.length : Int) + 1)
      have gn := gcell W (X5.heap.size + 1) 0 (.int .i64 ((pre.length : Int) + 1))
      have hv1 : (W.setCell ⟨X5.heap.size + 1, 0, none⟩ (.int .i64 ((pre.length : Int) + 1))).heap[X5.heap.size]? = some (.cells #[v] 67 (0, 0)) := (gn.block _ (Array.getElem?_eq_some_iff.1 hv).1 (fun e => by injection e with e; omega)).trans hv
      have qx1 : (W.setCell ⟨X5.heap.size + 1, 0, none⟩ (.int .i64 ((pre.length : Int) + 1))).heap[Bx]? = some (.cells #[.int .i64 (a : Int), .int .i64 (b : Int)] 53 (0, 0)) := (gn.block _ (Array.getElem?_eq_some_iff.1 qx).1 (fun e => by injection e with e; omega)).trans qx
      have hrow1 : (W.setCell ⟨X5.heap.size + 1, 0, none⟩ (.int .i64 ((pre.length : Int) + 1))).ownsRow (X5.heap.size + 2) 53 2 v pre.length (spl (pre.map (·.2))) := by
        obtain ⟨v2, q1, q2⟩ := hn1.got
        rw [hv1] at q1
        injection q1 with q1
        injection q1 with q1 _ _
        injection q1 with q1
        injection q1 with q1 _
        subst q1
        rw [List.length_map] at q2
        exact q2
      have hsz1 : (W.setCell ⟨X5.heap.size + 1, 0, none⟩ (.int .i64 ((pre.length : Int) + 1))).heap.size = W.heap.size := by simp
      obtain ⟨W1, hW1⟩ : ∃ W1, W.setCell ⟨X5.heap.size + 1, 0, none⟩ (.int .i64 ((pre.length : Int) + 1)) = W1 := ⟨_, rfl⟩
      rw [hW1] at hn1 hn2 hn3 hv1 qx1 hrow1 hsz1
      obtain ⟨v0, v1⟩ := box1' hv1
      obtain ⟨x0, x1⟩ := box2' qx1
      have HAP : Hid (∀ (w1 : World) (v' : Value) (o : Obj), w1.ownsRow (X5.heap.size + 2) 53 2 v' (pre.length + 1) (spl (pre.map (·.2)) ++ [.int .i64 (a : Int), .int .i64 (b : Int)]) → (W1.alloc o).grownBy w1 v.ownBlock → (v'.ownBlock = v.ownBlock ∨ v'.ownBlock = some (W1.alloc o).heap.size) → Rg (fun W => Below X5.heap.size X5 W) X5.heap.size (X5.heap.size + 1) (X5.heap.size + 2) ((pre ++ [(pre.length, a, b)]).map (·.2)) ((pre ++ [(pre.length, a, b)]).length : Nat) (w1.setCell ⟨X5.heap.size, 0, none⟩ v') ∧ KpG X5.heap.size (X5.heap.size + 1) W (w1.setCell ⟨X5.heap.size, 0, none⟩ v') ∧ KeepsFrom X6.heap.size W (w1.setCell ⟨X5.heap.size, 0, none⟩ v') ∧ w1.heap[X5.heap.size]? = some (.cells #[v] 67 (0, 0))) := fun w1 v' o o1 o2 o3 => by
        obtain ⟨k1, k2, k3⟩ := hn1.app (B := X6.heap.size) (p := (a, b)) hP (by omega) (by omega) (by omega) hv1 (by rw [List.length_map]; exact o1) o2 o3
        exact ⟨by simpa using k1, hn2.trans k2, kf_trans hn3 k3, hn1.at1 (by omega) hv1 o2⟩
      have hml : pre.length + 1 ≤ maxLen := by unfold maxLen; omega
      have hbl : (pre.length + 1) * 16 ≤ 140737488355328 := by omega
      have HLI : Hid (W.heap[l]? = some (.loop r) ∧ X6.heap.size ≤ l) := ⟨hr, hl1⟩
      have HW : Hid (W1.heap.size = W.heap.size ∧ X6.heap.size ≤ W.heap.size ∧ X6.heap.size = X5.heap.size + 2 ∧ X5.heap.size = w3.heap.size + 3) := ⟨hsz1, by omega, hs6, hs5⟩
      have HGT : Hid (ys[pre.length]? = some (a, b)) := hget
      obtain ⟨s0, -⟩ := box1' hFW.st
      clear hi hv hrow qx hn1 hn2 hn3 gn hv1 qx1 hsz1 hnx hget hmap hr hl1 hl2 hs5 hs6 hBx hWs hF6 hFW hR6 hG6
      by_cases hst : (pre.length : Int) = stop
      · have hst' : ((pre.length : Int) == stop) = true := by simpa using hst
        clear hst
        subst hA
        gi_wp2_with (gi_at_builtin; refine wpListIn_append_own_at _ rfl _ _ 67 rfl (X5.heap.size + 2) 53 i0 _ 2 16 Tryz.underlying67 hi0 hz0 hz1 hz2 rfl (by decide) _ _ _ rfl (hrow1.alloc _) ⟨W1.heap.size, 0, none⟩ 1 1 [.int .i64 (a : Int), .int .i64 (b : Int)] rfl rfl (World.news_of_block (World.alloc_heap_new W1 _)) (by simp [Value.oneCell']) hml hbl (by have := HW.out; simp; omega) ?_; intro v' w1' hown' hgrow _ hob; obtain ⟨g', cap', rfl⟩ := ownsRow_succ hown'; obtain ⟨k1, k2, k3, k4⟩ := HAP.out _ _ _ hown' hgrow hob; obtain ⟨d0, d1⟩ := box1' k4; have HK : Hid _ := And.intro k1 (And.intro k2 k3); obtain ⟨s2, -⟩ := box1' (HF5.out _ k1.p).st; obtain ⟨s3, -⟩ := box1' (HF5.out _ k1.p).al; clear hown' hgrow hob k1 k2 k3 k4 v0 v1 x0 x1 n0 n1 s0)
        obtain ⟨Y, hY⟩ : ∃ Y, w1'.setCell ⟨X5.heap.size, 0, none⟩ (.slice (some ⟨g', 0, none⟩) (pre.length + 1) cap') = Y := ⟨_, rfl⟩
        rw [hY] at HK ⊢
        clear hY s2 s3 d0 d1
        have hFY := HF5.out Y HK.out.1.p
        have hrY : Y.heap[l]? = some (.loop r) := HK.out.2.2.2 l _ HLI.out.2 HLI.out.1 rfl
        refine act_name' fun A3 hA3 => ?_
        refine range_in (l₀ := l) (r₀ := r) rfl hrY (by omega) (gf := 70) (lb := #[.pointer (some ⟨w3.heap.size + 1, 0, none⟩)]) (by rw [hA3]; rfl) trivial (enters_of Tryz.func70 (by kernel_rfl) rfl)
          (lines_seq (d - 1 - 1 - 1) (by omega) (w3.heap.size + 1) (Y.heap.size + 1) (fun _ _ => False) (fun _ _ _ _ h => h) Y (box1' hFY.tx).1 ((hFY.kp.vt hE1).tl (by have := HS.out.1; omega)) ys HS.out.2.1)
          KpT.trans (fun W l o o' _ _ hl ho => KpT.putObj W l o o' hl ho) (fun _ => rfl)
          (fun _ W' => Below Y.heap.size Y W') (fun c _ W' => c = .exit 2 ∧ Below Y.heap.size Y W')
          (ab_below (Nat.le_refl _) (Nat.le_refl _)) (fun c => Ab.and (Ab.pure _ _ _ _) (ab_below (Nat.le_refl _) (Nat.le_refl _))) (Below.refl _ _)
          (fun x a' W' => ∃ Bx, Y.heap.size ≤ Bx ∧ W'.heap[Bx]? = some (.cells #[.int .i64 (x.2.1 : Int), .int .i64 (x.2.2 : Int)] 53 (0, 0)) ∧ a' = { tmps := ((((#[57, 58] : Array Tmp).zip (encN x)).foldl (fun t (p, v) => t.setIfInBounds p v) A3.tmps).setIfInBounds 13 (.int .i64 (x.1 : Int))).setIfInBounds 14 (.pointer (some ⟨Bx, 0, none⟩)), defers := [] })
          (fun x a' _ X Y' row h hg hr => h.imp fun Bx hx => ⟨hx.1, (hg.block Bx (Array.getElem?_eq_some_iff.1 hx.2.1).1 (fun e => by
            obtain ⟨_, (h3 | ⟨o, ho, hc⟩)⟩ := hr Bx e.symm
            · omega
            · rw [hx.2.1] at ho; cases ho; cases hc)).trans hx.2.1, hx.2.2⟩)
          ?assign3 ?body3 ?done3 ?stop3
        case assign3 =>
          rintro l3 pre3 ⟨i3, a3, b3⟩ W' K hi3 hK3
          subst hA3
          gi_wp2
          exact hK3 _ _ (kf_below ((Below.refl _ W').alloc (Nat.le_refl _) _)) (KpT.of_below ((Below.refl _ W').alloc (Nat.le_refl _) _)) (hi3.alloc hi3.size _) ⟨W'.heap.size, hi3.size, World.alloc_heap_new W' _, by first | (simp [encN]; done) | (simp [encN]; simpa using hst')⟩
        case body3 =>
          rintro l3 pre3 ⟨i3, a3, b3⟩ a' W' _ _ _ _ hi3 ⟨By, hBy, qy, rfl⟩ hnx
          obtain ⟨rfl, hget, hlt3, -⟩ := num_nx hnx
          have hF3 := hFY.below hi3
          obtain ⟨w0, -⟩ := box1' hF3.wb
          obtain ⟨_, _, e, -, hc⟩ := hF3.rd
          cases e
          obtain ⟨e0, e1⟩ := hc _ _ hget
          obtain ⟨y0, y1⟩ := box2' qy
          have t1 : decide ((ys.length : Int) ≤ (pre3.length : Int)) = false := by simp; omega
          have t1n : decide (ys.length ≤ pre3.length) = false := by simp; omega
          have HI3 : Hid (Below Y.heap.size Y W') := hi3
          clear hc hget hnx qy hF3 hi3
          subst hA3
          gi_wp2
          refine region_quiet (by kernel_rfl) (by kernel_rfl) (by kernel_rfl) ?_
          repeat (gi_big_quiet_step (fail))
          refine wpQuietIn_nil ?_
          intro _ hw'
          obtain ⟨nq, hw''⟩ := hw'
          subst hw''
          have hKF : KeepsFrom Y.heap.size W' (W'.drewN nq) := ⟨Nat.le_refl _, fun _ _ _ h _ => h⟩
          have hKM : KpT (fun _ _ => False) W' (W'.drewN nq) := ⟨Nat.le_refl _, fun _ _ h _ _ => h⟩
          have hB3 : Below Y.heap.size Y (W'.drewN nq) := ⟨HI3.out.os, HI3.out.tape, HI3.out.output, HI3.out.size, HI3.out.block⟩
          have HB3 : Hid (KeepsFrom Y.heap.size W' (W'.drewN nq) ∧ KpT (fun _ _ => False) W' (W'.drewN nq) ∧ Below Y.heap.size Y (W'.drewN nq)) := ⟨hKF, hKM, hB3⟩
          generalize W'.drewN nq = V at HB3 ⊢
          clear hKF hKM hB3 w0 e0 e1 y0 y1 t1 t1n
          by_cases h20 : 20 < pre3.length
          · have h20' : (20 : Int) < (pre3.length : Int) := by omega
            gi_wp2
            exact ⟨HB3.out.1, rfl, HB3.out.2.2⟩
          · have h20' : ¬ (20 : Int) < (pre3.length : Int) := by omega
            gi_wp2
            exact ⟨HB3.out.1, HB3.out.2.1, HB3.out.2.2⟩
        case done3 =>
          rintro xs V _ hB
          have hk := HK.out
          exact ⟨kf_trans hk.2.2 (kf_below hB), hk.2.1.trans (KpG.of_below (by have := (Array.getElem?_eq_some_iff.1 hk.1.nx).1; omega) hB), hk.1.below hP hB⟩
        case stop3 =>
          rintro c pre3 V _ ⟨rfl, hB⟩
          refine wpIn_exit ?_
          have hk := HK.out
          exact ⟨kf_trans hk.2.2 (kf_below hB), hk.2.1.trans (KpG.of_below (by have := (Array.getElem?_eq_some_iff.1 hk.1.nx).1; omega) hB), hk.1.below hP hB⟩
      · have hst' : ((pre.length : Int) == stop) = false := by simpa using hst
        subst hA
        gi_wp2_with (gi_at_builtin; refine wpListIn_append_own_at _ rfl _ _ 67 rfl (X5.heap.size + 2) 53 i0 _ 2 16 Tryz.underlying67 hi0 hz0 hz1 hz2 rfl (by decide) _ _ _ rfl (hrow1.alloc _) ⟨W1.heap.size, 0, none⟩ 1 1 [.int .i64 (a : Int), .int .i64 (b : Int)] rfl rfl (World.news_of_block (World.alloc_heap_new W1 _)) (by simp [Value.oneCell']) hml hbl (by have := HW.out; simp; omega) ?_; intro v' w1' hown' hgrow _ hob; obtain ⟨g', cap', rfl⟩ := ownsRow_succ hown'; obtain ⟨k1, k2, k3, k4⟩ := HAP.out _ _ _ hown' hgrow hob; obtain ⟨d0, d1⟩ := box1' k4; have HK : Hid _ := And.intro k1 (And.intro k2 k3); obtain ⟨s2, -⟩ := box1' (HF5.out _ k1.p).st; clear hown' hgrow hob k1 k2 k3 k4 v0 v1 x0 x1 n0 n1 s0)
        exact ⟨HK.out.2.2, HK.out.2.1, HK.out.1⟩
    case done =>
      rintro D xs W hD rfl hi hK
      rw [num_all, num_len] at hi
      have hFW := HF5.out W hi.p
      obtain ⟨v, hv, hrow⟩ := hi.got
      have hne : ys ≠ [] := HS.out.2.1.ne
      obtain ⟨g2, c2, rfl, hRd⟩ : ∃ g2 c2, v = .slice (some ⟨g2, 0, none⟩) ys.length c2 ∧ RdY W v ys := by
        have := RdY.of_row hrow hne
        have h2 := this
        obtain ⟨g2, c2, e, _⟩ := this
        exact ⟨g2, c2, e, h2⟩
      have CSM : Hid (Calls Tryz.prog 34 #[.slice (some ⟨g2, 0, none⟩) ys.length c2, .slice (some ⟨g, 0, none⟩) ys.length cap] W fun e V => e = .returned (.bool true) ∧ Hid (Below W.heap.size W V)) := rsame_any g2 c2 g cap hyl hRd hFW.rd
      obtain ⟨z0, -⟩ := box1' hv
      obtain ⟨z1, -⟩ := box1' hFW.wb
      have HI : Hid (Rg (fun W => Below X5.heap.size X5 W) X5.heap.size (X5.heap.size + 1) (X5.heap.size + 2) ys ys.length W ∧ W.heap[D]? = some (.deferred (some [])) ∧ X6.heap.size ≤ D ∧ X6.heap.size = X5.heap.size + 2 ∧ X5.heap.size = w3.heap.size + 3) := ⟨hi, hK, hD, hs6, hs5⟩
      have HAL : Hid (∀ V, Below W.heap.size W V → V.cell? ⟨w3.heap.size + 1 + 1, 0, none⟩ = some (.func (.func 70) #[] #[.pointer (some ⟨w3.heap.size + 1, 0, none⟩)])) := fun V hV => (box1' (hFW.below hV).al).1
      clear hi hv hrow hRd hFW hK hD hs5 hs6 hR6 hG6 hF6
      subst hA
      gi_wp2_with (refine ⟨trivial, ?_⟩; gi_at_call 34; refine (callsIn_wide.2 CSM.out).mono ?_; clear CSM z0 z1; rintro e V ⟨rfl, HV⟩; have z2 := HAL.out V HV.out)
      obtain ⟨hi, hK, hD, hs6, hs5⟩ := HI.out
      have hR7 := hi.below hP HV.out
      have hF7 := HF5.out V hR7.p
      have hK7 : V.heap[D]? = some (.deferred (some [])) := (HV.out.block D (Array.getElem?_eq_some_iff.1 hK).1).trans hK
      clear HAL z2
      refine act_name' fun A hA => ?_
      have hE1' := hE1
      refine wpIn_mono (Q := fun e a' W' => (e = .normal ∨ e = .exit 4) ∧ ∃ D2, V.heap.size ≤ D2 ∧ a' = { A with defers := { target := .collected D2, args := #[] } :: A.defers } ∧ Below V.heap.size V W' ∧ W'.heap[D2]? = some (.deferred (some []))) ?first ?rest
      case first =>
        refine range_own rfl h1 (gf := 70) (lb := #[.pointer (some ⟨w3.heap.size + 1, 0, none⟩)]) (by rw [hA]; rfl) trivial (enters_of Tryz.func70 (by kernel_rfl) rfl)
          (lines_seq (d - 1) (by omega) (w3.heap.size + 1) (V.heap.size + 2) (fun _ _ => False) (fun _ _ _ _ h => h) V (box1' hF7.tx).1 ((hF7.kp.vt hE1).tl (by have := HS.out.1; omega)) ys HS.out.2.1)
          KpT.trans (fun W l o o' _ _ hl ho => KpT.putObj W l o o' hl ho) (fun _ => rfl)
          (fun _ W' => Below V.heap.size V W') (fun c _ W' => c = .exit 4 ∧ Below V.heap.size V W')
          (ab_below (Nat.le_refl _) (Nat.le_refl _)) (fun c => Ab.and (Ab.pure _ _ _ _) (ab_below (Nat.le_refl _) (Nat.le_refl _))) (Below.refl _ _)
          (fun x a' W' => ∃ Bx, V.heap.size ≤ Bx ∧ W'.heap[Bx]? = some (.cells #[.int .i64 (x.2.1 : Int), .int .i64 (x.2.2 : Int)] 53 (0, 0)) ∧ a' = { tmps := ((((#[78, 79] : Array Tmp).zip (encN x)).foldl (fun t (p, v) => t.setIfInBounds p v) A.tmps).setIfInBounds 15 (.int .i64 (x.1 : Int))).setIfInBounds 16 (.pointer (some ⟨Bx, 0, none⟩)), defers := [] })
          (fun x a' _ X Y' row h hg hr => h.imp fun Bx hx => ⟨hx.1, (hg.block Bx (Array.getElem?_eq_some_iff.1 hx.2.1).1 (fun e => by
            obtain ⟨_, (h3 | ⟨o, ho, hc⟩)⟩ := hr Bx e.symm
            · omega
            · rw [hx.2.1] at ho; cases ho; cases hc)).trans hx.2.1, hx.2.2⟩)
          ?assign4 ?body4 ?done4 ?stop4
        case assign4 =>
          rintro l3 pre3 ⟨i3, a3, b3⟩ W' K hi3 hK3
          subst hA
          gi_wp2
          exact hK3 _ _ (kf_below ((Below.refl _ W').alloc (Nat.le_refl _) _)) (KpT.of_below ((Below.refl _ W').alloc (Nat.le_refl _) _)) (hi3.alloc hi3.size _) ⟨W'.heap.size, hi3.size, World.alloc_heap_new W' _, by simp [encN]⟩
        case body4 =>
          rintro l3 pre3 ⟨i3, a3, b3⟩ a' W' _ _ _ _ hi3 ⟨By, hBy, qy, rfl⟩ hnx
          obtain ⟨rfl, hget, hlt3, -⟩ := num_nx hnx
          have hF3 := hF7.below hi3
          obtain ⟨w0, -⟩ := box1' hF3.wb
          obtain ⟨s0, -⟩ := box1' hF3.st
          obtain ⟨_, _, e, -, hc⟩ := hF3.rd
          cases e
          obtain ⟨e0, e1⟩ := hc _ _ hget
          obtain ⟨y0, y1⟩ := box2' qy
          have t1 : decide ((ys.length : Int) ≤ (pre3.length : Int)) = false := by simp; omega
          have t1n : decide (ys.length ≤ pre3.length) = false := by simp; omega
          have HI3 : Hid (Below V.heap.size V W') := hi3
          clear hc hget hnx qy hF3 hi3 hs5 hs6
          subst hA
          gi_wp2
          refine region_quiet (by kernel_rfl) (by kernel_rfl) (by kernel_rfl) ?_
          repeat (gi_big_quiet_step (fail))
          refine wpQuietIn_nil ?_
          intro _ hw'
          obtain ⟨nq, hw''⟩ := hw'
          subst hw''
          have hKF : KeepsFrom V.heap.size W' (W'.drewN nq) := ⟨Nat.le_refl _, fun _ _ _ h _ => h⟩
          have hKM : KpT (fun _ _ => False) W' (W'.drewN nq) := ⟨Nat.le_refl _, fun _ _ h _ _ => h⟩
          have hB3 : Below V.heap.size V (W'.drewN nq) := ⟨HI3.out.os, HI3.out.tape, HI3.out.output, HI3.out.size, HI3.out.block⟩
          have s0' : (W'.drewN nq).cell? ⟨w.heap.size + 1, 0, none⟩ = some (.int .i64 stop) := s0
          have HB3 : Hid (KeepsFrom V.heap.size W' (W'.drewN nq) ∧ KpT (fun _ _ => False) W' (W'.drewN nq) ∧ Below V.heap.size V (W'.drewN nq)) := ⟨hKF, hKM, hB3⟩
          generalize W'.drewN nq = V3 at HB3 s0' ⊢
          clear hKF hKM hB3 w0 e0 e1 y0 y1 t1 t1n s0
          by_cases hst : (pre3.length : Int) = stop
          · have hst' : ((pre3.length : Int) == stop) = true := by simpa using hst
            clear hst
            gi_wp2
            exact ⟨HB3.out.1, rfl, HB3.out.2.2⟩
          · have hst' : ((pre3.length : Int) == stop) = false := by simpa using hst
            gi_wp2
            exact ⟨HB3.out.1, HB3.out.2.1, HB3.out.2.2⟩
        case done4 =>
          rintro D2 xs V3 hD2 _ hB hK2
          exact ⟨.inl rfl, D2, hD2, rfl, hB, hK2⟩
        case stop4 =>
          rintro D2 c pre3 V3 hD2 _ ⟨rfl, hB⟩ hK2
          refine wpIn_exit ?_
          exact ⟨.inr rfl, D2, hD2, rfl, hB, hK2⟩
      case rest =>
        rintro e a' W8 ⟨he, D2, hD2, rfl, hB8, hK8⟩
        suffices hq : (Exit.inBlock 4 _) .normal _ W8 by
          rcases he with rfl | rfl
          · exact hq
          · exact hq
        have hR8 := hR7.below hP hB8
        have hF8 := HF5.out W8 hR8.p
        have hK8' : W8.heap[D]? = some (.deferred (some [])) := (hB8.block D (Array.getElem?_eq_some_iff.1 hK7).1).trans hK7
        obtain ⟨T', u', f, eT, ⟨m1, m2⟩, CRep⟩ := hF8.kp.rep HS.out.1 hE1
        injection eT with eT eu
        subst eT eu
        obtain ⟨ys2, hys2⟩ := lns_ex (xn ++ s)
        have hs2 : (xn ++ s).size ≤ 1073741824 := by have : (xn ++ s).size = 2 + s.size := by simp [xn]; rfl
                                                     have := HS.out.1; omega
        have hyl2 : ys2.length ≤ 1073741826 := by have := hys2.len.1; omega
        have HYS2 : Hid (Lns (xn ++ s) 0 ys2 none ∧ (xn ++ s).size ≤ 1073741824) := ⟨hys2, hs2⟩
        have C8 : Hid (Calls Tryz.prog f #[u, .int .i64 0, .int .i64 0, .string ⟨#[120, 10]⟩] W8 fun e W9 => e = .returned (.tuple #[.string ⟨#[]⟩, .int .i64 0]) ∧ Hid (Kpx w1 (xn ++ s) (.iface T u) W9 ∧ Fty W8 W9)) := CRep W8 (Below.refl _ _)
        have C9 : Hid (∀ W, Calls Tryz.prog 32 #[.string ((⟨#[120, 10]⟩ : ByteArray) ++ s)] W fun e W' => ∃ (g cap : Nat), e = .returned (.slice (some ⟨g, 0, none⟩) ys2.length cap) ∧ Hid (RdY W' (.slice (some ⟨g, 0, none⟩) ys2.length cap) ys2 ∧ Below W.heap.size W W')) := fun W => rlines_rd hs2 hys2 W
        obtain ⟨hi7, hK, hD, hs6', hs5'⟩ := HI.out
        have HK8 : Hid (W8.heap[D]? = some (.deferred (some [])) ∧ W8.heap[D2]? = some (.deferred (some [])) ∧ X6.heap.size ≤ D ∧ D < D2 ∧ D2 < W8.heap.size ∧ X6.heap.size = X5.heap.size + 2 ∧ X5.heap.size = w3.heap.size + 3) := ⟨hK8', hK8, hD, by have := (Array.getElem?_eq_some_iff.1 hK7).1; omega, (Array.getElem?_eq_some_iff.1 hK8).1, hs6', hs5'⟩
        have H8 : Hid (Rg (fun W => Below X5.heap.size X5 W) X5.heap.size (X5.heap.size + 1) (X5.heap.size + 2) ys ys.length W8 ∧ Fx w s kd stop (.iface T u) w3.heap.size (.slice (some ⟨g, 0, none⟩) ys.length cap) ys w1 W8) := ⟨hR8, hF8⟩
        have HK9 : Hid (∀ W9, Fty W8 W9 → W9.cell? ⟨w.heap.size, 0, none⟩ = some (.string s)) := fun W9 hT => (box2' (hT.keep _ _ _ _ hF8.kt (by decide) (by decide) (by decide) (by decide))).1
        have HK10 : Hid (∀ W9 w10 (g9 cap9 : Nat), Kpx w1 (xn ++ s) (.iface T u) W9 → Fty W8 W9 → Below W9.heap.size W9 w10 → RdY w10 (.slice (some ⟨g9, 0, none⟩) ys2.length cap9) ys2 → (w10.cell? ⟨w3.heap.size, 0, none⟩ = some (.slice (some ⟨g, 0, none⟩) ys.length cap) ∧ w10.frozen? ⟨w3.heap.size, 0, none⟩ = false) ∧ (∃ v, (w10.setCell ⟨w3.heap.size, 0, none⟩ (.slice (some ⟨g9, 0, none⟩) ys2.length cap9)).cell? ⟨X5.heap.size, 0, none⟩ = some v ∧ (w10.setCell ⟨w3.heap.size, 0, none⟩ (.slice (some ⟨g9, 0, none⟩) ys2.length cap9)).frozen? ⟨X5.heap.size, 0, none⟩ = false) ∧ Fl w D D2 w3.heap.size X5.heap.size g9 ys2.length cap9 ys2 ys.length w1 (xn ++ s) (.iface T u) ((w10.setCell ⟨w3.heap.size, 0, none⟩ (.slice (some ⟨g9, 0, none⟩) ys2.length cap9)).setCell ⟨X5.heap.size, 0, none⟩ (.slice none 0 0))) := fun W9 w10 g9 cap9 hX hT hB hrd => by
          obtain ⟨v, hv, -⟩ := hR8.got
          have kp : ∀ {k : Nat} {o : Obj}, W9.heap[k]? = some o → w10.heap[k]? = some o := fun ho => (hB.block _ (Array.getElem?_eq_some_iff.1 ho).1).trans ho
          have y1 := kp (hT.keep _ _ _ _ hF8.wb (by decide) (by decide) (by decide) (by decide))
          have y2 := kp (hT.keep _ _ _ _ hv (by decide) (by decide) (by decide) (by decide))
          refine ⟨box1' y1, ⟨v, box1' (set_kp _ y2 (by omega))⟩, ?_⟩
          obtain ⟨-, -, o1, o2, -⟩ := HK8.out
          exact fl_of (hX.below hB) HW1.out H3.out.2.1.bel.size (Array.getElem?_eq_some_iff.1 H3.out.1.rs).1 hs5' (by omega) o2 hys2.ne (kp (hT.keep _ _ _ _ hF8.rs (by decide) (by decide) (by decide) (by decide))) y1 y2 (kp (hT.keep _ _ _ _ hR8.nx (by decide) (by decide) (by decide) (by decide))) hrd (kp (hT.rest _ _ hK8' rfl)) (kp (hT.rest _ _ hK8 rfl)) (kp (hT.keep _ _ _ _ hF8.tx (by decide) (by decide) (by decide) (by decide))) (kp (hT.keep _ _ _ _ hF8.al (by decide) (by decide) (by decide) (by decide)))
        clear CRep hys2 hs2 hi7 hK hD hs6' hs5' hK8 hK8' hR8 hF8 hR7 hF7 hK7 hs5 hs6 hi HI he hD2 hB8
        subst hA
        gi_wp2_with (first
          | (refine ⟨trivial, ?_⟩; gi_at_call 32; refine (callsIn_wide.2 (C9.out _)).mono ?_; clear C9; rintro e w10 ⟨g9, cap9, rfl, H10⟩; obtain ⟨⟨y0, y1⟩, ⟨v9, y2, y3⟩, hFl⟩ := HK10.out _ _ _ _ H9.out.1 H9.out.2 H10.out.2 H10.out.1; have HFl : Hid _ := hFl; obtain ⟨y4, -⟩ := box1' hFl.al; clear hFl HK10 x0)
          | (refine ⟨trivial, ?_⟩; refine (callsIn_wide.2 C8.out).mono ?_; clear C8; rintro e W9 ⟨rfl, H9⟩; have x0 := HK9.out _ H9.out.2))
        have hFl := HFl.out
        obtain ⟨W11, hW11⟩ : ∃ W11, (w10.setCell ⟨w3.heap.size, 0, none⟩ (.slice (some ⟨g9, 0, none⟩) ys2.length cap9)).setCell ⟨X5.heap.size, 0, none⟩ (.slice none 0 0) = W11 := ⟨_, rfl⟩
        clear HFl
        rw [hW11] at hFl ⊢
        clear hW11 y0 y1 y2 y3 y4 H10 H9 H8 HK9
        have hS4 := bw_stays X5.heap.size (X5.heap.size + 1) W11
        have hR11 : Rg (Bw X5.heap.size (X5.heap.size + 1) W11) X5.heap.size (X5.heap.size + 1) W11.heap.size [] ys.length W11 := ⟨Bw.refl _ _ _, ⟨_, hFl.gt, World.ownsRow_nil _ _ _ _⟩, hFl.nx⟩
        have hgB : X5.heap.size + 1 < W11.heap.size := (Array.getElem?_eq_some_iff.1 hFl.nx).1
        refine act_name' fun A hA => ?_
        refine range_own rfl h1 (gf := 70) (lb := #[.pointer (some ⟨w3.heap.size + 1, 0, none⟩)]) (by rw [hA]; rfl) trivial (enters_of Tryz.func70 (by kernel_rfl) rfl)
          (lines_seq2 (d - 1) (by omega) (w3.heap.size + 1) (W11.heap.size + 2) (KpG X5.heap.size (X5.heap.size + 1)) W11 KpG.trans (KpG.refl _ _) (fun h => h.size) (fun W W' hle hb => KpG.of_below (by omega) hb)
            (fun W w2 X g vs b1 b2 b3 b4 b5 b6 => b6.kept g _ b5 rfl (by omega) (by omega) (fun e => by
              have hb : w2.heap[X5.heap.size]? = some (.cells #[.slice none 0 0] 67 (0, 0)) := (b3.block _ (by omega)).trans ((b1.block _ (by omega)).trans hFl.gt)
              unfold rowB at e
              rw [(box1' hb).1] at e
              cases e))
            (box1' hFl.tx).1 ((hFl.kpx.vt hE1).tl HYS2.out.2) ys2 HYS2.out.1)
          KpG.trans (fun W l o o' a1 _ hl ho => KpG.putObj W l o o' (by omega) hl ho) (fun _ => rfl)
          (fun pre W => Rg (Bw X5.heap.size (X5.heap.size + 1) W11) X5.heap.size (X5.heap.size + 1) W11.heap.size (pre.map (·.2)) ys.length W) (fun _ _ _ => False)
          (rg_ab (α := Nat × Nat × Nat) (B := W11.heap.size) (lo := W11.heap.size + 2) (fun pre => pre.map (·.2)) (fun _ => (ys.length : Int)) hS4 (by omega) (by omega) (by omega)) (fun _ _ _ _ _ hs _ _ => hs)
          hR11
          (fun x a' W' => ∃ Bx, W11.heap.size ≤ Bx ∧ W'.heap[Bx]? = some (.cells #[.int .i64 (x.2.1 : Int), .int .i64 (x.2.2 : Int)] 53 (0, 0)) ∧ a' = { tmps := (((#[107, 108] : Array Tmp).zip (encN x)).foldl (fun t (p, v) => t.setIfInBounds p v) A.tmps).setIfInBounds 20 (.pointer (some ⟨Bx, 0, none⟩)), defers := [] })
          (fun x a' _ X Y row h hg hr => h.imp fun Bx hx => ⟨hx.1, (hg.block Bx (Array.getElem?_eq_some_iff.1 hx.2.1).1 (fun e => by
            obtain ⟨_, (h3 | ⟨o, ho, hc⟩)⟩ := hr Bx e.symm
            · omega
            · rw [hx.2.1] at ho; cases ho; cases hc)).trans hx.2.1, hx.2.2⟩)
          ?assign5 ?body5 ?done5 ?stop5
        case assign5 =>
          rintro l pre ⟨i, a, b⟩ W K hi hK
          have hWs := hi.p.size
          subst hA
          gi_wp2
          exact hK _ _ (kf_below ((Below.refl _ W).alloc (Nat.le_refl _) _)) (KpG.of_below (by omega) ((Below.refl _ W).alloc (Nat.le_refl _) _)) (hi.below hS4 ((Below.refl _ W).alloc (Nat.le_refl _) _)) ⟨W.heap.size, hWs, World.alloc_heap_new W _, by simp [encN]⟩
        case body5 =>
          rintro l pre ⟨i, a, b⟩ a' W hl1 hl2 _ hWs hi ⟨Bx, hBx, qx, rfl⟩ hnx
          obtain ⟨rfl, hget, hlt, hmap⟩ := num_nx hnx
          obtain ⟨v, hv, hrow⟩ := hi.got
          obtain ⟨v0, v1⟩ := box1' hv
          obtain ⟨x0, x1⟩ := box2' qx
          rw [List.length_map] at hrow
          have HAP : Hid (∀ (w1 : World) (v' : Value) (o : Obj), w1.ownsRow W11.heap.size 53 2 v' (pre.length + 1) (spl (pre.map (·.2)) ++ [.int .i64 (a : Int), .int .i64 (b : Int)]) → (W.alloc o).grownBy w1 v.ownBlock → (v'.ownBlock = v.ownBlock ∨ v'.ownBlock = some (W.alloc o).heap.size) → (Rg (Bw X5.heap.size (X5.heap.size + 1) W11) X5.heap.size (X5.heap.size + 1) W11.heap.size ((pre ++ [(pre.length, a, b)]).map (·.2)) ys.length (w1.setCell ⟨X5.heap.size, 0, none⟩ v') ∧ KpG X5.heap.size (X5.heap.size + 1) W (w1.setCell ⟨X5.heap.size, 0, none⟩ v') ∧ KeepsFrom W11.heap.size W (w1.setCell ⟨X5.heap.size, 0, none⟩ v')) ∧ w1.heap[X5.heap.size]? = some (.cells #[v] 67 (0, 0))) := fun w1 v' o o1 o2 o3 => by
            obtain ⟨k1, k2, k3⟩ := hi.app (B := W11.heap.size) (p := (a, b)) hS4 (by omega) (by omega) (by omega) hv (by rw [List.length_map]; exact o1) o2 o3
            exact ⟨⟨by simpa using k1, k2, k3⟩, hi.at1 (by omega) hv o2⟩
          have hml : pre.length + 1 ≤ maxLen := by unfold maxLen; omega
          have hbl : (pre.length + 1) * 16 ≤ 140737488355328 := by omega
          have HW : Hid (W11.heap.size ≤ W.heap.size) := hi.p.size
          clear hi hv qx hnx hget hmap hl1 hl2 hBx hWs hR11 hFl
          subst hA
          gi_wp2_with (gi_at_builtin; refine wpListIn_append_own_at _ rfl _ _ 67 rfl W11.heap.size 53 i0 _ 2 16 Tryz.underlying67 hi0 hz0 hz1 hz2 rfl (by decide) _ _ _ rfl (hrow.alloc _) ⟨W.heap.size, 0, none⟩ 1 1 [.int .i64 (a : Int), .int .i64 (b : Int)] rfl rfl (World.news_of_block (World.alloc_heap_new W _)) (by simp [Value.oneCell']) hml hbl (by have := HW.out; simp; omega) ?_; intro v' w1' hown' hgrow _ hob; obtain ⟨g', cap', rfl⟩ := ownsRow_succ hown'; obtain ⟨k1, k4⟩ := HAP.out _ _ _ hown' hgrow hob; obtain ⟨d0, d1⟩ := box1' k4; have HK : Hid _ := k1; clear hown' hgrow hob k1 k4 v0 v1 x0 x1)
          exact ⟨HK.out.2.2, HK.out.2.1, HK.out.1⟩
        case done5 =>
          rintro D3 xs W hD3 rfl hi hK3
          rw [num_all] at hi
          obtain ⟨v, hv, hrow⟩ := hi.got
          have hne2 : ys2 ≠ [] := HYS2.out.1.ne
          obtain ⟨g5, c5, rfl, hRd⟩ : ∃ g2 c2, v = .slice (some ⟨g2, 0, none⟩) ys2.length c2 ∧ RdY W v ys2 := by
            have := RdY.of_row hrow hne2
            have h2 := this
            obtain ⟨g2, c2, e, _⟩ := this
            exact ⟨g2, c2, e, h2⟩
          have kp : ∀ {k : Nat} {o : Obj}, W11.heap[k]? = some o → k ≠ X5.heap.size → k ≠ X5.heap.size + 1 → W.heap[k]? = some o := fun ho a b => (hi.p.block _ (Array.getElem?_eq_some_iff.1 ho).1 a b).trans ho
          obtain ⟨-, -, o1, o2, o3, o4, o5⟩ := HK8.out
          have o6 := (Array.getElem?_eq_some_iff.1 H3.out.1.rs).1
          have o7 := (Array.getElem?_eq_some_iff.1 hFl.d2).1
          have hrdW : RdY W (.slice (some ⟨g9, 0, none⟩) ys2.length cap9) ys2 := rd_kp hFl.rd (hi.p.block _ (rd_lt hFl.rd) (rd_one hFl.rd hne2 hFl.gt) (rd_one hFl.rd hne2 hFl.nx)) hi.p.size
          have CSM : Hid (Calls Tryz.prog 34 #[.slice (some ⟨g5, 0, none⟩) ys2.length c5, .slice (some ⟨g9, 0, none⟩) ys2.length cap9] W fun e V => e = .returned (.bool true) ∧ Hid (Below W.heap.size W V)) := rsame_any g5 c5 g9 cap9 hyl2 hRd hrdW
          obtain ⟨z0, -⟩ := box1' hv
          obtain ⟨z1, -⟩ := box1' (kp hFl.wb (by omega) (by omega))
          have hBw : Below w.heap.size w W := ⟨hi.p.os.trans hFl.bel.os, hi.p.tape.trans hFl.bel.tape, hi.p.output.trans hFl.bel.output, Nat.le_trans hFl.bel.size hi.p.size, fun k hk => (hi.p.block k (Nat.lt_of_lt_of_le hk hFl.bel.size) (by omega) (by omega)).trans (hFl.bel.block k hk)⟩
          have HFN : Hid (∀ V, Below W.heap.size W V → V.heap[w.heap.size + 1 + 1]? = some (.cells #[.bool false] 4 (0, 0)) ∧ V.heap[D]? = some (.deferred (some [])) ∧ V.heap[D2]? = some (.deferred (some [])) ∧ V.heap[D3]? = some (.deferred (some [])) ∧ Below w.heap.size w V) := fun V hV => by
            have k2 : ∀ {k : Nat} {o : Obj}, W.heap[k]? = some o → V.heap[k]? = some o := fun ho => (hV.block _ (Array.getElem?_eq_some_iff.1 ho).1).trans ho
            exact ⟨k2 (kp hFl.rs (by omega) (by omega)), k2 (kp hFl.d1 (by omega) (by omega)), k2 (kp hFl.d2 (by omega) (by omega)), k2 hK3, Below.on hBw hV⟩
          have HO : Hid (w.heap.size + 1 + 1 < D ∧ D < D2 ∧ D2 < D3) := ⟨by omega, o2, by omega⟩
          clear hi hv hrow hRd hrdW hK3 hD3 hR11 hFl hBw o1 o2 o3 o4 o5 o6 o7 hgB kp
          subst hA
          gi_wp2_with (refine ⟨trivial, ?_⟩; gi_at_call 34; refine (callsIn_wide.2 CSM.out).mono ?_; clear CSM z0 z1; rintro e V5 ⟨rfl, H5⟩; obtain ⟨c6, f6⟩ := box1' (HFN.out V5 H5.out).1)
          obtain ⟨r5, m1', m2', m3', hB5⟩ := HFN.out V5 H5.out
          obtain ⟨o1, o2, o3⟩ := HO.out
          obtain ⟨Z, hZ⟩ : ∃ Z, V5.setCell ⟨w.heap.size + 1 + 1, 0, none⟩ (.bool true) = Z := ⟨_, rfl⟩
          have q1 : Z.heap[D]? = some (.deferred (some [])) := by rw [← hZ]; exact set_kp _ m1' (by omega)
          have q2 : Z.heap[D2]? = some (.deferred (some [])) := by rw [← hZ]; exact set_kp _ m2' (by omega)
          have q3 : Z.heap[D3]? = some (.deferred (some [])) := by rw [← hZ]; exact set_kp _ m3' (by omega)
          have q4 : Z.heap[w.heap.size + 1 + 1]? = some (.cells #[.bool true] 4 (0, 0)) := by rw [← hZ]; simpa using set1 (i := 0) (.bool true) r5
          have hBZ : Below w.heap.size w Z := by rw [← hZ]; exact hB5.setCell (p := ⟨w.heap.size + 1 + 1, 0, none⟩) (by simp; omega) _
          rw [hZ]
          have q2' : (Z.putObj D3 (.deferred none)).heap[D2]? = some (.deferred (some [])) := (World.putObj_heap_other (by omega)).trans q2
          have q1' : ((Z.putObj D3 (.deferred none)).putObj D2 (.deferred none)).heap[D]? = some (.deferred (some [])) := (World.putObj_heap_other (by omega)).trans ((World.putObj_heap_other (by omega)).trans q1)
          obtain ⟨c9, _⟩ := box1' ((World.putObj_heap_other (w := (Z.putObj D3 (.deferred none)).putObj D2 (.deferred none)) (o := .deferred none) (show w.heap.size + 1 + 1 ≠ D by omega)).trans ((World.putObj_heap_other (w := Z.putObj D3 (.deferred none)) (o := .deferred none) (show w.heap.size + 1 + 1 ≠ D2 by omega)).trans ((World.putObj_heap_other (w := Z) (o := .deferred none) (show w.heap.size + 1 + 1 ≠ D3 by omega)).trans q4)))
          refine ⟨by simp, .inl ⟨_, _, rfl, run_takeDeferred q3, ?_⟩⟩
          refine ⟨by simp, .inl ⟨_, _, rfl, run_takeDeferred q2', ?_⟩⟩
          refine ⟨by simp, .inl ⟨_, _, rfl, run_takeDeferred q1', ?_⟩⟩
          exact ⟨_, (by simp [results, Tryz.results6, go_sem, c9]), rfl, ((hBZ.trans (belowK_b (w := w) (Nat.le_refl _) _ D3 _ _ (by omega) q3 rfl rfl)).trans (belowK_b (w := w) (Nat.le_refl _) _ D2 _ _ (by omega) q2' rfl rfl)).trans (belowK_b (w := w) (Nat.le_refl _) _ D _ _ (by omega) q1' rfl rfl)⟩
        case stop5 =>
          rintro D3 c pre W _ _ h _
          exact h.elim
    case stop =>
      rintro D c pre W _ _ h _
      exact h.elim
end Go.Proofs.YtcjmfoadimpffaaGreatDoor.Sto
namespace Go.Proofs.YtcjmfoadimpffaaGreatDoor.linesWalks
open Go.RowKit Go.Shelf Sto
theorem walk_of {H : Type} {d0 d1 : DataW H} (s : ByteArray) (kd stop : Int) (w : World) (hT : Lib.Utf8Tabs 1 2 w) (hlo0 : 1 < w.heap.size) (hlo1 : 2 < w.heap.size) (_hs : s.size ≤ Rows.uptoBulk d0) (_hd : -9223372036854775808 ≤ kd ∧ kd ≤ 9223372036854775807) (_h2 : -9223372036854775808 ≤ stop ∧ stop ≤ 9223372036854775807) (_hk : Rows.uptoSmall H ([d0, d1] ++ []) = true) :
    Calls Tryz.prog 6 #[.agg #[.string s, .int .i64 kd], .int .i64 stop] w fun e W' => e = .returned (.bool true) ∧ Below w.heap.size w W' :=
  callsIn_wide.1 (walks_in 8 (by omega) s kd stop w ⟨hT, hlo0, hlo1⟩)
end Go.Proofs.YtcjmfoadimpffaaGreatDoor.linesWalks
