/-
  The walk of the law LinesNil: no text at all, and a nil store or buffer, are answered like the empty text. Conditions: the two tables of unicode/utf8 lie as their text lays them.
-/
import Derived.Test.YtcjmfoadimpffaaGreatDoorDRefC
import Derived.Test.YtcjmfoadimpffaaGreatDoorPkUK
import Derived.Lib.QuietBelow
import Derived.Lib.QuietBelowIn
import Derived.BigQuiet
namespace Go.Proofs.YtcjmfoadimpffaaGreatDoor.Sto
open Go.RowKit Go.Shelf Bod Wid Go.Lib
attribute [local go_sem] Oper.semAt_some

theorem func_nil3 (f : Fn) (a b : Array Value) (w : World) : (binOp .eql 70 (.func f a b) .nilFunc).run Tryz.prog w = .ok (.bool false) w := by kernel_rfl
/-- the boxes of the spot and of two spans, in later worlds -/
structure Nq (w : World) (x y : Int) (c : Nat) (e : Nat) (p q : Int) (W : World) : Prop where
  bel : Below w.heap.size w W
  so : W.heap[w.heap.size]? = some (.cells #[.int .i64 x, .int .i64 y] 64 (0, 0))
  c : W.heap[c]? = some (.cells #[.int .i64 p, .int .i64 q] 53 (0, 0))
  e : W.heap[e]? = some (.cells #[.int .i64 p, .int .i64 q] 53 (0, 0))
theorem Nq.below {w W W' : World} {x y p q : Int} {c e : Nat} (h : Nq w x y c e p q W) (hb : Below W.heap.size W W') : Nq w x y c e p q W' :=
  have kp : ∀ {k : Nat} {o : Obj}, W.heap[k]? = some o → W'.heap[k]? = some o := fun ho => (hb.block _ (Array.getElem?_eq_some_iff.1 ho).1).trans ho
  ⟨Below.on h.bel hb, kp h.so, kp h.c, kp h.e⟩
theorem Nq.get {w W : World} {x y p q : Int} {c e : Nat} (h : Nq w x y c e p q W) : (W.cell? ⟨w.heap.size, 0, none⟩ = some (.int .i64 x) ∧ W.cell? ⟨w.heap.size, 1, none⟩ = some (.int .i64 y)) ∧ (W.cell? ⟨c, 0, none⟩ = some (.int .i64 p) ∧ W.cell? ⟨c, 1, none⟩ = some (.int .i64 q)) ∧ (W.cell? ⟨e, 0, none⟩ = some (.int .i64 p) ∧ W.cell? ⟨e, 1, none⟩ = some (.int .i64 q)) := by simp [World.cell?, h.so, h.c, h.e]
/-- .. of the spot alone -/
structure Mq (w : World) (x y : Int) (W : World) : Prop where
  bel : Below w.heap.size w W
  so : W.heap[w.heap.size]? = some (.cells #[.int .i64 x, .int .i64 y] 64 (0, 0))
theorem Mq.below {w W W' : World} {x y : Int} (h : Mq w x y W) (hb : Below W.heap.size W W') : Mq w x y W' := ⟨Below.on h.bel hb, (hb.block _ (Array.getElem?_eq_some_iff.1 h.so).1).trans h.so⟩
theorem Mq.span {w W W' : World} {x y : Int} (h : Mq w x y W) (p q : Int) (hb : Below (W.alloc (.cells #[.int .i64 p, .int .i64 q] 53)).heap.size (W.alloc (.cells #[.int .i64 p, .int .i64 q] 53)) W') : Nq w x y W.heap.size W'.heap.size p q (W'.alloc (.cells #[.int .i64 p, .int .i64 q] 53)) := by
  have h1 := (h.below ((Below.refl _ W).alloc (Nat.le_refl _) (.cells #[.int .i64 p, .int .i64 q] 53))).below hb
  have h2 := h1.below ((Below.refl _ W').alloc (Nat.le_refl _) (.cells #[.int .i64 p, .int .i64 q] 53))
  have e1 := World.alloc_heap_new W (.cells #[.int .i64 p, .int .i64 q] 53)
  have e2 := (hb.block _ (Array.getElem?_eq_some_iff.1 e1).1).trans e1
  exact ⟨h2.bel, h2.so, (Below.heap_alloc _ _ _ (Array.getElem?_eq_some_iff.1 e2).1).trans e2, World.alloc_heap_new _ _⟩
theorem Mq.al {w W : World} {x y : Int} (h : Mq w x y W) (o : Obj) : Mq w x y (W.alloc o) := h.below ((Below.refl _ W).alloc (Nat.le_refl _) _)
theorem lns0 : Lns ⟨#[]⟩ 0 [(0, 0)] none := Lns.one (r := none) (show cn ⟨#[]⟩ 0 0 < 1 by rw [cn_self]; omega)
set_option maxRecDepth 100000 in
set_option maxHeartbeats 4000000 in
theorem empty_walk (d : Nat) (hd : 6 ≤ d) (t : Value) (z x y : Int) (hz : -9223372036854775808 ≤ z ∧ z ≤ 9223372036854775807) (hx : -9223372036854775808 ≤ x ∧ x ≤ 9223372036854775807) (hy : -9223372036854775808 ≤ y ∧ y ≤ 9223372036854775807) (w : World) (hE : Ev w) (hT : Tl w t ⟨#[]⟩)
    (CL : ∀ W, Calls Tryz.prog 33 #[t] W fun e W' => e = .returned (.func (.func 70) #[] #[.pointer (some ⟨W.heap.size, 0, none⟩)]) ∧ W' = W.alloc (.cells #[t] 44)) :
    CallsIn Fence.wide d Tryz.prog 39 #[t, .int .i64 z, .agg #[.int .i64 x, .int .i64 y]] w fun e W' => e = .returned (.bool true) ∧ Below w.heap.size w W' := by
  have h1 : 1 ≤ d := by omega
  have hM : Tryz.prog.follows .mixedOrders = true := by kernel_rfl
  have hfn := func_nil3
  have hz0 : (⟨#[]⟩ : ByteArray).size ≤ 1073741824 := by decide
  obtain ⟨oc, hoc⟩ := isCo_ex ⟨#[]⟩ z
  obtain ⟨os, hos⟩ := isS_ex ⟨#[]⟩ z
  obtain ⟨oa, hoa⟩ := isA_ex ⟨#[]⟩ x y
  obtain ⟨f1, f2, hof⟩ : ∃ y1 y2, ofv ⟨#[]⟩ z = .tuple #[.int .i64 y1, .int .i64 y2] := ⟨_, _, rfl⟩
  obtain ⟨g1, g2, hcv⟩ : ∃ y1 y2, cov oc = .tuple #[.int .i64 y1, .int .i64 y2] := ⟨_, _, rfl⟩
  obtain ⟨k1, k2, hav⟩ : ∃ y1 y2, atv oa = .tuple #[.int .i64 y1, .int .i64 y2] := ⟨_, _, rfl⟩
  obtain ⟨p, q, r, hsp⟩ : ∃ (p q r : Int), spa os = .tuple #[.agg #[.int .i64 p, .int .i64 q], .int .i64 r] := ⟨_, _, _, rfl⟩
  obtain ⟨l1, l2, hln⟩ : ∃ l1 l2, lna ⟨#[]⟩ os = .tuple #[.string l1, .int .i64 l2] := ⟨_, _, rfl⟩
  have HT : Hid (∀ W, Below w.heap.size w W → Tl W t ⟨#[]⟩ ∧ Ev W) := fun W hW => ⟨hT.below hW, hE.below hW⟩
  have C1 : Hid (∀ W, Hid (Mq w x y W) → Calls Tryz.prog 22 #[t, .int .i64 z] W fun e W' => e = .returned (.tuple #[.int .i64 f1, .int .i64 f2]) ∧ Hid (Mq w x y W')) := fun W h => (ask_of (HT.out W h.out.bel).1 z).mono fun e W' ⟨q1, q2⟩ => ⟨by rw [q1, hof], h.out.below q2⟩
  have C2 : Hid (∀ W, Hid (Mq w x y W) → Calls Tryz.prog 23 #[.string ⟨#[]⟩, .int .i64 z] W fun e W' => e = .returned (.tuple #[.int .i64 f1, .int .i64 f2]) ∧ Hid (Mq w x y W')) := fun W h => (rof_any ⟨#[]⟩ hz0 z W).mono fun e W' ⟨q1, q2⟩ => ⟨by rw [q1, hof], h.out.below q2⟩
  have C3 : Hid (∀ W, Hid (Mq w x y W) → Calls Tryz.prog 24 #[t, .int .i64 z] W fun e W' => e = .returned (.tuple #[.agg #[.int .i64 p, .int .i64 q], .int .i64 r]) ∧ Hid (Mq w x y W')) := fun W h => (ask_span (HT.out W h.out.bel).1 z hz.2 hos).mono fun e W' ⟨q1, q2⟩ => ⟨by rw [q1, hsp], h.out.below q2⟩
  have C4 : Hid (∀ W, Hid (Mq w x y W) → Calls Tryz.prog 25 #[.string ⟨#[]⟩, .int .i64 z] (W.alloc (.cells #[.int .i64 p, .int .i64 q] 53)) fun e W' => e = .returned (.tuple #[.agg #[.int .i64 p, .int .i64 q], .int .i64 r]) ∧ Hid (Nq w x y W.heap.size W'.heap.size p q (W'.alloc (.cells #[.int .i64 p, .int .i64 q] 53)))) := fun W h => (rspan_any ⟨#[]⟩ hz0 z hos _).mono fun e W' ⟨q1, q2⟩ => ⟨by rw [q1, hsp], h.out.span p q q2⟩
  have C5 : Hid (∀ W c1 c2, Hid (Nq w x y c1 c2 p q W) → Calls Tryz.prog 20 #[t] W fun e W' => e = .returned (.int .i64 1) ∧ Hid (Nq w x y c1 c2 p q W')) := fun W c1 c2 h => (ask_count (HT.out W h.out.bel).1).mono fun e W' ⟨q1, q2⟩ => ⟨by rw [q1, show (⟨#[]⟩ : ByteArray).size = 0 from rfl, cn_self]; rfl, h.out.below q2⟩
  have C6 : Hid (∀ W, Hid (Mq w x y W) → Calls Tryz.prog 26 #[t, .int .i64 z] W fun e W' => e = .returned (.tuple #[.string l1, .int .i64 l2]) ∧ Hid (Mq w x y W')) := fun W h => (ask_line (HT.out W h.out.bel).1 z hz.2 hos).mono fun e W' ⟨q1, q2⟩ => ⟨by rw [q1, hln], h.out.below q2⟩
  have C7 : Hid (∀ W, Hid (Mq w x y W) → Calls Tryz.prog 27 #[.string ⟨#[]⟩, .int .i64 z] W fun e W' => e = .returned (.tuple #[.string l1, .int .i64 l2]) ∧ Hid (Mq w x y W')) := fun W h => (rline_any ⟨#[]⟩ hz0 z hos W).mono fun e W' ⟨q1, q2⟩ => ⟨by rw [q1, hln], h.out.below q2⟩
  have C8 : Hid (∀ W, Hid (Mq w x y W) → Calls Tryz.prog 28 #[t, .int .i64 z] W fun e W' => e = .returned (.tuple #[.int .i64 g1, .int .i64 g2]) ∧ Hid (Mq w x y W')) := fun W h => (ask_col hM (HT.out W h.out.bel).1 (HT.out W h.out.bel).2 z hoc).mono fun e W' ⟨q1, q2⟩ => ⟨by rw [q1, hcv], h.out.below q2⟩
  have C9 : Hid (∀ W, Hid (Mq w x y W) → Calls Tryz.prog 29 #[.string ⟨#[]⟩, .int .i64 z] W fun e W' => e = .returned (.tuple #[.int .i64 g1, .int .i64 g2]) ∧ Hid (Mq w x y W')) := fun W h => (rcolumn_any hM ⟨#[]⟩ hz0 z hoc W).mono fun e W' ⟨q1, q2⟩ => ⟨by rw [q1, hcv], h.out.below q2⟩
  have C10 : Hid (∀ W, Hid (Mq w x y W) → Calls Tryz.prog 30 #[t, .int .i64 x, .int .i64 y] W fun e W' => e = .returned (.tuple #[.int .i64 k1, .int .i64 k2]) ∧ Hid (Mq w x y W')) := fun W h => (ask_at hM (HT.out W h.out.bel).1 (HT.out W h.out.bel).2 x y hx.2 hy.2 hoa).mono fun e W' ⟨q1, q2⟩ => ⟨by rw [q1, hav], h.out.below q2⟩
  have C11 : Hid (∀ W, Hid (Mq w x y W) → Calls Tryz.prog 31 #[.string ⟨#[]⟩, .int .i64 x, .int .i64 y] W fun e W' => e = .returned (.tuple #[.int .i64 k1, .int .i64 k2]) ∧ Hid (Mq w x y W')) := fun W h => (rat_any ⟨#[]⟩ hz0 x y hoa W).mono fun e W' ⟨q1, q2⟩ => ⟨by rw [q1, hav], h.out.below q2⟩
  have C12 : Hid (∀ W, Hid (Mq w x y W) → Calls Tryz.prog 33 #[t] (W.alloc (.cells #[.int .i64 0] 3)) fun e W' => e = .returned (.func (.func 70) #[] #[.pointer (some ⟨W.heap.size + 1, 0, none⟩)]) ∧ Hid (Mq w x y W' ∧ W'.heap[W.heap.size]? = some (.cells #[.int .i64 0] 3 (0, 0)) ∧ W'.heap[W.heap.size + 1]? = some (.cells #[t] 44 (0, 0)) ∧ W'.heap.size = W.heap.size + 2)) := fun W h => (CL _).mono fun e W' ⟨q1, q2⟩ => ⟨by rw [q1]; simp, by
    rw [q2]
    obtain ⟨p0, p1⟩ := push2 W.heap (.cells #[.int .i64 0] 3) (.cells #[t] 44)
    exact ⟨(h.out.al _).al _, p0, p1, by simp⟩⟩
  have HMg : Hid (∀ W, Hid (Mq w x y W) → W.cell? ⟨w.heap.size, 0, none⟩ = some (.int .i64 x) ∧ W.cell? ⟨w.heap.size, 1, none⟩ = some (.int .i64 y)) := fun W h => by have := h.out.so; simp [World.cell?, this]
  have HN : Hid (∀ W c1 c2, Hid (Nq w x y c1 c2 p q W) → Hid (Mq w x y W) ∧ (W.cell? ⟨c1, 0, none⟩ = some (.int .i64 p) ∧ W.cell? ⟨c1, 1, none⟩ = some (.int .i64 q)) ∧ (W.cell? ⟨c2, 0, none⟩ = some (.int .i64 p) ∧ W.cell? ⟨c2, 1, none⟩ = some (.int .i64 q))) := fun W c1 c2 h => ⟨⟨h.out.bel, h.out.so⟩, h.out.get.2.1, h.out.get.2.2⟩
  obtain ⟨W0, hW0⟩ : ∃ W0, w.alloc (.cells #[.int .i64 x, .int .i64 y] 64) = W0 := ⟨_, rfl⟩
  have H0 : Hid (Mq w x y W0) := by show Mq _ _ _ _; rw [← hW0]; exact ⟨(Below.refl _ w).alloc (Nat.le_refl _) _, World.alloc_heap_new _ _⟩
  clear hE hM hT CL hof hcv hav hsp hln hoc hos hoa hz hx hy hz0
  refine callsIn_of_wp_marks Tryz.func39 rfl trivial ?_ rfl
  simp only [Tryz.ntmps39, List.size_toArray, List.length_cons, List.length_nil, Nat.reduceAdd, Nat.reduceSub, Array.replicate_succ, Array.replicate_zero, List.push_toArray, List.append_toArray, List.nil_append, List.cons_append]
  gi_wp2_with (first
    | (refine ⟨trivial, ?_⟩; gi_at_call 22; refine (callsIn_wide.2 (C1.out _ H0)).mono ?_; clear C1 H0 hW0; rintro e w1 ⟨rfl, H1⟩)
    | (refine ⟨trivial, ?_⟩; gi_at_call 23; refine (callsIn_wide.2 (C2.out _ H1)).mono ?_; clear C2 H1; rintro e w2 ⟨rfl, H2⟩)
    | (refine ⟨trivial, ?_⟩; gi_at_call 24; refine (callsIn_wide.2 (C3.out _ H2)).mono ?_; clear C3 H2; rintro e w3 ⟨rfl, H3⟩)
    | (refine ⟨trivial, ?_⟩; gi_at_call 25; refine (callsIn_wide.2 (C4.out _ H3)).mono ?_; clear C4 H3; rintro e w4 ⟨rfl, H4⟩)
    | (refine ⟨trivial, ?_⟩; gi_at_call 20; refine (callsIn_wide.2 (C5.out _ _ _ H4)).mono ?_; clear C5 H4; rintro e w5 ⟨rfl, H5n⟩; obtain ⟨H5, ⟨y0, y1⟩, y2, y3⟩ := HN.out _ _ _ H5n; clear H5n HN)
    | (refine ⟨trivial, ?_⟩; gi_at_call 26; refine (callsIn_wide.2 (C6.out _ H5)).mono ?_; clear C6 H5 y0 y1 y2 y3; rintro e w6 ⟨rfl, H6⟩)
    | (refine ⟨trivial, ?_⟩; gi_at_call 27; refine (callsIn_wide.2 (C7.out _ H6)).mono ?_; clear C7 H6; rintro e w7 ⟨rfl, H7⟩)
    | (refine ⟨trivial, ?_⟩; gi_at_call 28; refine (callsIn_wide.2 (C8.out _ H7)).mono ?_; clear C8 H7; rintro e w8 ⟨rfl, H8⟩)
    | (refine ⟨trivial, ?_⟩; gi_at_call 29; refine (callsIn_wide.2 (C9.out _ H8)).mono ?_; clear C9 H8; rintro e w9 ⟨rfl, H9⟩; obtain ⟨z0, z1⟩ := HMg.out _ H9)
    | (refine ⟨trivial, ?_⟩; gi_at_call 30; refine (callsIn_wide.2 (C10.out _ H9)).mono ?_; clear C10 H9 z0 z1; rintro e w10 ⟨rfl, H10⟩; obtain ⟨z0, z1⟩ := HMg.out _ H10)
    | (refine ⟨trivial, ?_⟩; gi_at_call 31; refine (callsIn_wide.2 (C11.out _ H10)).mono ?_; clear C11 H10 z0 z1; rintro e w11 ⟨rfl, H11⟩)
    | (refine ⟨trivial, ?_⟩; gi_at_call 33; refine (callsIn_wide.2 (C12.out _ H11)).mono ?_; clear C12 H11; rintro e w12 ⟨rfl, H12⟩))
  have hsz : w12.heap.size = w11.heap.size + 2 := H12.out.2.2.2
  have hXs := H12.out.1.bel.size
  have hso := (Array.getElem?_eq_some_iff.1 H12.out.1.so).1
  refine act_name' fun A hA => ?_
  refine range_own rfl h1 (gf := 70) (lb := #[.pointer (some ⟨w11.heap.size + 1, 0, none⟩)]) (by rw [hA]; rfl) trivial (enters_of Tryz.func70 (by kernel_rfl) rfl)
    (lines_seq (d - 1) (by omega) (w11.heap.size + 1) (w12.heap.size + 2) (fun k _ => k = w11.heap.size) (fun k _ _ hk h => by omega) w12 (by have := H12.out.2.2.1; simp [World.cell?, this]) (HT.out _ H12.out.1.bel).1 [(0, 0)] lns0)
    KpT.trans (fun W l o o' _ _ hl ho => KpT.putObj W l o o' hl ho) (fun _ => rfl)
    (fun pre W => Mq w x y W ∧ W.heap[w11.heap.size]? = some (.cells #[.int .i64 pre.length] 3 (0, 0))) (fun _ _ _ => False)
    (fun pre A' B' row h hg hr => ⟨⟨ab_below (β := Unit) (B := w12.heap.size) hXs (Nat.le_refl _) () A' B' row h.1.bel hg hr, (hg.block _ (Array.getElem?_eq_some_iff.1 h.1.so).1 (fun e => by have := (hr _ e.symm).1; omega)).trans h.1.so⟩, (hg.block _ (Array.getElem?_eq_some_iff.1 h.2).1 (fun e => by have := (hr _ e.symm).1; omega)).trans h.2⟩)
    (fun _ _ _ _ _ hs _ _ => hs)
    ⟨H12.out.1, H12.out.2.1⟩
    (fun e a' _ => a' = { tmps := ((#[128, 129] : Array Tmp).zip (encN e)).foldl (fun t (p, v) => t.setIfInBounds p v) A.tmps, defers := [] })
    (fun _ _ _ _ _ _ hs _ _ => hs) ?assign ?body ?done ?stop
  case assign =>
    intro l pre e W K hi hK
    subst hA
    gi_wp2
    exact hK _ _ (KeepsFrom.refl _ _) (KpT.refl _ _) hi (by simp [encN])
  case body =>
    rintro l pre ⟨i, a, b⟩ a' W _ _ _ _ ⟨hq, hv⟩ rfl hnx
    have hlen : pre.length ≤ 1 := by
      have := hnx.length_le
      rw [num_len] at this
      simp only [List.length_append, List.length_cons, List.length_nil] at this
      omega
    have hc : W.cell? ⟨w11.heap.size, 0, none⟩ = some (.int .i64 pre.length) := by simp [World.cell?, hv]
    have hf : W.frozen? ⟨w11.heap.size, 0, none⟩ = false := by simp [World.frozen?, hv]
    have HQ : Hid (Mq w x y W ∧ W.heap[w11.heap.size]? = some (.cells #[.int .i64 pre.length] 3 (0, 0))) := ⟨hq, hv⟩
    have hlt : w.heap.size < w11.heap.size := by
      have e1 := H12.out.1.so
      have e2 := H12.out.2.1
      have e3 := H12.out.2.2.1
      rcases Nat.lt_trichotomy w.heap.size w11.heap.size with h | h | h
      · exact h
      · rw [h, e2] at e1; cases e1
      · have h' : w.heap.size = w11.heap.size + 1 := by omega
        rw [h', e3] at e1
        cases e1
    have HSO : Hid (w.heap.size < w11.heap.size ∧ w12.heap.size = w11.heap.size + 2) := ⟨hlt, hsz⟩
    clear hq hv hnx
    subst hA
    gi_wp2
    obtain ⟨hq, hv⟩ := HQ.out
    obtain ⟨o1, o2⟩ := HSO.out
    have g6 := gcell W w11.heap.size 0 (.int .i64 ((pre.length : Int) + 1))
    exact ⟨kf_cells g6 hv, KpT.of_grown g6 (fun r o e _ => by cases e; rfl), ⟨hq.bel.setCell (p := ⟨w11.heap.size, 0, none⟩) (by simp; omega) _, (g6.block _ (Array.getElem?_eq_some_iff.1 hq.so).1 (fun e => by injection e with e; omega)).trans hq.so⟩, by simpa using set1 (i := 0) (.int .i64 ((pre.length : Int) + 1)) hv⟩
  case done =>
    rintro D xs W hD rfl ⟨hq, hv⟩ hK
    have hc : W.cell? ⟨w11.heap.size, 0, none⟩ = some (.int .i64 1) := by simp [World.cell?, hv, num_len]
    have HQ : Hid (Below w.heap.size w W) := hq.bel
    have HD : Hid (w.heap.size ≤ D) := by show _ ≤ _; omega
    clear hq hv hD
    subst hA
    gi_wp2
    refine ⟨by simp, .inl ⟨_, _, rfl, run_takeDeferred hK, ?_⟩⟩
    exact ⟨_, results_tmp rfl _ _ _, rfl, HQ.out.trans (belowK_b (w := w) (Nat.le_refl _) W D _ _ HD.out hK rfl rfl)⟩
  case stop =>
    rintro D c pre W _ _ h _
    exact h.elim
set_option maxRecDepth 100000 in
theorem lines_nil (w : World) : Calls Tryz.prog 33 #[.nilIface] w fun e W' => e = .returned (.func (.func 70) #[] #[.pointer (some ⟨w.heap.size, 0, none⟩)]) ∧ W' = w.alloc (.cells #[.nilIface] 44) := by
  have hmf : ∀ (fn : Fn) (first cap : Array Value) (w : World), (Instr.makeFunc fn first cap).run Tryz.prog w = .ok (.func fn first cap) w := fun _ _ _ _ => rfl
  go_enter Tryz.func33, Tryz.ntmps33
  go_wp2
  go_ret
  exact ⟨rfl, rfl⟩
theorem vt_gnil {w : World} (hE : Ev w) : Vt w (.iface 84 (.pointer none)) ⟨#[]⟩ := vt_gap (v := .pointer none) (o := none) (g := Gap.g0) (n := 0) ⟨rfl, rfl, rfl⟩ hE
set_option maxRecDepth 100000 in
set_option maxHeartbeats 1000000 in
theorem nil_walk (z x y : Int) (hz : -9223372036854775808 ≤ z ∧ z ≤ 9223372036854775807) (hx : -9223372036854775808 ≤ x ∧ x ≤ 9223372036854775807) (hy : -9223372036854775808 ≤ y ∧ y ≤ 9223372036854775807) (w : World) (hE : Ev w) :
    Calls Tryz.prog 8 #[.int .i64 z, .agg #[.int .i64 x, .int .i64 y]] w fun e W' => e = .returned (.bool true) ∧ Below w.heap.size w W' := by
  have hM : Tryz.prog.follows .mixedOrders = true := by kernel_rfl
  have he : (⟨#[]⟩ : ByteArray).size ≤ 1073741824 := by decide
  obtain ⟨W0, hW0⟩ : ∃ W0, w.alloc (.cells #[.int .i64 x, .int .i64 y] 64) = W0 := ⟨_, rfl⟩
  have hb0 : Below w.heap.size w W0 ∧ W0.heap[w.heap.size]? = some (.cells #[.int .i64 x, .int .i64 y] 64 (0, 0)) := by rw [← hW0]; exact ⟨(Below.refl _ w).alloc (Nat.le_refl _) _, World.alloc_heap_new w _⟩
  have HX : Hid (∀ W, Below W0.heap.size W0 W → W.cell? ⟨w.heap.size, 0, none⟩ = some (.int .i64 x) ∧ W.cell? ⟨w.heap.size, 1, none⟩ = some (.int .i64 y)) := fun W hW => by
    have := (hW.block _ (Array.getElem?_eq_some_iff.1 hb0.2).1).trans hb0.2
    simp [World.cell?, this]
  have CA : Hid (Calls Tryz.prog 18 #[] W0 fun e W' => e = .returned (.bool true) ∧ Hid (Below W0.heap.size W0 W')) := awake_any hM W0 (hE.below hb0.1)
  have E1 : Hid (∀ W, Hid (Below W0.heap.size W0 W) → Calls Tryz.prog 39 #[.nilIface, .int .i64 z, .agg #[.int .i64 x, .int .i64 y]] W fun e W' => e = .returned (.bool true) ∧ Hid (Below W0.heap.size W0 W')) := fun W hW => by
    have hE2 := hE.below (Below.on hb0.1 hW.out)
    exact (callsIn_wide.1 (empty_walk 6 (by omega) .nilIface z x y hz hx hy W hE2 (tl_nil hE2) lines_nil)).mono fun e W' ⟨q1, q2⟩ => ⟨q1, Below.on hW.out q2⟩
  have E2 : Hid (∀ W, Hid (Below W0.heap.size W0 W) → Calls Tryz.prog 39 #[.iface 75 (.pointer none), .int .i64 z, .agg #[.int .i64 x, .int .i64 y]] W fun e W' => e = .returned (.bool true) ∧ Hid (Below W0.heap.size W0 W')) := fun W hW => by
    have hE2 := hE.below (Below.on hb0.1 hW.out)
    exact (callsIn_wide.1 (empty_walk 6 (by omega) _ z x y hz hx hy W hE2 ((vt_nil hE2).tl he) (fun W => lines_any W _ _))).mono fun e W' ⟨q1, q2⟩ => ⟨q1, Below.on hW.out q2⟩
  have E3 : Hid (∀ W, Hid (Below W0.heap.size W0 W) → Calls Tryz.prog 39 #[.iface 84 (.pointer none), .int .i64 z, .agg #[.int .i64 x, .int .i64 y]] W fun e W' => e = .returned (.bool true) ∧ Hid (Below W0.heap.size W0 W')) := fun W hW => by
    have hE2 := hE.below (Below.on hb0.1 hW.out)
    exact (callsIn_wide.1 (empty_walk 6 (by omega) _ z x y hz hx hy W hE2 ((vt_gnil hE2).tl he) (fun W => lines_any W _ _))).mono fun e W' ⟨q1, q2⟩ => ⟨q1, Below.on hW.out q2⟩
  have HB0 : Hid (Below w.heap.size w W0) := hb0.1
  clear hE hM hb0 hz hx hy he
  have K1 : True := trivial
  have K2 : True := trivial
  go_enter Tryz.func8, Tryz.ntmps8
  go_wp2_with (first
    | (go_at_call 18; refine CA.out.mono ?_; clear CA hW0; rintro e w1 ⟨rfl, H1⟩; obtain ⟨c0, c1⟩ := HX.out _ H1.out)
    | (go_at_call 39; clear K1; refine (E1.out _ H1).mono ?_; clear E1 c0 c1; rintro e w2 ⟨rfl, H2⟩; obtain ⟨c0, c1⟩ := HX.out _ H2.out)
    | (go_at_call 39; clear K2; refine (E2.out _ H2).mono ?_; clear E2 c0 c1; rintro e w3 ⟨rfl, H3⟩; obtain ⟨c0, c1⟩ := HX.out _ H3.out)
    | (go_at_call 39; refine (E3.out _ H3).mono ?_; clear E3 c0 c1; rintro e w4 ⟨rfl, H4⟩))
  go_ret
  exact ⟨rfl, Below.on HB0.out H4.out⟩
end Go.Proofs.YtcjmfoadimpffaaGreatDoor.Sto
namespace Go.Proofs.YtcjmfoadimpffaaGreatDoor.linesNil
open Go.RowKit Go.Shelf Sto
theorem walk_of {H : Type} {d0 d1 : DataW H} (z x y : Int) (w : World) (hT : Lib.Utf8Tabs 1 2 w) (hlo0 : 1 < w.heap.size) (hlo1 : 2 < w.heap.size) (hz : -9223372036854775808 ≤ z ∧ z ≤ 9223372036854775807) (hx : -9223372036854775808 ≤ x ∧ x ≤ 9223372036854775807) (hy : -9223372036854775808 ≤ y ∧ y ≤ 9223372036854775807) (_hk : Rows.uptoSmall H ([d0, d1] ++ []) = true) :
    Calls Tryz.prog 8 #[.int .i64 z, .agg #[.int .i64 x, .int .i64 y]] w fun e W' => e = .returned (.bool true) ∧ Below w.heap.size w W' :=
  nil_walk z x y hz hx hy w ⟨hT, hlo0, hlo1⟩
end Go.Proofs.YtcjmfoadimpffaaGreatDoor.linesNil
