/-
  The walk of the law ClusterWalks: for every text of at most 1048576 letters and every number it returns true: a range over package cluster's Walk yields the document's own list, broken off or not, and with another range within. Conditions: the two tables of unicode/utf8 lie as their text lays them.
-/
import Derived.Test.YtjgeeimkcghmoaaDoorYListW
import Derived.Test.YtjgeeimkcghmoaaDoorUQuietR
import Derived.Test.YtjgeeimkcghmoaaDoorCIter
namespace Go.Proofs.YtjgeeimkcghmoaaDoor.clusterWalks
open Go.RowKit Go.Shelf Bod Wid
attribute [local go_sem] Oper.semAt_some

theorem act_name {c : Code} {F : Fence} {n : Nat} {P : Program} {Q : Exit → Act → World → Prop} {a : Act} {w : World} (h : ∀ A, A = a → c.wpIn F n P Q A w) : c.wpIn F n P Q a w := h a rfl
theorem func_nil (f : Fn) (a b : Array Value) (w : World) : (binOp .eql 37 (.func f a b) .nilFunc).run Tryd.prog w = .ok (.bool false) w := by kernel_rfl

theorem push4 (a : Array Obj) (o0 o1 o2 o3 : Obj) : ((((a.push o0).push o1).push o2).push o3)[a.size]? = some o0 ∧ ((((a.push o0).push o1).push o2).push o3)[a.size + 1]? = some o1 ∧ ((((a.push o0).push o1).push o2).push o3)[a.size + 1 + 1]? = some o2 ∧ ((((a.push o0).push o1).push o2).push o3)[a.size + 1 + 1 + 1]? = some o3 := by
  obtain ⟨h0, h1⟩ := push2 a o0 o1
  obtain ⟨h2, h3⟩ := push2 ((a.push o0).push o1) o2 o3
  simp only [Array.size_push] at h2 h3
  refine ⟨?_, ?_, h2, h3⟩
  · rw [Array.getElem?_push, if_neg (by simp only [Array.size_push]; omega), Array.getElem?_push, if_neg (by simp only [Array.size_push]; omega)]; exact h0
  · rw [Array.getElem?_push, if_neg (by simp only [Array.size_push]; omega), Array.getElem?_push, if_neg (by simp only [Array.size_push]; omega)]; exact h1

/-- what holds between two rounds: the boxes of the list, the text, the iterator and the count; all below lies as it lay -/
structure WK (W5 : World) (s : ByteArray) (N cap : Nat) (a0 : Option Addr) (k : Nat) (W : World) : Prop where
  below : Below W5.heap.size W5 W
  lst : W.heap[W5.heap.size]? = some (.cells #[.slice a0 N cap] 31 (0, 0))
  txt : W.heap[W5.heap.size + 1]? = some (.cells #[.string s] 9 (0, 0))
  it : W.heap[W5.heap.size + 1 + 1]? = some (.cells #[.func (.func 43) #[] #[.pointer (some ⟨W5.heap.size + 1, 0, none⟩)]] 37 (0, 0))
  n : W.heap[W5.heap.size + 1 + 1 + 1]? = some (.cells #[.int .i64 k] 3 (0, 0))
theorem WK.lt {W5 : World} {s : ByteArray} {N cap : Nat} {a0 : Option Addr} {k : Nat} {W : World} (h : WK W5 s N cap a0 k W) : W5.heap.size + 4 ≤ W.heap.size := by
  have := (Array.getElem?_eq_some_iff.1 h.n).1
  omega
theorem WK.kept {W5 : World} {s : ByteArray} {N cap : Nat} {a0 : Option Addr} {k : Nat} {W W' : World} {row : Option Nat} (h : WK W5 s N cap a0 k W) (hg : W.grownBy W' row) (hr : ∀ r, row = some r → W5.heap.size + 4 ≤ r) : WK W5 s N cap a0 k W' := by
  have hl := h.lt
  have kp : ∀ {j : Nat} {o : Obj}, j < W5.heap.size + 4 → W.heap[j]? = some o → W'.heap[j]? = some o := fun hj ho => (hg.block _ (Array.getElem?_eq_some_iff.1 ho).1 (fun e => by have := hr _ e.symm; omega)).trans ho
  exact ⟨h.below.grown hg (by omega) (fun j e => by have := hr j e; omega), kp (by omega) h.lst, kp (by omega) h.txt, kp (by omega) h.it, kp (by omega) h.n⟩
theorem WK.of_below {W5 : World} {s : ByteArray} {N cap : Nat} {a0 : Option Addr} {k : Nat} {W W' : World} (h : WK W5 s N cap a0 k W) (hb : Below W.heap.size W W') : WK W5 s N cap a0 k W' := h.kept (grown_of_below hb) (fun r e => by cases e)
theorem WK.drew {W5 : World} {s : ByteArray} {N cap : Nat} {a0 : Option Addr} {k : Nat} {W : World} (h : WK W5 s N cap a0 k W) (m : Nat) : WK W5 s N cap a0 k (W.drewN m) :=
  ⟨⟨h.below.os, h.below.tape, h.below.output, h.below.size, h.below.block⟩, h.lst, h.txt, h.it, h.n⟩
theorem WK.step {W5 : World} {s : ByteArray} {N cap : Nat} {a0 : Option Addr} {k : Nat} {W : World} (h : WK W5 s N cap a0 k W) (k' : Nat) : WK W5 s N cap a0 k' (W.setCell ⟨W5.heap.size + 1 + 1 + 1, 0, none⟩ (.int .i64 k')) := by
  have hg := gcell W (W5.heap.size + 1 + 1 + 1) 0 (.int .i64 k')
  have hl := h.lt
  have kp : ∀ {j : Nat} {o : Obj}, j < W5.heap.size + 3 → W.heap[j]? = some o → (W.setCell ⟨W5.heap.size + 1 + 1 + 1, 0, none⟩ (.int .i64 k')).heap[j]? = some o := fun hj ho => (hg.block _ (Array.getElem?_eq_some_iff.1 ho).1 (fun e => by cases e; omega)).trans ho
  exact ⟨h.below.grown hg (by omega) (fun j e => by cases e; omega), kp (by omega) h.lst, kp (by omega) h.txt, kp (by omega) h.it, by simpa using set1 (i := 0) (.int .i64 k') h.n⟩
theorem box1 {W : World} {b : Nat} {v : Value} {t : TypeId} (h : W.heap[b]? = some (.cells #[v] t (0, 0))) : W.cell? ⟨b, 0, none⟩ = some v ∧ W.frozen? ⟨b, 0, none⟩ = false := by
  simp [World.cell?, World.frozen?, h]
theorem at_pre {l pre : List Clu} {x : Clu} (h : pre ++ [x] <+: l) : l[pre.length]? = some x ∧ pre.length < l.length := by
  obtain ⟨r, rfl⟩ := h
  simp
/-- the list's cells, as long as all below lies as it lay -/
def LCells (W5 : World) (s : ByteArray) (a0 : Option Addr) : Prop := ∀ k c, (cl s)[k]? = some c → ∃ g, a0 = some ⟨g, 0, none⟩ ∧ ∀ W, Below W5.heap.size W5 W → W.cell? ⟨g, k * 4, none⟩ = some (.int .i64 c.fr) ∧ W.cell? ⟨g, k * 4 + 1, none⟩ = some (.int .i64 c.to) ∧ W.cell? ⟨g, k * 4 + 2, none⟩ = some (.int .i64 c.k) ∧ W.cell? ⟨g, k * 4 + 3, none⟩ = some (.int .i64 c.n)
/-- the box of the cluster that came -/
theorem bx_kept {B Bx : Nat} {x : Clu} (hB : B ≤ Bx) {X Y : World} {row : Option Nat} (h : X.heap[Bx]? = some (.cells (cvs x) 41 (0, 0))) (hg : X.grownBy Y row) (hr : Turns B B B X row) : Y.heap[Bx]? = some (.cells (cvs x) 41 (0, 0)) :=
  (hg.block Bx (Array.getElem?_eq_some_iff.1 h).1 (fun e => by
    obtain ⟨_, (h3 | ⟨o, ho, hc⟩)⟩ := hr Bx e.symm
    · omega
    · rw [h] at ho; cases ho; cases hc)).trans h

set_option maxRecDepth 100000 in
set_option maxHeartbeats 4000000 in
theorem walk (n : Nat) (hn : 7 ≤ n) (s : ByteArray) (stop : Int) (hs : s.size ≤ 1048576) (w : World) (hT : Lib.Utf8Tabs 0 1 w) (_hlo0 : 0 < w.heap.size) (hlo1 : 1 < w.heap.size) :
    CallsIn Fence.wide n Tryd.prog 5 #[.string s, .int .i64 stop] w fun e w' => e = .returned (.bool true) ∧ Below w.heap.size w w' := by
  have h1 : 1 ≤ n := by omega
  have hs' : s.size ≤ maxLen := by unfold maxLen; omega
  have hfn := func_nil
  obtain ⟨N, hN⟩ : ∃ N, (cl s).length = N := ⟨_, rfl⟩
  have hNs : N ≤ s.size := by rw [← hN]; exact cl_len s
  obtain ⟨w0, hw0⟩ : ∃ w0, (w.alloc (.cells #[.int .i64 stop] 3)).alloc (.cells #[.bool false] 4) = w0 := ⟨_, rfl⟩
  have hB0 : Below w.heap.size w w0 := by rw [← hw0]; exact ((Below.refl _ w).alloc (Nat.le_refl _) _).alloc (by simp) _
  have hsz0 : w0.heap.size = w.heap.size + 2 := by rw [← hw0]; simp
  have hx3 : w0.heap[w.heap.size]? = some (.cells #[.int .i64 stop] 3 (0, 0)) := by rw [← hw0]; exact (push2 w.heap _ _).1
  have hx4 : w0.heap[w.heap.size + 1]? = some (.cells #[.bool false] 4 (0, 0)) := by rw [← hw0]; exact (push2 w.heap _ _).2
  have C1 : Hid (CallsIn Fence.wide (n - 1) Tryd.prog 9 #[] w0 fun e w' => e = .returned (.bool true) ∧ Below w0.heap.size w0 w') := callsIn_wide.2 (fixed_any w0 (tabs_below hT hB0) (by omega) (by omega))
  have C2 : Hid (∀ W, Below w0.heap.size w0 W → CallsIn Fence.wide (n - 1) Tryd.prog 20 #[.string s] W fun e W' => ∃ a cap, e = .returned (.slice a N cap) ∧ Hid (cl s ≠ [] → ∃ g, a = some ⟨g, 0, none⟩ ∧ g < W'.heap.size ∧ ∀ k c, (cl s)[k]? = some c → W'.cell? ⟨g, k * 4, none⟩ = some (.int .i64 c.fr) ∧ W'.cell? ⟨g, k * 4 + 1, none⟩ = some (.int .i64 c.to) ∧ W'.cell? ⟨g, k * 4 + 2, none⟩ = some (.int .i64 c.k) ∧ W'.cell? ⟨g, k * 4 + 3, none⟩ = some (.int .i64 c.n)) ∧ Below w0.heap.size w0 W') := fun W hW => callsIn_wide.2 ((rlist_any s (by omega) W).mono fun e W' ⟨v, h1, h2, h3⟩ => by
    obtain ⟨a, cap, rfl, hr⟩ := Rd4.of_row h2
    rw [hN] at h1
    exact ⟨a, cap, h1, hr, hW.trans (h3.mono hW.size)⟩)
  have HB0 : Hid (Below w.heap.size w w0) := hB0
  have HSZ : Hid (w0.heap.size = w.heap.size + 2) := hsz0
  have HX3 : Hid (w0.heap[w.heap.size]? = some (.cells #[.int .i64 stop] 3 (0, 0))) := hx3
  have HX4 : Hid (w0.heap[w.heap.size + 1]? = some (.cells #[.bool false] 4 (0, 0))) := hx4
  have HN : Hid ((cl s).length = N) := hN
  clear hB0 hsz0 hx3 hx4 hN
  refine callsIn_of_wp_marks Tryd.func5 rfl trivial ?_ rfl
  simp only [Tryd.ntmps5, List.size_toArray, List.length_cons, List.length_nil, Nat.reduceAdd, Nat.reduceSub, Array.replicate_succ, Array.replicate_zero, List.push_toArray, List.append_toArray, List.nil_append, List.cons_append]
  gi_wp2_with (first | (refine ⟨trivial, ?_⟩; gi_at_call 9; refine (Hid.out C1).mono ?_; clear C1; rintro e w1 ⟨rfl, hb1⟩; have HB1 : Hid (Below w0.heap.size w0 w1) := hb1; clear hb1) | (refine ⟨trivial, ?_⟩; gi_at_call 20; refine (C2.out _ HB1.out).mono ?_; clear C2; rintro e W5 ⟨a0, cap, rfl, HC, hb5⟩; have HB5 : Hid (Below w0.heap.size w0 W5) := hb5; clear hb5) | (refine ⟨trivial, ?_⟩; gi_at_call 27; refine (walk_in (n - 1) _ _).mono ?_; rintro e w' ⟨rfl, rfl⟩))
  have hB5 : Below w.heap.size w W5 := HB0.out.trans (HB5.out.mono HB0.out.size)
  have hsz5 : w.heap.size + 2 ≤ W5.heap.size := by have := HB5.out.size; have := HSZ.out; omega
  have h53 : W5.heap[w.heap.size]? = some (.cells #[.int .i64 stop] 3 (0, 0)) := (HB5.out.block _ (by have := HSZ.out; omega)).trans HX3.out
  have h54 : W5.heap[w.heap.size + 1]? = some (.cells #[.bool false] 4 (0, 0)) := (HB5.out.block _ (by have := HSZ.out; omega)).trans HX4.out
  have HLC : Hid (LCells W5 s a0) := fun k c hk => by
    obtain ⟨g, hg, hgl, hc⟩ := HC.out (fun e => by rw [e] at hk; simp at hk)
    refine ⟨g, hg, fun W hW => ?_⟩
    obtain ⟨e0, e1, e2, e3⟩ := hc k c hk
    exact ⟨(hW.cell (p := ⟨g, k * 4, none⟩) hgl).trans e0, (hW.cell (p := ⟨g, k * 4 + 1, none⟩) hgl).trans e1, (hW.cell (p := ⟨g, k * 4 + 2, none⟩) hgl).trans e2, (hW.cell (p := ⟨g, k * 4 + 3, none⟩) hgl).trans e3⟩
  obtain ⟨W6, hW6⟩ : ∃ W6, (((W5.alloc (.cells #[.slice a0 N cap] 31)).alloc (.cells #[.string s] 9)).alloc (.cells #[.func (.func 43) #[] #[.pointer (some ⟨W5.heap.size + 1, 0, none⟩)]] 37)).alloc (.cells #[.int .i64 0] 3) = W6 := ⟨_, rfl⟩
  rw [hW6]
  have hK6 : WK W5 s N cap a0 0 W6 := by
    obtain ⟨p0, p1, p2, p3⟩ := push4 W5.heap (.cells #[.slice a0 N cap] 31) (.cells #[.string s] 9) (.cells #[.func (.func 43) #[] #[.pointer (some ⟨W5.heap.size + 1, 0, none⟩)]] 37) (.cells #[.int .i64 0] 3)
    rw [← hW6]
    exact ⟨((((Below.refl _ W5).alloc (Nat.le_refl _) _).alloc (by simp) _).alloc (by simp; omega) _).alloc (by simp; omega) _, p0, p1, p2, p3⟩
  have hsz6 : W6.heap.size = W5.heap.size + 4 := by rw [← hW6]; simp
  clear hW6 HC HB5 HX3 HX4 HB1 hw0 HSZ
  have hB6 : Below w.heap.size w W6 := hB5.trans (hK6.below.mono hB5.size)
  refine act_name fun A hA => ?_
  refine wpIn_mono (Q := fun e a' W' => (e = .normal ∨ e = .exit 0) ∧ ∃ D k, W5.heap.size + 4 ≤ D ∧ a' = { A with defers := { target := .collected D, args := #[] } :: A.defers } ∧ WK W5 s N cap a0 k W' ∧ (1 ≤ stop → stop ≤ (N : Int) → (k : Int) = stop) ∧ W'.heap[D]? = some (.deferred (some []))) ?first ?rest
  case first =>
    refine range_own rfl h1 (gf := 43) (lb := #[.pointer (some ⟨W5.heap.size + 1, 0, none⟩)]) (by rw [hA]; rfl) trivial (enters_of Tryd.func43 (by kernel_rfl) rfl)
      (clu_seq (n - 1) (by omega) (W5.heap.size + 1) (W6.heap.size + 2) (fun k _ => k = W5.heap.size + 3) s hs' (fun _ h => by omega) (fun _ h => by omega) (fun _ h => by omega) (fun k _ h1 h2 h => by omega) (fun k _ _ h1 h => by omega)
        W6 (by omega) (by omega) (by omega) hK6.txt (tabs_below hT hB6))
      KpT.trans (fun W l o o' _ _ hl ho => KpT.putObj W l o o' hl ho) (fun _ => rfl)
      (fun pre W => WK W5 s N cap a0 pre.length W ∧ ¬ (1 ≤ stop ∧ stop ≤ (pre.length : Int)))
      (fun c pre W => c = .exit 0 ∧ WK W5 s N cap a0 pre.length W ∧ (pre.length : Int) = stop)
      (fun pre X Y row h hg hr => ⟨h.1.kept hg (fun r e => by have := (hr r e).1; omega), h.2⟩)
      (fun c pre X Y row h hg hr => ⟨h.1, h.2.1.kept hg (fun r e => by have := (hr r e).1; omega), h.2.2⟩)
      ⟨hK6, fun h => by have := h.2; simp at this; omega⟩
      (fun x a' W' => ∃ Bx, W6.heap.size ≤ Bx ∧ W'.heap[Bx]? = some (.cells (cvs x) 41 (0, 0)) ∧ a' = { tmps := (((#[21] : Array Tmp).zip (encC x)).foldl (fun t (p, v) => t.setIfInBounds p v) A.tmps).setIfInBounds 8 (.pointer (some ⟨Bx, 0, none⟩)), defers := [] })
      (fun x a' _ X Y row h hg hr => h.imp fun Bx hx => ⟨hx.1, bx_kept hx.1 hx.2.1 hg hr, hx.2.2⟩)
      ?assign ?body ?done ?stop
    case assign =>
      rintro l pre x W K ⟨hi, hj⟩ hK
      have hl := hi.lt
      subst hA
      gi_wp2
      exact hK _ _ (kf_below ((Below.refl _ W).alloc (Nat.le_refl _) _)) (KpT.of_below ((Below.refl _ W).alloc (Nat.le_refl _) _)) ⟨hi.of_below ((Below.refl _ W).alloc (Nat.le_refl _) _), hj⟩ ⟨W.heap.size, by omega, World.alloc_heap_new W _, by simp [encC]⟩
    case body =>
      rintro l pre x a' W _ _ _ _ ⟨hi, hj⟩ ⟨Bx, hBx, qx, rfl⟩ hnx
      obtain ⟨hget, hlt⟩ := at_pre hnx
      rw [HN.out] at hlt
      obtain ⟨g, hg, hcells⟩ := HLC.out _ _ hget
      obtain ⟨e0, e1, e2, e3⟩ := hcells W hi.below
      obtain ⟨⟨d0, d1, d2, d3⟩, _⟩ := box4 qx
      obtain ⟨c5, _⟩ := box1 hi.lst
      obtain ⟨cn, fn⟩ := box1 hi.n
      obtain ⟨c3, _⟩ := box1 ((hi.below.block _ (by omega)).trans h53)
      have t1 : decide ((N : Int) ≤ (pre.length : Int)) = false := by simp; omega
      have t1n : decide (N ≤ pre.length) = false := by simp; omega
      subst hA
      rw [hg] at c5
      gi_wp2
      refine region_quiet (by kernel_rfl) (by kernel_rfl) (by kernel_rfl) ?_
      repeat (gi_big_quiet_step (fail))
      refine wpQuietIn_nil ?_
      intro _ hw'
      obtain ⟨nq, hw''⟩ := hw'
      subst hw''
      have hWX := hi.drew nq
      have hKF : KeepsFrom W6.heap.size W (W.drewN nq) := ⟨Nat.le_refl _, fun _ _ _ h _ => h⟩
      have hKM : KpT (fun k _ => k = W5.heap.size + 3) W (W.drewN nq) := ⟨Nat.le_refl _, fun _ _ h _ _ => h⟩
      have c3' : (W.drewN nq).cell? ⟨w.heap.size, 0, none⟩ = some (.int .i64 stop) := c3
      obtain ⟨X, hX⟩ : ∃ X, W.drewN nq = X := ⟨_, rfl⟩
      rw [hX] at hWX hKF hKM c3' ⊢
      clear hX e0 e1 e2 e3 d0 d1 d2 d3 c5 cn fn c3 t1 t1n hcells
      obtain ⟨cn, fn⟩ := box1 hWX.n
      by_cases hst : (pre.length : Int) + 1 = stop
      · have hl1 : ((pre.length : Int) + 1 == stop) = true := by simpa using hst
        have HST : Hid ((pre.length : Int) + 1 = stop) := hst
        clear hst
        gi_wp2
        have hst := HST.out
        exact ⟨kf_trans hKF (kf_cells (gcell _ _ _ _) hWX.n), rfl, by simpa using hWX.step (pre.length + 1), by simp; omega⟩
      · have hl1 : ((pre.length : Int) + 1 == stop) = false := by simpa using hst
        gi_wp2
        exact ⟨kf_trans hKF (kf_cells (gcell _ _ _ _) hWX.n), hKM.trans (KpT.of_grown (gcell _ _ _ _) (fun r o e _ => by cases e; rfl)), by simpa using hWX.step (pre.length + 1), by simp; omega⟩
    case done =>
      rintro D ys W hD rfl ⟨hi, hj⟩ hK
      exact ⟨.inl rfl, D, _, by omega, rfl, hi, fun h2 h3 => absurd ⟨h2, by rw [HN.out]; exact h3⟩ hj, hK⟩
    case stop =>
      rintro D c pre W hD hSp ⟨rfl, hi, hj⟩ hK
      refine wpIn_exit ?_
      exact ⟨.inr rfl, D, _, by omega, rfl, hi, fun _ _ => hj, hK⟩
  case rest =>
    rintro e a' W1 ⟨he, D, k, hD, rfl, hW1, hk, hD1⟩
    suffices hq : (Exit.inBlock 0 _) .normal _ W1 by
      rcases he with rfl | rfl
      · exact hq
      · exact hq
    subst hA
    clear hK6 hsz6 hB6
    obtain ⟨c3, _⟩ := box1 ((hW1.below.block _ (by omega)).trans h53)
    obtain ⟨c5, _⟩ := box1 hW1.lst
    obtain ⟨cn, fn⟩ := box1 hW1.n
    obtain ⟨c6, _⟩ := box1 hW1.it
    have hlt1 := hW1.lt
    have hD1' : (W1.setCell ⟨W5.heap.size + 1 + 1 + 1, 0, none⟩ (.int .i64 0)).heap[D]? = some (.deferred (some [])) := ((gcell W1 (W5.heap.size + 1 + 1 + 1) 0 (.int .i64 0)).block D (Array.getElem?_eq_some_iff.1 hD1).1 (fun e => by cases e; omega)).trans hD1
    have HW1 : Hid (WK W5 s N cap a0 0 (W1.setCell ⟨W5.heap.size + 1 + 1 + 1, 0, none⟩ (.int .i64 0))) := hW1.step 0
    have HD1 : Hid ((W1.setCell ⟨W5.heap.size + 1 + 1 + 1, 0, none⟩ (.int .i64 0)).heap[D]? = some (.deferred (some []))) := hD1'
    clear hW1 hD1 hD1'
    have hcase : (¬ 1 ≤ stop) ∨ (1 ≤ stop ∧ ¬ stop ≤ (N : Int)) ∨ (1 ≤ stop ∧ stop ≤ (N : Int) ∧ (k : Int) = stop) := by
      by_cases a1 : 1 ≤ stop
      · by_cases a2 : stop ≤ (N : Int)
        · exact .inr (.inr ⟨a1, a2, hk a1 a2⟩)
        · exact .inr (.inl ⟨a1, a2⟩)
      · exact .inl a1
    clear hk
    rcases hcase with a1 | ⟨a1, a2⟩ | ⟨a1, a2, a3⟩
    case' inr.inr =>
      have hl3 : ((k : Int) == stop) = true := by simpa using a3
      clear a3
    all_goals gi_wp2
    all_goals (obtain ⟨W2, hW2⟩ : ∃ W2, W1.setCell ⟨W5.heap.size + 1 + 1 + 1, 0, none⟩ (.int .i64 0) = W2 := ⟨_, rfl⟩)
    all_goals rw [hW2] at HW1 HD1 ⊢
    all_goals clear hW2 c3 c5 cn fn c6
    all_goals
      have hW2 := HW1.out
      have hD2 := HD1.out
      have hlt2 := hW2.lt
      have hB2 : Below w.heap.size w W2 := hB5.trans (hW2.below.mono hB5.size)
      have hDl : D < W2.heap.size := (Array.getElem?_eq_some_iff.1 hD2).1
      refine act_name fun A hA => ?_
      refine range_own rfl h1 (gf := 43) (lb := #[.pointer (some ⟨W5.heap.size + 1, 0, none⟩)]) (by rw [hA]; rfl) trivial (enters_of Tryd.func43 (by kernel_rfl) rfl)
        (clu_seq (n - 1) (by omega) (W5.heap.size + 1) (W2.heap.size + 2) (fun k _ => k = W5.heap.size + 3) s hs' (fun _ h => by omega) (fun _ h => by omega) (fun _ h => by omega) (fun k _ h1 h2 h => by omega) (fun k _ _ h1 h => by omega)
          W2 (by omega) (by omega) (by omega) hW2.txt (tabs_below hT hB2))
        KpT.trans (fun W l o o' _ _ hl ho => KpT.putObj W l o o' hl ho) (fun _ => rfl)
        (fun pre W => WK W5 s N cap a0 pre.length W ∧ W.heap[D]? = some (.deferred (some [])) ∧ W2.heap.size ≤ W.heap.size)
        (fun _ _ _ => False)
        (fun pre X Y row h hg hr => ⟨h.1.kept hg (fun r e => by have := (hr r e).1; omega), (hg.block D (Array.getElem?_eq_some_iff.1 h.2.1).1 (fun e => by have := (hr D e.symm).1; omega)).trans h.2.1, Nat.le_trans h.2.2 hg.size⟩)
        (fun c pre X Y row h hg hr => h)
        ⟨hW2, hD2, Nat.le_refl _⟩
        (fun x a' W' => ∃ Bx, W2.heap.size ≤ Bx ∧ W'.heap[Bx]? = some (.cells (cvs x) 41 (0, 0)) ∧ a' = { tmps := (((#[53] : Array Tmp).zip (encC x)).foldl (fun t (p, v) => t.setIfInBounds p v) A.tmps).setIfInBounds 9 (.pointer (some ⟨Bx, 0, none⟩)), defers := [] })
        (fun x a' _ X Y row h hg hr => h.imp fun Bx hx => ⟨hx.1, bx_kept hx.1 hx.2.1 hg hr, hx.2.2⟩)
        ?assign ?body ?done ?stop
      case assign =>
        rintro l pre x W K ⟨hi, hj, hWle⟩ hK
        have hl := hi.lt
        have hl2 := (Array.getElem?_eq_some_iff.1 hj).1
        subst hA
        gi_wp2
        exact hK _ _ (kf_below ((Below.refl _ W).alloc (Nat.le_refl _) _)) (KpT.of_below ((Below.refl _ W).alloc (Nat.le_refl _) _)) ⟨hi.of_below ((Below.refl _ W).alloc (Nat.le_refl _) _), (Below.heap_alloc _ _ _ hl2).trans hj, Nat.le_trans hWle (by simp)⟩ ⟨W.heap.size, hWle, World.alloc_heap_new W _, by first | (simp [encC]; done) | (simp [encC]; simpa using hl3)⟩
      case body =>
        rintro l pre x a' W _ _ ⟨r, hr⟩ hlW ⟨hi, hj, hWle⟩ ⟨Bx, hBx, qx, rfl⟩ hnx
        obtain ⟨hget, hlt⟩ := at_pre hnx
        rw [HN.out] at hlt
        obtain ⟨g, hg, hcells⟩ := HLC.out _ _ hget
        obtain ⟨e0, e1, e2, e3⟩ := hcells W hi.below
        obtain ⟨⟨d0, d1, d2, d3⟩, _⟩ := box4 qx
        obtain ⟨c5, _⟩ := box1 hi.lst
        obtain ⟨cn, fn⟩ := box1 hi.n
        obtain ⟨c3, _⟩ := box1 ((hi.below.block _ (by omega)).trans h53)
        have t1 : decide ((N : Int) ≤ (pre.length : Int)) = false := by simp; omega
        have t1n : decide (N ≤ pre.length) = false := by simp; omega
        subst hA
        rw [hg] at c5
        gi_wp2
        refine region_quiet (by kernel_rfl) (by kernel_rfl) (by kernel_rfl) ?_
        repeat (gi_big_quiet_step (fail))
        refine wpQuietIn_nil ?_
        intro _ hw'
        obtain ⟨nq, hw''⟩ := hw'
        subst hw''
        have hWX := hi.drew nq
        have hKF : KeepsFrom W2.heap.size W (W.drewN nq) := ⟨Nat.le_refl _, fun _ _ _ h _ => h⟩
        have hKM : KpT (fun k _ => k = W5.heap.size + 3) W (W.drewN nq) := ⟨Nat.le_refl _, fun _ _ h _ _ => h⟩
        have c3' : (W.drewN nq).cell? ⟨w.heap.size, 0, none⟩ = some (.int .i64 stop) := c3
        have hrX : (W.drewN nq).heap[l]? = some (.loop r) := hr
        have hDX : (W.drewN nq).heap[D]? = some (.deferred (some [])) := hj
        obtain ⟨X, hX⟩ : ∃ X, W.drewN nq = X := ⟨_, rfl⟩
        rw [hX] at hWX hKF hKM c3' hrX hDX ⊢
        clear hX e0 e1 e2 e3 d0 d1 d2 d3 c5 cn fn c3 t1 t1n hcells qx
        obtain ⟨cn, fn⟩ := box1 hWX.n
        obtain ⟨c5, _⟩ := box1 hWX.lst
        obtain ⟨c6, _⟩ := box1 hWX.it
        have hltX := hWX.lt
        have fin : ∀ Y : World, Below X.heap.size X Y → ownPostG W2.heap.size (KpT fun k _ => k = W5.heap.size + 3) (fun pre W => WK W5 s N cap a0 pre.length W ∧ W.heap[D]? = some (.deferred (some [])) ∧ W2.heap.size ≤ W.heap.size) (fun _ _ _ => False) (pre ++ [x]) W .normal { tmps := #[], defers := [] } (Y.setCell ⟨W5.heap.size + 1 + 1 + 1, 0, none⟩ (.int .i64 ((pre.length : Int) + 1))) := fun Y hY => by
          have hWY := hWX.of_below hY
          refine ⟨kf_trans hKF (kf_trans (kf_below hY) (kf_cells (gcell _ _ _ _) hWY.n)), hKM.trans ((KpT.of_below hY).trans (KpT.of_grown (gcell _ _ _ _) (fun r o e _ => by cases e; rfl))), by simpa using hWY.step (pre.length + 1), ?_, by have := hY.size; have := hKM.1; simp; omega⟩
          have hDY := (hY.block D (Array.getElem?_eq_some_iff.1 hDX).1).trans hDX
          exact ((gcell Y (W5.heap.size + 1 + 1 + 1) 0 (.int .i64 ((pre.length : Int) + 1))).block D (Array.getElem?_eq_some_iff.1 hDY).1 (fun e => by cases e; omega)).trans hDY
        have FIN : Hid _ := fin
        clear fin
        by_cases hst : (pre.length : Int) = stop
        · have hl1 : ((pre.length : Int) == stop) = true := by simpa using hst
          clear hst
          obtain ⟨c6', _⟩ := box1 ((Below.heap_alloc X (.cells #[.int .i64 0] 3) _ (by omega)).trans hWX.it)
          gi_wp2
          clear c6'
          obtain ⟨Y0, hY0⟩ : ∃ Y0, X.alloc (.cells #[.int .i64 0] 3) = Y0 := ⟨_, rfl⟩
          have hm0 : Y0.heap[X.heap.size]? = some (.cells #[.int .i64 0] 3 (0, 0)) := by rw [← hY0]; exact World.alloc_heap_new X _
          have hb0 : Below X.heap.size X Y0 := by rw [← hY0]; exact (Below.refl _ X).alloc (Nat.le_refl _) _
          have hs0 : Y0.heap.size = X.heap.size + 1 := by rw [← hY0]; simp
          have hr0 : Y0.heap[l]? = some (.loop r) := (hb0.block l (Array.getElem?_eq_some_iff.1 hrX).1).trans hrX
          rw [hY0]
          clear hY0
          have hWY0 := hWX.of_below hb0
          have hBY0 : Below w.heap.size w Y0 := hB5.trans (hWY0.below.mono hB5.size)
          refine act_name fun A3 hA3 => ?_
          refine range_in (l₀ := l) (r₀ := r) rfl hr0 (by omega) (gf := 43) (lb := #[.pointer (some ⟨W5.heap.size + 1, 0, none⟩)]) (by rw [hA3]; rfl) trivial (enters_of Tryd.func43 (by kernel_rfl) rfl)
            (clu_seq (n - 1 - 1 - 1) (by omega) (W5.heap.size + 1) (Y0.heap.size + 1) (fun k _ => k = X.heap.size) s hs' (fun _ h => by omega) (fun _ h => by omega) (fun _ h => by omega) (fun k _ h1 h2 h => by omega) (fun k _ _ h1 h => by omega)
              Y0 (by omega) (by omega) (by omega) hWY0.txt (tabs_below hT hBY0))
            KpT.trans (fun W l o o' _ _ hl ho => KpT.putObj W l o o' hl ho) (fun _ => rfl)
            (fun ys W' => W'.heap[X.heap.size]? = some (.cells #[.int .i64 ys.length] 3 (0, 0)) ∧ Below X.heap.size X W' ∧ Y0.heap.size ≤ W'.heap.size)
            (fun _ _ _ => False)
            (fun ys A B row h hg hr => ⟨(hg.block _ (Array.getElem?_eq_some_iff.1 h.1).1 (fun e => by have := (hr _ e.symm).1; omega)).trans h.1, h.2.1.grown hg h.2.1.size (fun j e => by have := (hr j e).1; omega), Nat.le_trans h.2.2 hg.size⟩)
            (fun c pre X Y row h hg hr => h)
            ⟨hm0, hb0, Nat.le_refl _⟩
            (fun y a'' W' => ∃ By, Y0.heap.size ≤ By ∧ W'.heap[By]? = some (.cells (cvs y) 41 (0, 0)) ∧ a'' = { tmps := (((#[70] : Array Tmp).zip (encC y)).foldl (fun t (p, v) => t.setIfInBounds p v) A3.tmps).setIfInBounds 11 (.pointer (some ⟨By, 0, none⟩)), defers := [] })
            (fun y a' _ X Y row h hg hr => h.imp fun By hx => ⟨hx.1, bx_kept hx.1 hx.2.1 hg hr, hx.2.2⟩)
            ?assign3 ?body3 ?done3 ?stop3
          case assign3 =>
            rintro l3 ys y W' K ⟨hi3, hj3, hle3⟩ hK3
            have hl3x := (Array.getElem?_eq_some_iff.1 hi3).1
            subst hA3
            gi_wp2
            exact hK3 _ _ (kf_below ((Below.refl _ W').alloc (Nat.le_refl _) _)) (KpT.of_below ((Below.refl _ W').alloc (Nat.le_refl _) _)) ⟨(Below.heap_alloc _ _ _ hl3x).trans hi3, hj3.alloc hj3.size _, Nat.le_trans hle3 (by simp)⟩ ⟨W'.heap.size, hle3, World.alloc_heap_new W' _, by first | (simp [encC]; done) | (simp [encC]; simpa using hl3)⟩
          case body3 =>
            rintro l3 ys y a'' W' _ _ _ _ ⟨hi3, hj3, hle3⟩ ⟨By, hBy, qy, rfl⟩ hny
            obtain ⟨hget3, hlt3⟩ := at_pre hny
            rw [HN.out] at hlt3
            obtain ⟨g3, hg3, hcells⟩ := HLC.out _ _ hget3
            have hW3 := hWX.of_below hj3
            obtain ⟨e0, e1, e2, e3⟩ := hcells W' hW3.below
            obtain ⟨⟨d0, d1, d2, d3⟩, _⟩ := box4 qy
            obtain ⟨c5, _⟩ := box1 hW3.lst
            obtain ⟨cm, fm⟩ := box1 hi3
            have t1 : decide ((N : Int) ≤ (ys.length : Int)) = false := by simp; omega
            have t1n : decide (N ≤ ys.length) = false := by simp; omega
            subst hA3
            rw [hg3] at c5
            gi_wp2
            refine region_quiet (by kernel_rfl) (by kernel_rfl) (by kernel_rfl) ?_
            repeat (gi_big_quiet_step (fail))
            refine wpQuietIn_nil ?_
            intro _ hw'
            obtain ⟨nq3, hw''⟩ := hw'
            subst hw''
            have hi4 : (W'.drewN nq3).heap[X.heap.size]? = some (.cells #[.int .i64 ys.length] 3 (0, 0)) := hi3
            have hj4 : Below X.heap.size X (W'.drewN nq3) := ⟨hj3.os, hj3.tape, hj3.output, hj3.size, hj3.block⟩
            have hKF3 : KeepsFrom Y0.heap.size W' (W'.drewN nq3) := ⟨Nat.le_refl _, fun _ _ _ h _ => h⟩
            have hKM3 : KpT (fun k _ => k = X.heap.size) W' (W'.drewN nq3) := ⟨Nat.le_refl _, fun _ _ h _ _ => h⟩
            have hle4 : Y0.heap.size ≤ (W'.drewN nq3).heap.size := hle3
            obtain ⟨Z, hZ⟩ : ∃ Z, W'.drewN nq3 = Z := ⟨_, rfl⟩
            rw [hZ] at hi4 hj4 hKF3 hKM3 hle4 ⊢
            clear hZ e0 e1 e2 e3 d0 d1 d2 d3 c5 cm fm t1 t1n hcells qy
            obtain ⟨cm, fm⟩ := box1 hi4
            gi_wp2
            exact ⟨kf_trans hKF3 (kf_cells (gcell _ _ _ _) hi4), hKM3.trans (KpT.of_grown (gcell _ _ _ _) (fun r o e _ => by cases e; rfl)), by simpa using set1 (i := 0) (.int .i64 ((ys.length : Int) + 1)) hi4, hj4.grown (gcell _ _ _ _) hj4.size (fun j e => by cases e; exact Nat.le_refl _), Nat.le_trans hle4 (by simp)⟩
          case done3 =>
            rintro ys Y rfl ⟨hi3, hj3, hle3⟩
            obtain ⟨cm, _⟩ := box1 hi3
            rw [HN.out] at cm
            have hWY := hWX.of_below hj3
            obtain ⟨c5, _⟩ := box1 hWY.lst
            obtain ⟨cn2, fn2⟩ := box1 hWY.n
            subst hA3
            gi_wp2
            exact FIN.out Y hj3
          case stop3 =>
            rintro c ys W' _ h
            exact h.elim
        · have hl1 : ((pre.length : Int) == stop) = false := by simpa using hst
          clear hst
          gi_wp2
          exact FIN.out X (Below.refl _ _)
      case done =>
        rintro D2 ys W hD2' rfl ⟨hi, hj, hWle⟩ hK
        obtain ⟨c5, _⟩ := box1 hi.lst
        obtain ⟨cn, fn⟩ := box1 hi.n
        rw [HN.out] at cn
        obtain ⟨c4, f4⟩ := box1 ((hi.below.block _ (by omega)).trans h54)
        have hK' : (W.setCell ⟨w.heap.size + 1, 0, none⟩ (.bool true)).heap[D2]? = some (.deferred (some [])) := ((gcell W (w.heap.size + 1) 0 (.bool true)).block D2 (Array.getElem?_eq_some_iff.1 hK).1 (fun e => by cases e; omega)).trans hK
        have hj' : ((W.setCell ⟨w.heap.size + 1, 0, none⟩ (.bool true)).putObj D2 (.deferred none)).heap[D]? = some (.deferred (some [])) := (World.putObj_heap_other (by omega)).trans (((gcell W (w.heap.size + 1) 0 (.bool true)).block D (Array.getElem?_eq_some_iff.1 hj).1 (fun e => by cases e; omega)).trans hj)
        obtain ⟨c9, _⟩ := box1 ((World.putObj_heap_other (w := (W.setCell ⟨w.heap.size + 1, 0, none⟩ (.bool true)).putObj D2 (.deferred none)) (o := .deferred none) (show w.heap.size + 1 ≠ D by omega)).trans ((World.putObj_heap_other (w := W.setCell ⟨w.heap.size + 1, 0, none⟩ (.bool true)) (o := .deferred none) (show w.heap.size + 1 ≠ D2 by omega)).trans (show _ = some (Obj.cells #[.bool true] 4 (0, 0)) from set1 (i := 0) (.bool true) ((hi.below.block _ (by omega)).trans h54))))
        have hB : Below w.heap.size w (W.setCell ⟨w.heap.size + 1, 0, none⟩ (.bool true)) := (hB5.trans (hi.below.mono hB5.size)).setCell (p := ⟨w.heap.size + 1, 0, none⟩) (by simp) _
        subst hA
        gi_wp2
        refine ⟨by simp, .inl ⟨_, _, rfl, run_takeDeferred hK', ?_⟩⟩
        refine ⟨by simp, .inl ⟨_, _, rfl, run_takeDeferred hj', ?_⟩⟩
        exact ⟨_, (by simp [results, Tryd.results5, go_sem, c9]), rfl, (hB.trans (belowK_b (w := w) (Nat.le_refl _) _ D2 _ _ (by omega) hK' rfl rfl)).trans (belowK_b (w := w) (Nat.le_refl _) _ D _ _ (by omega) hj' rfl rfl)⟩
      case stop =>
        rintro D2 c pre W _ _ h _
        exact h.elim
theorem walk_of {H : Type} (s : ByteArray) (stop : Int) (w : World) (hT : Lib.Utf8Tabs 0 1 w) (hlo0 : 0 < w.heap.size) (hlo1 : 1 < w.heap.size) (_hs : s.size ≤ 140737488351232) (_hi : -9223372036854775808 ≤ stop ∧ stop ≤ 9223372036854775807) (hk : Rows.uptoSmall H ([DataW.lit (.string s.data.toList), DataW.lit (.int .i64 stop)] ++ []) = true) :
    Calls Tryd.prog 5 #[.string s, .int .i64 stop] w fun e w' => e = .returned (.bool true) ∧ Below w.heap.size w w' := by
  have h : Rows.uptoBulkAll ([DataW.lit (H := H) (.string s.data.toList), DataW.lit (.int .i64 stop)] ++ []) ≤ 1048576 := of_decide_eq_true hk
  simp only [List.append_nil, Rows.uptoBulkAll, Rows.uptoBulk] at h
  exact callsIn_wide.1 (walk 7 (by omega) s stop (by rw [Lib.size_eq]; omega) w hT hlo0 hlo1)
end Go.Proofs.YtjgeeimkcghmoaaDoor.clusterWalks
