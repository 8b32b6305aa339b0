/-
  Package lines: views of a text behind the interface. Conditions: those of each theorem.
-/
import Derived.Test.YtplieccalmkloaaGreatDoorPkTA
import Derived.Defers
import Derived.Recover
import Derived.Laws.Pointers
import Derived.Test.YtplieccalmkloaaGreatDoorPkMA
namespace Go.Proofs.YtplieccalmkloaaGreatDoor.Sto
open Go.RowKit Go.Shelf Bod Wid
open Gap (Gp Is gSlice gMea)

set_option maxRecDepth 100000 in
theorem catch_q (w : World) : CallsD Tryz.prog 102 #[] .returning w fun e u' w' => e = .returned (.tuple #[]) ∧ u' = .returning ∧ w' = w := by
  refine callsD_of_wpS Tryz.func102 rfl fun c₀ cs hu => ?_
  apply wpS_region
  simp [wpOpsS, go_sem, recoverD, hu, Tryz.ntmps102]
  cases c₀
  simp_all [bodyPostS, results, Tryz.results102]
set_option maxRecDepth 100000 in
theorem quietly_any {w : World} {f : Nat} {cap : Array Value} {R : World → Prop} (en : ∀ args w, (callFunc f args).run Tryz.prog w = .ok (.enter f args) w) (C : Calls Tryz.prog f cap w fun e W' => e = .returned (.tuple #[]) ∧ R W') : Calls Tryz.prog 70 #[.func (.func f) #[] cap] w fun e W' => e = .returned (.tuple #[]) ∧ R W' := by
  have C1 : Hid (Calls Tryz.prog f cap w fun e W' => e = .returned (.tuple #[]) ∧ Hid (R W')) := C
  clear C
  go_enter_defers Tryz.func70, Tryz.ntmps70
  go_wp2_with (go_at_fn f; refine C1.out.mono ?_; clear C1; rintro e w1 ⟨rfl, H⟩)
  refine leaves_cons (f := 102) (args := #[]) (by simp) (by simp [go_sem]) ?_
  refine (catch_q _).mono ?_
  rintro e u' w'' ⟨rfl, rfl, rfl⟩
  simp [Leaves, settle, results, Tryz.results70, go_sem]
  exact H.out
/-- t is a text behind the interface that tells s, in later worlds too: its length, its pieces, their measures -/
structure Vt (w : World) (t : Value) (s : ByteArray) : Prop where
  ex : ∃ T u fl fs fm, t = .iface T u ∧ (∀ W, (binOp .eql 41 (.iface T u) .nilIface).run Tryz.prog W = .ok (.bool false) W) ∧ Mt T u "Len" fl ∧ Mt T u "Slice" fs ∧ Mt T u "Measure" fm ∧ (∀ W, Below w.heap.size w W → Calls Tryz.prog fl #[u] W fun e W' => e = .returned (.int .i64 s.size) ∧ Below W.heap.size W W') ∧ (∀ W, Below w.heap.size w W → ∀ a c : Int, Calls Tryz.prog fs #[u, .int .i64 a, .int .i64 c] W fun e W' => e = .returned (.tuple #[.string (gSlice s a c).1, .int .i64 (gSlice s a c).2]) ∧ Below W.heap.size W W') ∧ ∀ W, Below w.heap.size w W → ∀ a c : Int, Calls Tryz.prog fm #[u, .int .i64 a, .int .i64 c] W fun e W' => e = .returned (.tuple #[sv (gMea s a c).1, .int .i64 (gMea s a c).2]) ∧ Below W.heap.size W W'
theorem Vt.below {w W : World} {t : Value} {s : ByteArray} (h : Vt w t s) (hb : Below w.heap.size w W) : Vt W t s := by
  obtain ⟨T, u, fl, fs, fm, h1, h2, h3, h4, h5, h6, h7, h8⟩ := h.ex
  exact ⟨T, u, fl, fs, fm, h1, h2, h3, h4, h5, fun X hX => h6 X (Below.on hb hX), fun X hX => h7 X (Below.on hb hX), fun X hX => h8 X (Below.on hb hX)⟩
/-- the boxes of look: the text's, the answer's, the view's -/
structure Lb (w : World) (t : Value) (k : Int) (W : World) : Prop where
  bel : Below w.heap.size w W
  tb : W.heap[w.heap.size]? = some (.cells #[t] 41 (0, 0))
  r : W.heap[w.heap.size + 1]? = some (.cells #[.nilIface, .int .i64 0] 83 (0, 0))
  v : W.heap[w.heap.size + 1 + 1]? = some (.cells #[t, .int .i64 k] 83 (0, 0))
theorem Lb.below {w W X : World} {t : Value} {k : Int} (h : Lb w t k W) (hb : Below W.heap.size W X) : Lb w t k X :=
  have kp : ∀ {k : Nat} {o : Obj}, W.heap[k]? = some o → X.heap[k]? = some o := fun ho => (hb.block _ (Array.getElem?_eq_some_iff.1 ho).1).trans ho
  ⟨Below.on h.bel hb, kp h.tb, kp h.r, kp h.v⟩
theorem Lb.set {w W : World} {t : Value} {k : Int} (h : Lb w t k W) (n : Int) : Lb w t n (W.setCell ⟨w.heap.size + 1 + 1, 1, none⟩ (.int .i64 n)) := by
  have g := gcell W (w.heap.size + 1 + 1) 1 (.int .i64 n)
  have kp : ∀ {k : Nat} {o : Obj}, W.heap[k]? = some o → k ≠ w.heap.size + 1 + 1 → (W.setCell ⟨w.heap.size + 1 + 1, 1, none⟩ (.int .i64 n)).heap[k]? = some o := fun ho hne => (g.block _ (Array.getElem?_eq_some_iff.1 ho).1 (fun e => hne (by injection e))).trans ho
  exact ⟨h.bel.setCell (p := ⟨w.heap.size + 1 + 1, 1, none⟩) (by simp; omega) _, kp h.tb (by omega), kp h.r (by omega), by simpa using set1 (i := 1) (.int .i64 n) h.v⟩
set_option maxRecDepth 100000 in
set_option maxHeartbeats 1000000 in
theorem look1_any {w W : World} {t : Value} {s : ByteArray} (h : Vt w t s) (hs : s.size ≤ 1073741824) (hL : Lb w t 0 W) : Calls Tryz.prog 71 #[.pointer (some ⟨w.heap.size, 0, none⟩), .pointer (some ⟨w.heap.size + 1 + 1, 0, none⟩)] W fun e W' => e = .returned (.tuple #[]) ∧ Lb w t s.size W' := by
  obtain ⟨T, u, fl, fs, fm, rfl, -, ⟨m1, m2⟩, -, -, h6, -, -⟩ := h.ex
  obtain ⟨n, hn⟩ : ∃ n, s.size = n := ⟨_, rfl⟩
  rw [hn] at hs ⊢
  have C1 : Hid (Calls Tryz.prog fl #[u] W fun e W' => e = .returned (.int .i64 n) ∧ Hid (Lb w (.iface T u) 0 W')) := (h6 W hL.bel).mono fun e W' ⟨q1, q2⟩ => ⟨by rw [q1, hn], hL.below q2⟩
  have c0 : W.cell? ⟨w.heap.size, 0, none⟩ = some (.iface T u) := by unfold World.cell?; rw [hL.tb]; rfl
  have HX : Hid (∀ X, Lb w (.iface T u) 0 X → X.cell? ⟨w.heap.size + 1 + 1, 1, none⟩ = some (.int .i64 0) ∧ X.frozen? ⟨w.heap.size + 1 + 1, 1, none⟩ = false) := fun X hX => by simp [World.cell?, World.frozen?, hX.v]
  have e1 : max (n : Int) 0 = n := by omega
  have e2 : min (n : Int) 1073741824 = n := by omega
  clear h h6 hL hn
  go_enter Tryz.func71, Tryz.ntmps71
  go_wp2_with (go_at_fn fl; refine C1.out.mono ?_; clear C1 c0; rintro e w1 ⟨rfl, H⟩; obtain ⟨k1, k2⟩ := HX.out _ H.out)
  go_end0
  exact ⟨rfl, H.out.set n⟩
set_option maxRecDepth 100000 in
set_option maxHeartbeats 1000000 in
theorem look_any {w : World} {t : Value} {s : ByteArray} (h : Vt w t s) (hs : s.size ≤ 1073741824) : Calls Tryz.prog 38 #[t] w fun e W' => e = .returned (.agg #[t, .int .i64 s.size]) ∧ Below w.heap.size w W' := by
  have h0 := h
  obtain ⟨T, u, fl, fs, fm, rfl, he, -, -, -, -, -, -⟩ := h.ex
  have hmf : ∀ (fn : Fn) (first cap : Array Value) (w : World), (Instr.makeFunc fn first cap).run Tryz.prog w = .ok (.func fn first cap) w := fun _ _ _ _ => rfl
  obtain ⟨W0, hW0⟩ : ∃ W0, ((w.alloc (.cells #[.iface T u] 41)).alloc (.cells #[.nilIface, .int .i64 0] 83)).alloc (.cells #[.iface T u, .int .i64 0] 83) = W0 := ⟨_, rfl⟩
  have hL : Lb w (.iface T u) 0 W0 := by
    obtain ⟨p0, p1⟩ := push2 w.heap (.cells #[.iface T u] 41) (.cells #[.nilIface, .int .i64 0] 83)
    have hb := (((Below.refl _ w).alloc (Nat.le_refl _) (.cells #[.iface T u] 41)).alloc (by simp) (.cells #[.nilIface, .int .i64 0] 83))
    have hb2 := hb.alloc (by simp; omega) (.cells #[.iface T u, .int .i64 0] 83)
    rw [← hW0]
    refine ⟨hb2, (Below.heap_alloc _ _ _ (by simp; omega)).trans p0, (Below.heap_alloc _ _ _ (by simp)).trans p1, ?_⟩
    have := World.alloc_heap_new ((w.alloc (.cells #[.iface T u] 41)).alloc (.cells #[.nilIface, .int .i64 0] 83)) (.cells #[.iface T u, .int .i64 0] 83)
    simpa using this
  obtain ⟨n, hn⟩ : ∃ n, s.size = n := ⟨_, rfl⟩
  have CQ : Hid (Calls Tryz.prog 70 #[.func (.func 71) #[] #[.pointer (some ⟨w.heap.size, 0, none⟩), .pointer (some ⟨w.heap.size + 1 + 1, 0, none⟩)]] W0 fun e W' => e = .returned (.tuple #[]) ∧ Hid (Lb w (.iface T u) n W')) := by
    have := quietly_any (R := Lb w (.iface T u) s.size) (enters_of Tryz.func71 (by kernel_rfl) rfl) (look1_any h0 hs hL)
    rw [hn] at this
    exact this
  have HX : Hid (∀ X, Lb w (.iface T u) n X → X.cell? ⟨w.heap.size + 1 + 1, 0, none⟩ = some (.iface T u) ∧ X.cell? ⟨w.heap.size + 1 + 1, 1, none⟩ = some (.int .i64 n) ∧ X.cell? ⟨w.heap.size + 1, 0, none⟩ = some .nilIface ∧ X.frozen? ⟨w.heap.size + 1, 0, none⟩ = false ∧ X.cell? ⟨w.heap.size + 1, 1, none⟩ = some (.int .i64 0) ∧ X.frozen? ⟨w.heap.size + 1, 1, none⟩ = false) := fun X hX => by simp [World.cell?, World.frozen?, hX.v, hX.r]
  rw [hn]
  have HW0 : Hid (((w.alloc (.cells #[.iface T u] 41)).alloc (.cells #[.nilIface, .int .i64 0] 83)).alloc (.cells #[.iface T u, .int .i64 0] 83) = W0) := hW0
  clear h h0 hs hL hn hW0
  go_enter Tryz.func38, Tryz.ntmps38
  go_upto_region 4 with fail
  have hW0 := HW0.out
  rw [hW0]
  clear HW0
  go_wp2_with (go_at_call 70; refine CQ.out.mono ?_; clear CQ hW0; rintro e w1 ⟨rfl, H⟩; obtain ⟨k1, k2, k3, k4, k5, k6⟩ := HX.out _ H.out)
  have s1 := set1 (i := 0) (.iface T u) H.out.r
  have s2 := set1 (i := 1) (.int .i64 (n : Int)) s1
  have hb := (H.out.bel.setCell (p := ⟨w.heap.size + 1, 0, none⟩) (by simp) (.iface T u)).setCell (p := ⟨w.heap.size + 1, 1, none⟩) (by simp) (.int .i64 (n : Int))
  generalize (w1.setCell ⟨w.heap.size + 1, 0, none⟩ (.iface T u)).setCell ⟨w.heap.size + 1, 1, none⟩ (.int .i64 (n : Int)) = X at s2 hb ⊢
  have y0 : X.cell? ⟨w.heap.size + 1, 0, none⟩ = some (.iface T u) := by simp [World.cell?, s2]
  have y1 : X.cell? ⟨w.heap.size + 1, 1, none⟩ = some (.int .i64 (n : Int)) := by simp [World.cell?, s2]
  exact bodyPost_ret (v := .agg #[.iface T u, .int .i64 (n : Int)]) (by simp [results, Tryz.results38, go_sem, y0, y1]) rfl ⟨rfl, hb⟩
theorem push4d (a : Array Obj) (o0 o1 o2 o3 : Obj) : ((((a.push o0).push o1).push o2).push o3)[a.size]? = some o0 ∧ ((((a.push o0).push o1).push o2).push o3)[a.size + 1]? = some o1 ∧ ((((a.push o0).push o1).push o2).push o3)[a.size + 1 + 1]? = some o2 ∧ ((((a.push o0).push o1).push o2).push o3)[a.size + 1 + 1 + 1]? = some o3 := by
  obtain ⟨h0, h1⟩ := push2 a o0 o1
  obtain ⟨h2, h3⟩ := push2 ((a.push o0).push o1) o2 o3
  simp only [Array.size_push] at h2 h3
  refine ⟨?_, ?_, h2, h3⟩
  · rw [Array.getElem?_push, if_neg (by simp only [Array.size_push]; omega), Array.getElem?_push, if_neg (by simp only [Array.size_push]; omega)]; exact h0
  · rw [Array.getElem?_push, if_neg (by simp only [Array.size_push]; omega), Array.getElem?_push, if_neg (by simp only [Array.size_push]; omega)]; exact h1
/-- the boxes of piece: the view's, the two numbers', the answer's -/
structure Pb (w : World) (t : Value) (n a c : Int) (x : ByteArray) (W : World) : Prop where
  bel : Below w.heap.size w W
  v : W.heap[w.heap.size]? = some (.cells #[t, .int .i64 n] 83 (0, 0))
  a : W.heap[w.heap.size + 1]? = some (.cells #[.int .i64 a] 3 (0, 0))
  c : W.heap[w.heap.size + 1 + 1]? = some (.cells #[.int .i64 c] 3 (0, 0))
  x : W.heap[w.heap.size + 1 + 1 + 1]? = some (.cells #[.string x] 9 (0, 0))
theorem Pb.below {w W X : World} {t : Value} {n a c : Int} {x : ByteArray} (h : Pb w t n a c x W) (hb : Below W.heap.size W X) : Pb w t n a c x X :=
  have kp : ∀ {k : Nat} {o : Obj}, W.heap[k]? = some o → X.heap[k]? = some o := fun ho => (hb.block _ (Array.getElem?_eq_some_iff.1 ho).1).trans ho
  ⟨Below.on h.bel hb, kp h.v, kp h.a, kp h.c, kp h.x⟩
theorem Pb.set {w W : World} {t : Value} {n a c : Int} {x : ByteArray} (h : Pb w t n a c x W) (y : ByteArray) : Pb w t n a c y (W.setCell ⟨w.heap.size + 1 + 1 + 1, 0, none⟩ (.string y)) := by
  have g := gcell W (w.heap.size + 1 + 1 + 1) 0 (.string y)
  have kp : ∀ {k : Nat} {o : Obj}, W.heap[k]? = some o → k ≠ w.heap.size + 1 + 1 + 1 → (W.setCell ⟨w.heap.size + 1 + 1 + 1, 0, none⟩ (.string y)).heap[k]? = some o := fun ho hne => (g.block _ (Array.getElem?_eq_some_iff.1 ho).1 (fun e => hne (by injection e))).trans ho
  exact ⟨h.bel.setCell (p := ⟨w.heap.size + 1 + 1 + 1, 0, none⟩) (by simp; omega) _, kp h.v (by omega), kp h.a (by omega), kp h.c (by omega), by simpa using set1 (i := 0) (.string y) h.x⟩
set_option maxRecDepth 100000 in
set_option maxHeartbeats 1000000 in
theorem piece1_any {w W : World} {t : Value} {s : ByteArray} (h : Vt w t s) (n a c : Int) (hL : Pb w t n a c ⟨#[]⟩ W) : Calls Tryz.prog 117 #[.pointer (some ⟨w.heap.size, 0, none⟩), .pointer (some ⟨w.heap.size + 1, 0, none⟩), .pointer (some ⟨w.heap.size + 1 + 1, 0, none⟩), .pointer (some ⟨w.heap.size + 1 + 1 + 1, 0, none⟩)] W fun e W' => e = .returned (.tuple #[]) ∧ Pb w t n a c (gSlice s a c).1 W' := by
  obtain ⟨T, u, fl, fs, fm, rfl, -, -, ⟨m1, m2⟩, -, -, h7, -⟩ := h.ex
  obtain ⟨x, hx⟩ : ∃ x, (gSlice s a c).1 = x := ⟨_, rfl⟩
  obtain ⟨r, hr⟩ : ∃ r, (gSlice s a c).2 = r := ⟨_, rfl⟩
  rw [hx]
  have C1 : Hid (Calls Tryz.prog fs #[u, .int .i64 a, .int .i64 c] W fun e W' => e = .returned (.tuple #[.string x, .int .i64 r]) ∧ Hid (Pb w (.iface T u) n a c ⟨#[]⟩ W')) := (h7 W hL.bel a c).mono fun e W' ⟨q1, q2⟩ => ⟨by rw [q1, hx, hr], hL.below q2⟩
  obtain ⟨c0, c1, c2⟩ : W.cell? ⟨w.heap.size, 0, none⟩ = some (.iface T u) ∧ W.cell? ⟨w.heap.size + 1, 0, none⟩ = some (.int .i64 a) ∧ W.cell? ⟨w.heap.size + 1 + 1, 0, none⟩ = some (.int .i64 c) := by simp [World.cell?, hL.v, hL.a, hL.c]
  have HX : Hid (∀ X, Pb w (.iface T u) n a c ⟨#[]⟩ X → X.cell? ⟨w.heap.size + 1 + 1 + 1, 0, none⟩ = some (.string ⟨#[]⟩) ∧ X.frozen? ⟨w.heap.size + 1 + 1 + 1, 0, none⟩ = false) := fun X hX => by simp [World.cell?, World.frozen?, hX.x]
  clear h h7 hL hx hr
  go_enter Tryz.func117, Tryz.ntmps117
  go_wp2_with (go_at_fn fs; refine C1.out.mono ?_; clear C1 c0 c1 c2; rintro e w1 ⟨rfl, H⟩; obtain ⟨k1, k2⟩ := HX.out _ H.out)
  go_end0
  exact ⟨rfl, H.out.set x⟩
set_option maxRecDepth 100000 in
set_option maxHeartbeats 1000000 in
theorem piece_any {w : World} {t : Value} {s : ByteArray} (h : Vt w t s) (n a c : Int) : Calls Tryz.prog 91 #[.agg #[t, .int .i64 n], .int .i64 a, .int .i64 c] w fun e W' => e = .returned (.string (gSlice s a c).1) ∧ Below w.heap.size w W' := by
  have h0 := h
  obtain ⟨T, u, fl, fs, fm, rfl, -⟩ := h.ex
  have hmf : ∀ (fn : Fn) (first cap : Array Value) (w : World), (Instr.makeFunc fn first cap).run Tryz.prog w = .ok (.func fn first cap) w := fun _ _ _ _ => rfl
  obtain ⟨W0, hW0⟩ : ∃ W0, (((w.alloc (.cells #[.iface T u, .int .i64 n] 83)).alloc (.cells #[.int .i64 a] 3)).alloc (.cells #[.int .i64 c] 3)).alloc (.cells #[.string ⟨#[]⟩] 9) = W0 := ⟨_, rfl⟩
  have hL : Pb w (.iface T u) n a c ⟨#[]⟩ W0 := by
    obtain ⟨p0, p1, p2, p3⟩ := push4d w.heap (.cells #[.iface T u, .int .i64 n] 83) (.cells #[.int .i64 a] 3) (.cells #[.int .i64 c] 3) (.cells #[.string ⟨#[]⟩] 9)
    rw [← hW0]
    exact ⟨((((Below.refl _ w).alloc (Nat.le_refl _) _).alloc (by simp) _).alloc (by simp; omega) _).alloc (by simp; omega) _, p0, p1, p2, p3⟩
  obtain ⟨x, hx⟩ : ∃ x, (gSlice s a c).1 = x := ⟨_, rfl⟩
  have CQ : Hid (Calls Tryz.prog 70 #[.func (.func 117) #[] #[.pointer (some ⟨w.heap.size, 0, none⟩), .pointer (some ⟨w.heap.size + 1, 0, none⟩), .pointer (some ⟨w.heap.size + 1 + 1, 0, none⟩), .pointer (some ⟨w.heap.size + 1 + 1 + 1, 0, none⟩)]] W0 fun e W' => e = .returned (.tuple #[]) ∧ Hid (Pb w (.iface T u) n a c x W')) := by
    have := quietly_any (R := Pb w (.iface T u) n a c (gSlice s a c).1) (enters_of Tryz.func117 (by kernel_rfl) rfl) (piece1_any h0 n a c hL)
    rw [hx] at this
    exact this
  have HX : Hid (∀ X, Pb w (.iface T u) n a c x X → X.cell? ⟨w.heap.size + 1 + 1 + 1, 0, none⟩ = some (.string x) ∧ X.frozen? ⟨w.heap.size + 1 + 1 + 1, 0, none⟩ = false) := fun X hX => by simp [World.cell?, World.frozen?, hX.x]
  rw [hx]
  clear h h0 hL hx
  go_enter Tryz.func91, Tryz.ntmps91
  go_wp2_with (go_at_call 70; refine CQ.out.mono ?_; clear CQ hW0; rintro e w1 ⟨rfl, H⟩; obtain ⟨k1, k2⟩ := HX.out _ H.out)
  have hs := H.out.set x
  generalize w1.setCell ⟨w.heap.size + 1 + 1 + 1, 0, none⟩ (.string x) = X at hs ⊢
  obtain ⟨y0, -⟩ := HX.out _ hs
  exact bodyPost_ret (v := .string x) (by simp [results, Tryz.results91, go_sem, y0]) rfl ⟨rfl, hs.bel⟩
end Go.Proofs.YtplieccalmkloaaGreatDoor.Sto
namespace Go.Proofs.YtplieccalmkloaaGreatDoor.Sto
open Go.RowKit Go.Shelf Bod Wid
open Gap (Gp Is gSlice gMea)

theorem vt_store {w : World} {v : Value} {x : Option Tx} {k : Sk} {K : Kp} (h : Spt w v x k) (hH : Hold w (Tx.or x) K) (hE : Ev w) : Vt w (.iface 23 v) K.text :=
  ⟨_, _, _, _, _, rfl, fun W => by kernel_rfl, (⟨fun W => by kernel_rfl, enters_of Tryz.func69 (by kernel_rfl) rfl⟩ : Mt 23 v "Len" 69), (⟨fun W => by kernel_rfl, enters_of Tryz.func133 (by kernel_rfl) rfl⟩ : Mt 23 v "Slice" 133), (⟨fun W => by kernel_rfl, enters_of Tryz.func188 (by kernel_rfl) rfl⟩ : Mt 23 v "Measure" 188), fun W hb => slen_any (h.below hb) (hH.below hb), fun W hb a c => sslice_any (h.below hb) (hH.below hb) a c, fun W hb a c => smeas_any (h.below hb) (hH.below hb) (hE.below hb) a c⟩
theorem vt_gap {w : World} {v : Value} {o : Option (Nat × Option Nat)} {g : Gp} {n : Nat} (h : Is w v o g n) (hE : Ev w) : Vt w (.iface 77 v) g.s :=
  ⟨_, _, _, _, _, rfl, fun W => by kernel_rfl, (⟨fun W => by kernel_rfl, enters_of Tryz.func67 (by kernel_rfl) rfl⟩ : Mt 77 v "Len" 67), (⟨fun W => by kernel_rfl, enters_of Tryz.func194 (by kernel_rfl) rfl⟩ : Mt 77 v "Slice" 194), (⟨fun W => by kernel_rfl, enters_of Tryz.func192 (by kernel_rfl) rfl⟩ : Mt 77 v "Measure" 192), fun W hb => Gap.len_is (Gap.Is.below h hb), fun W hb a c => Gap.slice_is (Gap.Is.below h hb) a c, fun W hb a c => by
    obtain ⟨e1, e2, e3⟩ := hE.below hb
    exact Gap.mea_is (Gap.Is.below h hb) a c e1 e2 e3⟩
/-- the boxes of measure: the view's, the two numbers', the answer's -/
structure Mb (w : World) (t : Value) (n a c : Int) (x : Sum) (W : World) : Prop where
  bel : Below w.heap.size w W
  v : W.heap[w.heap.size]? = some (.cells #[t, .int .i64 n] 83 (0, 0))
  a : W.heap[w.heap.size + 1]? = some (.cells #[.int .i64 a] 3 (0, 0))
  c : W.heap[w.heap.size + 1 + 1]? = some (.cells #[.int .i64 c] 3 (0, 0))
  x : W.heap[w.heap.size + 1 + 1 + 1]? = some (.cells (scs x) 125 (0, 0))
theorem Mb.below {w W X : World} {t : Value} {n a c : Int} {x : Sum} (h : Mb w t n a c x W) (hb : Below W.heap.size W X) : Mb w t n a c x X :=
  have kp : ∀ {k : Nat} {o : Obj}, W.heap[k]? = some o → X.heap[k]? = some o := fun ho => (hb.block _ (Array.getElem?_eq_some_iff.1 ho).1).trans ho
  ⟨Below.on h.bel hb, kp h.v, kp h.a, kp h.c, kp h.x⟩
theorem Mb.set {w W : World} {t : Value} {n a c : Int} {x : Sum} (h : Mb w t n a c x W) (y : Sum) : Mb w t n a c y (((((((W.setCell ⟨w.heap.size + 1 + 1 + 1, 0, none⟩ (.int .i64 y.by')).setCell ⟨w.heap.size + 1 + 1 + 1, 1, none⟩ (.int .i64 y.un)).setCell ⟨w.heap.size + 1 + 1 + 1, 2, none⟩ (.int .i64 y.cl)).setCell ⟨w.heap.size + 1 + 1 + 1, 3, none⟩ (.int .i64 y.ce)).setCell ⟨w.heap.size + 1 + 1 + 1, 4, none⟩ (.int .i64 y.nl)).setCell ⟨w.heap.size + 1 + 1 + 1, 5, none⟩ (.string y.hd)).setCell ⟨w.heap.size + 1 + 1 + 1, 6, none⟩ (.string y.tl)) := by
  have g := set7_grown W (w.heap.size + 1 + 1 + 1) (.int .i64 y.by') (.int .i64 y.un) (.int .i64 y.cl) (.int .i64 y.ce) (.int .i64 y.nl) (.string y.hd) (.string y.tl)
  have h7 := set7_box h.x (.int .i64 y.by') (.int .i64 y.un) (.int .i64 y.cl) (.int .i64 y.ce) (.int .i64 y.nl) (.string y.hd) (.string y.tl)
  have hb := set7_at (b := w.heap.size + 1 + 1 + 1) h.bel (by omega) (.int .i64 y.by') (.int .i64 y.un) (.int .i64 y.cl) (.int .i64 y.ce) (.int .i64 y.nl) (.string y.hd) (.string y.tl)
  have kp : ∀ {k : Nat} {o : Obj}, W.heap[k]? = some o → k ≠ w.heap.size + 1 + 1 + 1 → _ = some o := fun ho hne => (g.block _ (Array.getElem?_eq_some_iff.1 ho).1 (fun e => hne (by injection e))).trans ho
  exact ⟨hb, kp h.v (by omega), kp h.a (by omega), kp h.c (by omega), h7⟩
set_option maxRecDepth 100000 in
set_option maxHeartbeats 1000000 in
theorem measure1_any {w W : World} {t : Value} {s : ByteArray} (h : Vt w t s) (n a c : Int) (hL : Mb w t n a c sm0 W) : Calls Tryz.prog 116 #[.pointer (some ⟨w.heap.size, 0, none⟩), .pointer (some ⟨w.heap.size + 1, 0, none⟩), .pointer (some ⟨w.heap.size + 1 + 1, 0, none⟩), .pointer (some ⟨w.heap.size + 1 + 1 + 1, 0, none⟩)] W fun e W' => e = .returned (.tuple #[]) ∧ Mb w t n a c (gMea s a c).1 W' := by
  obtain ⟨T, u, fl, fs, fm, rfl, -, -, -, ⟨m1, m2⟩, -, -, h8⟩ := h.ex
  obtain ⟨x, hx⟩ : ∃ x, (gMea s a c).1 = x := ⟨_, rfl⟩
  obtain ⟨r, hr⟩ : ∃ r, (gMea s a c).2 = r := ⟨_, rfl⟩
  rw [hx]
  have C1 : Hid (Calls Tryz.prog fm #[u, .int .i64 a, .int .i64 c] W fun e W' => e = .returned (.tuple #[sv x, .int .i64 r]) ∧ Hid (Mb w (.iface T u) n a c sm0 W')) := (h8 W hL.bel a c).mono fun e W' ⟨q1, q2⟩ => ⟨by rw [q1, hx, hr], hL.below q2⟩
  obtain ⟨c0, c1, c2⟩ : W.cell? ⟨w.heap.size, 0, none⟩ = some (.iface T u) ∧ W.cell? ⟨w.heap.size + 1, 0, none⟩ = some (.int .i64 a) ∧ W.cell? ⟨w.heap.size + 1 + 1, 0, none⟩ = some (.int .i64 c) := by simp [World.cell?, hL.v, hL.a, hL.c]
  clear h h8 hL hx hr
  go_enter Tryz.func116, Tryz.ntmps116
  go_wp2_with (go_at_fn fm; refine C1.out.mono ?_; clear C1 c0 c1 c2; rintro e w1 ⟨rfl, H⟩; obtain ⟨⟨z0, z1, z2, z3, z4, z5, z6⟩, f0, f1, f2, f3, f4, f5, f6⟩ := box7 H.out.x; have hl : w.heap.size + 1 + 1 + 1 < w1.heap.size := (Array.getElem?_eq_some_iff.1 H.out.x).1)
  go_end0
  exact ⟨rfl, H.out.set x⟩
set_option maxRecDepth 100000 in
set_option maxHeartbeats 1000000 in
theorem measure_any {w : World} {t : Value} {s : ByteArray} (h : Vt w t s) (n a c : Int) : Calls Tryz.prog 88 #[.agg #[t, .int .i64 n], .int .i64 a, .int .i64 c] w fun e W' => e = .returned (sv (gMea s a c).1) ∧ Below w.heap.size w W' := by
  have h0 := h
  obtain ⟨T, u, fl, fs, fm, rfl, -⟩ := h.ex
  have hmf : ∀ (fn : Fn) (first cap : Array Value) (w : World), (Instr.makeFunc fn first cap).run Tryz.prog w = .ok (.func fn first cap) w := fun _ _ _ _ => rfl
  obtain ⟨W0, hW0⟩ : ∃ W0, (((w.alloc (.cells #[.iface T u, .int .i64 n] 83)).alloc (.cells #[.int .i64 a] 3)).alloc (.cells #[.int .i64 c] 3)).alloc (.cells #[.int .i64 0, .int .i64 0, .int .i64 0, .int .i64 0, .int .i64 0, .string ⟨#[]⟩, .string ⟨#[]⟩] 125) = W0 := ⟨_, rfl⟩
  have hL : Mb w (.iface T u) n a c sm0 W0 := by
    obtain ⟨p0, p1, p2, p3⟩ := push4d w.heap (.cells #[.iface T u, .int .i64 n] 83) (.cells #[.int .i64 a] 3) (.cells #[.int .i64 c] 3) (.cells #[.int .i64 0, .int .i64 0, .int .i64 0, .int .i64 0, .int .i64 0, .string ⟨#[]⟩, .string ⟨#[]⟩] 125)
    rw [← hW0]
    exact ⟨((((Below.refl _ w).alloc (Nat.le_refl _) _).alloc (by simp) _).alloc (by simp; omega) _).alloc (by simp; omega) _, p0, p1, p2, p3⟩
  obtain ⟨x, hx⟩ : ∃ x, (gMea s a c).1 = x := ⟨_, rfl⟩
  have CQ : Hid (Calls Tryz.prog 70 #[.func (.func 116) #[] #[.pointer (some ⟨w.heap.size, 0, none⟩), .pointer (some ⟨w.heap.size + 1, 0, none⟩), .pointer (some ⟨w.heap.size + 1 + 1, 0, none⟩), .pointer (some ⟨w.heap.size + 1 + 1 + 1, 0, none⟩)]] W0 fun e W' => e = .returned (.tuple #[]) ∧ Hid (Mb w (.iface T u) n a c x W')) := by
    have := quietly_any (R := Mb w (.iface T u) n a c (gMea s a c).1) (enters_of Tryz.func116 (by kernel_rfl) rfl) (measure1_any h0 n a c hL)
    rw [hx] at this
    exact this
  rw [hx]
  clear h h0 hL hx
  go_enter Tryz.func88, Tryz.ntmps88
  go_wp2_with (go_at_call 70; refine CQ.out.mono ?_; clear CQ hW0; rintro e w1 ⟨rfl, H⟩; obtain ⟨⟨z0, z1, z2, z3, z4, z5, z6⟩, f0, f1, f2, f3, f4, f5, f6⟩ := box7 H.out.x; have hl : w.heap.size + 1 + 1 + 1 < w1.heap.size := (Array.getElem?_eq_some_iff.1 H.out.x).1)
  have hs := H.out.set x
  exact bodyPost_ret (v := sv x) (by simp [results, Tryz.results88, go_sem, z0, z1, z2, z3, z4, z5, z6]) rfl ⟨rfl, hs.bel⟩
end Go.Proofs.YtplieccalmkloaaGreatDoor.Sto
namespace Go.Proofs.YtplieccalmkloaaGreatDoor.Sto
open Go.RowKit Go.Shelf Bod Wid
open Gap (Gp Is gSlice gMea gRng)

theorem fnl (m : Sum) (W : World) : (Instr.field 125 (sv m) 4).run Tryz.prog W = .ok (.int .i64 m.nl) W := by kernel_rfl
theorem gSlice_in {s : ByteArray} {a c : Nat} (h1 : a ≤ c) (h2 : c ≤ s.size) : gSlice s a c = (s.extract a c, 0) := by
  have h : gRng a c s.size = false := by simp [gRng]; omega
  unfold gSlice
  rw [h]
  rfl
theorem gMea_in {s : ByteArray} {a c : Nat} (h1 : a ≤ c) (h2 : c ≤ s.size) : gMea s a c = (smr (s.extract a c), 0) := by
  have h : gRng a c s.size = false := by simp [gRng]; omega
  unfold gMea
  rw [h]
  rfl
set_option maxRecDepth 100000 in
set_option maxHeartbeats 1000000 in
theorem newlines_any {w : World} {t : Value} {s : ByteArray} (h : Vt w t s) (n : Int) (a c : Nat) (h1 : a ≤ c) (h2 : c ≤ s.size) (hs : s.size ≤ 1073741824) : Calls Tryz.prog 63 #[.agg #[t, .int .i64 n], .int .i64 a, .int .i64 c] w fun e W' => e = .returned (.int .i64 (nls (s.extract a c) : Int)) ∧ Below w.heap.size w W' := by
  obtain ⟨W0, hW0⟩ : ∃ W0, w.alloc (.cells #[t, .int .i64 n] 83) = W0 := ⟨_, rfl⟩
  have hb0 : Below w.heap.size w W0 := by rw [← hW0]; exact (Below.refl _ w).alloc (Nat.le_refl _) _
  obtain ⟨y0, y1⟩ : W0.cell? ⟨w.heap.size, 0, none⟩ = some t ∧ W0.cell? ⟨w.heap.size, 1, none⟩ = some (.int .i64 n) := by
    have : W0.heap[w.heap.size]? = some (.cells #[t, .int .i64 n] 83 (0, 0)) := by rw [← hW0]; exact World.alloc_heap_new w _
    simp [World.cell?, this]
  obtain ⟨x, hx⟩ : ∃ x, s.extract a c = x := ⟨_, rfl⟩
  have C1 : Hid (Calls Tryz.prog 91 #[.agg #[t, .int .i64 n], .int .i64 a, .int .i64 c] W0 fun e W' => e = .returned (.string x) ∧ Hid (Below w.heap.size w W')) := by
    have := piece_any (h.below hb0) n a c
    rw [gSlice_in h1 h2, hx] at this
    exact this.mono fun e W' ⟨q1, q2⟩ => ⟨q1, Below.on hb0 q2⟩
  have C2 : Hid (Calls Tryz.prog 88 #[.agg #[t, .int .i64 n], .int .i64 a, .int .i64 c] W0 fun e W' => e = .returned (sv (smr x)) ∧ Hid (Below w.heap.size w W')) := by
    have := measure_any (h.below hb0) n a c
    rw [gMea_in h1 h2, hx] at this
    exact this.mono fun e W' ⟨q1, q2⟩ => ⟨q1, Below.on hb0 q2⟩
  have C3 : Hid (∀ W, Hid (Below w.heap.size w W) → Calls Tryz.prog 96 #[.string x, .string ⟨#[10]⟩] W fun e W' => e = .returned (.int .i64 (nls x : Int)) ∧ Hid (Below w.heap.size w W')) := fun W hW => (scount_any x W).mono fun e W' ⟨q1, q2⟩ => ⟨q1, q2 ▸ hW.out⟩
  have hnl : (smr x).nl = nls x := rfl
  obtain ⟨M, hM⟩ : ∃ M, smr x = M := ⟨_, rfl⟩
  rw [hM] at C2 hnl
  rw [hx]
  clear h hx hM
  by_cases hd : (c : Int) - a ≤ 64
  · clear C2
    go_enter Tryz.func63, Tryz.ntmps63
    go_wp2_with (first
      | (go_at_call 91; refine C1.out.mono ?_; clear C1 hW0 y0 y1; rintro e w1 ⟨rfl, H⟩)
      | (go_at_call 96; refine (C3.out _ H).mono ?_; clear C3 H; rintro e w2 ⟨rfl, H⟩))
    go_ret
    exact ⟨rfl, H.out⟩
  · clear C1 C3
    have HN : Hid (M.nl = nls x) := hnl
    clear hnl
    have hf := fnl M
    go_enter Tryz.func63, Tryz.ntmps63
    go_wp2_with (go_at_call 88; refine C2.out.mono ?_; clear C2 hW0 y0 y1; rintro e w1 ⟨rfl, H⟩)
    go_ret
    exact ⟨congrArg (fun z => Ending.returned (.int .i64 z)) HN.out, H.out⟩
set_option maxRecDepth 100000 in
theorem has_any (w : World) (t : Value) (n a : Int) : Calls Tryz.prog 46 #[.agg #[t, .int .i64 n], .int .i64 a] w fun e W' => e = .returned (.bool (decide (0 ≤ a) && decide (a ≤ n))) ∧ Below w.heap.size w W' := by
  obtain ⟨W0, hW0⟩ : ∃ W0, w.alloc (.cells #[t, .int .i64 n] 83) = W0 := ⟨_, rfl⟩
  have hb0 : Below w.heap.size w W0 := by rw [← hW0]; exact (Below.refl _ w).alloc (Nat.le_refl _) _
  have y1 : W0.cell? ⟨w.heap.size, 1, none⟩ = some (.int .i64 n) := by
    have : W0.heap[w.heap.size]? = some (.cells #[t, .int .i64 n] 83 (0, 0)) := by rw [← hW0]; exact World.alloc_heap_new w _
    simp [World.cell?, this]
  have HB : Hid (Below w.heap.size w W0) := hb0
  clear hb0
  by_cases c : 0 ≤ a
  · have e : decide (0 ≤ a) = true := decide_eq_true c
    rw [e, Bool.true_and]
    go_enter Tryz.func46, Tryz.ntmps46
    go_wp2
    go_ret
    exact ⟨rfl, HB.out⟩
  · have e : decide (0 ≤ a) = false := decide_eq_false c
    rw [e, Bool.false_and]
    go_enter Tryz.func46, Tryz.ntmps46
    go_wp2
    go_ret
    exact ⟨rfl, HB.out⟩
end Go.Proofs.YtplieccalmkloaaGreatDoor.Sto
