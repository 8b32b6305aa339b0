/-
  A store over either kind: its text, its measure; the document's own store. Conditions: those of each theorem.
-/
import Derived.Test.YtffipfmnpffdaaaGreatDoorTRop
import Derived.Test.YtffipfmnpffdaaaGreatDoorGPkD
import Derived.Test.YtffipfmnpffdaaaGreatDoorPkP
import Derived.Test.YtffipfmnpffdaaaGreatDoorGPkE
namespace Go.Proofs.YtffipfmnpffdaaaGreatDoor.Sto
open Go.RowKit Go.Shelf Bod Wid
open Gap (Gp Is gSlice gRng len_is slice_is ext_all)

/-- what keeps the text, in plain words -/
inductive Kp where
  | gap (o : Option (Nat × Option Nat)) (g : Gp) (n : Nat)
  | rope (b : Nat) (v : Value) (t : Tr) (l : Nat)
def Kp.text : Kp → ByteArray
  | .gap _ g _ => g.s
  | .rope _ _ t _ => t.text
def Kp.lim : Kp → Nat
  | .gap _ g _ => g.l
  | .rope _ _ _ l => l
/-- the text that x points to is K -/
def Hold (W : World) : Tx → Kp → Prop
  | .gap v, .gap o g n => Is W v o g n
  | .rope v, .rope b x t l => v = .pointer (some ⟨b, 0, none⟩) ∧ Rq W b x t l ∧ Good t ∧ t.text.size ≤ l ∧ l ≤ 1073741824
  | _, _ => False
theorem Hold.below {W W' : World} {x : Tx} {K : Kp} (h : Hold W x K) (hb : Below W.heap.size W W') : Hold W' x K := by
  cases x <;> cases K <;> first | exact h.elim | skip
  · exact Gap.Is.below h hb
  · exact ⟨h.1, h.2.1.below hb, h.2.2⟩
theorem Hold.size {W : World} {x : Tx} {K : Kp} (h : Hold W x K) : K.text.size ≤ K.lim ∧ K.lim ≤ 1073741824 := by
  cases x <;> cases K <;> first | exact h.elim | skip
  · obtain ⟨h1, h2, h3⟩ := Gap.Is.ok h
    simp only [Kp.text, Kp.lim]
    omega
  · exact h.2.2.2
theorem slR_gap (s : ByteArray) (f g : Int) : slR s f g = gSlice s f g := by
  unfold slR gSlice
  by_cases h : 0 ≤ f ∧ f ≤ g ∧ g ≤ (s.size : Int)
  · have h1 : wthn s.size f g = true := by simp [wthn, h]
    have h2 : gRng f g s.size = false := by simp [gRng]; omega
    rw [h1, h2]; rfl
  · have h1 : wthn s.size f g = false := by simp [wthn]; omega
    have h2 : gRng f g s.size = true := by simp [gRng]; omega
    rw [h1, h2]; rfl
/-- the method name of the text t is f -/
def Mt (t : TypeId) (v : Value) (name : String) (f : FuncId) : Prop :=
  (∀ W, (method 381 t v name).run Tryz.prog W = .ok (f, v) W) ∧ (∀ args W, (callFunc f args).run Tryz.prog W = .ok (.enter f args) W)
theorem mt_glen (v : Value) : Mt 143 v "Len" 163 := ⟨fun W => by kernel_rfl, enters_of Tryz.func163 (by kernel_rfl) rfl⟩
theorem mt_gslice (v : Value) : Mt 143 v "Slice" 269 := ⟨fun W => by kernel_rfl, enters_of Tryz.func269 (by kernel_rfl) rfl⟩
theorem mt_gmea (v : Value) : Mt 143 v "Measure" 267 := ⟨fun W => by kernel_rfl, enters_of Tryz.func267 (by kernel_rfl) rfl⟩
theorem mt_grep (v : Value) : Mt 143 v "Replace" 268 := ⟨fun W => by kernel_rfl, enters_of Tryz.func268 (by kernel_rfl) rfl⟩
theorem mt_qlen (v : Value) : Mt 188 v "Len" 274 := ⟨fun W => by kernel_rfl, enters_of Tryz.func274 (by kernel_rfl) rfl⟩
theorem mt_qslice (v : Value) : Mt 188 v "Slice" 277 := ⟨fun W => by kernel_rfl, enters_of Tryz.func277 (by kernel_rfl) rfl⟩
theorem mt_qmeas (v : Value) : Mt 188 v "Measure" 275 := ⟨fun W => by kernel_rfl, enters_of Tryz.func275 (by kernel_rfl) rfl⟩
theorem mt_qrep (v : Value) : Mt 188 v "Replace" 276 := ⟨fun W => by kernel_rfl, enters_of Tryz.func276 (by kernel_rfl) rfl⟩
/-- how the text's Len and Slice are asked -/
theorem hold_len {W : World} {x : Tx} {K : Kp} (h : Hold W x K) : ∃ T v f, x.val = .iface T v ∧ Mt T v "Len" f ∧ Calls Tryz.prog f #[v] W fun e W' => e = .returned (.int .i64 K.text.size) ∧ Below W.heap.size W W' := by
  cases x <;> cases K <;> first | exact h.elim | skip
  · exact ⟨_, _, _, rfl, mt_glen _, len_is h⟩
  · obtain ⟨rfl, h1, h2⟩ := h
    exact ⟨_, _, _, rfl, mt_qlen _, qlen_any h1⟩
theorem hold_slice {W : World} {x : Tx} {K : Kp} (h : Hold W x K) : ∃ T v f, x.val = .iface T v ∧ Mt T v "Slice" f ∧ ∀ a b : Int, Calls Tryz.prog f #[v, .int .i64 a, .int .i64 b] W fun e W' => e = .returned (.tuple #[.string (gSlice K.text a b).1, .int .i64 (gSlice K.text a b).2]) ∧ Below W.heap.size W W' := by
  have hz := h.size
  cases x <;> cases K <;> first | exact h.elim | skip
  · exact ⟨_, _, _, rfl, mt_gslice _, fun a b => slice_is h a b⟩
  · obtain ⟨rfl, h1, h2, h3, h4⟩ := h
    refine ⟨_, _, _, rfl, mt_qslice _, fun a b => ?_⟩
    have := qslice_any h1 (by unfold B40; omega) a b
    rw [slR_gap] at this
    exact this
set_option maxRecDepth 100000 in
theorem slen_any {w : World} {v : Value} {x : Option Tx} {k : Sk} {K : Kp} (h : Spt w v x k) (hH : Hold w (Tx.or x) K) : Calls Tryz.prog 99 #[v] w fun e W' => e = .returned (.int .i64 K.text.size) ∧ Below w.heap.size w W' := by
  obtain ⟨T, u, f, e1, ⟨m1, m2⟩, C2⟩ := hold_len hH
  have C1 : Hid (Calls Tryz.prog 104 #[v] w fun e W' => e = .returned (.iface T u) ∧ W' = w) := by have := body_any h; rw [e1] at this; exact this
  have C3 : Hid (Calls Tryz.prog f #[u] w fun e W' => e = .returned (.int .i64 K.text.size) ∧ Below w.heap.size w W') := C2
  generalize K.text.size = n at C3 ⊢
  clear C2 e1 h hH
  go_enter Tryz.func99, Tryz.ntmps99
  go_wp2_with (first | (go_at_call 104; refine C1.out.mono ?_; clear C1; rintro e w1 ⟨rfl, rfl⟩) | (go_at_fn f; refine C3.out.mono ?_; clear C3; rintro e w2 ⟨rfl, hb⟩; have HB : Hid (Below w1.heap.size w1 w2) := hb; clear hb))
  go_ret
  exact ⟨rfl, HB.out⟩
set_option maxRecDepth 100000 in
theorem sslice_any {w : World} {v : Value} {x : Option Tx} {k : Sk} {K : Kp} (h : Spt w v x k) (hH : Hold w (Tx.or x) K) (a b : Int) : Calls Tryz.prog 79 #[v, .int .i64 a, .int .i64 b] w fun e W' => e = .returned (.tuple #[.string (gSlice K.text a b).1, .int .i64 (gSlice K.text a b).2]) ∧ Below w.heap.size w W' := by
  obtain ⟨T, u, f, e1, ⟨m1, m2⟩, C2⟩ := hold_slice hH
  have C1 : Hid (Calls Tryz.prog 104 #[v] w fun e W' => e = .returned (.iface T u) ∧ W' = w) := by have := body_any h; rw [e1] at this; exact this
  have C3 : Hid (Calls Tryz.prog f #[u, .int .i64 a, .int .i64 b] w fun e W' => e = .returned (.tuple #[.string (gSlice K.text a b).1, .int .i64 (gSlice K.text a b).2]) ∧ Below w.heap.size w W') := C2 a b
  generalize gSlice K.text a b = n at C3 ⊢
  clear C2 e1 h hH
  go_enter Tryz.func79, Tryz.ntmps79
  go_wp2_with (first | (go_at_call 104; refine C1.out.mono ?_; clear C1; rintro e w1 ⟨rfl, rfl⟩) | (go_at_fn f; refine C3.out.mono ?_; clear C3; rintro e w2 ⟨rfl, hb⟩; have HB : Hid (Below w1.heap.size w1 w2) := hb; clear hb))
  exact bodyPost_ret (v := .tuple #[.string n.1, .int .i64 n.2]) (by simp [results, Tryz.results79, go_sem]) rfl ⟨rfl, HB.out⟩
set_option maxRecDepth 100000 in
theorem spiece_any {w : World} {v : Value} {x : Option Tx} {k : Sk} {K : Kp} (h : Spt w v x k) (hH : Hold w (Tx.or x) K) (a b : Int) : Calls Tryz.prog 147 #[v, .int .i64 a, .int .i64 b] w fun e W' => e = .returned (.string (gSlice K.text a b).1) ∧ Below w.heap.size w W' := by
  obtain ⟨T, u, f, e1, ⟨m1, m2⟩, C2⟩ := hold_slice hH
  have C1 : Hid (Calls Tryz.prog 104 #[v] w fun e W' => e = .returned (.iface T u) ∧ W' = w) := by have := body_any h; rw [e1] at this; exact this
  have C3 : Hid (Calls Tryz.prog f #[u, .int .i64 a, .int .i64 b] w fun e W' => e = .returned (.tuple #[.string (gSlice K.text a b).1, .int .i64 (gSlice K.text a b).2]) ∧ Below w.heap.size w W') := C2 a b
  generalize gSlice K.text a b = n at C3 ⊢
  clear C2 e1 h hH
  go_enter Tryz.func147, Tryz.ntmps147
  go_wp2_with (first | (go_at_call 104; refine C1.out.mono ?_; clear C1; rintro e w1 ⟨rfl, rfl⟩) | (go_at_fn f; refine C3.out.mono ?_; clear C3; rintro e w2 ⟨rfl, hb⟩; have HB : Hid (Below w1.heap.size w1 w2) := hb; clear hb))
  go_ret
  exact ⟨rfl, HB.out⟩
theorem gSlice_all (s : ByteArray) : (gSlice s 0 s.size).1 = s := by
  have h : gRng 0 s.size s.size = false := by simp [gRng]
  unfold gSlice
  rw [h]
  exact ext_all s
set_option maxRecDepth 100000 in
theorem stext_any {w : World} {v : Value} {x : Option Tx} {k : Sk} {K : Kp} (h : Spt w v x k) (hH : Hold w (Tx.or x) K) : Calls Tryz.prog 69 #[v] w fun e W' => e = .returned (.string K.text) ∧ Below w.heap.size w W' := by
  obtain ⟨n, hn⟩ : ∃ n, K.text.size = n := ⟨_, rfl⟩
  have C1 : Hid (Calls Tryz.prog 99 #[v] w fun e W' => e = .returned (.int .i64 n) ∧ Hid (Below w.heap.size w W')) := by have := slen_any h hH; rw [hn] at this; exact this
  have C2 : Hid (∀ W, Hid (Below w.heap.size w W) → Calls Tryz.prog 147 #[v, .int .i64 0, .int .i64 n] W fun e W' => e = .returned (.string K.text) ∧ Below w.heap.size w W') := fun W hW => (spiece_any (h.below hW.out) (hH.below hW.out) 0 n).mono fun e W' ⟨h1, h2⟩ => ⟨by rw [h1, ← hn, gSlice_all], Below.on hW.out h2⟩
  generalize K.text = s at C2 ⊢
  clear h hH hn
  go_enter Tryz.func69, Tryz.ntmps69
  go_wp2_with (first | (go_at_call 99; refine C1.out.mono ?_; clear C1; rintro e w1 ⟨rfl, HB⟩) | (go_at_call 147; refine (C2.out _ HB).mono ?_; clear C2; rintro e w2 ⟨rfl, hb⟩; have HC : Hid (Below w.heap.size w w2) := hb; clear hb))
  go_ret
  exact ⟨rfl, HC.out⟩
end Go.Proofs.YtffipfmnpffdaaaGreatDoor.Sto
namespace Go.Proofs.YtffipfmnpffdaaaGreatDoor.Sto
open Go.RowKit Go.Shelf Bod Wid
open Gap (gMea gRng)

theorem msR_gap (s : ByteArray) (f g : Int) : msR s f g = gMea s f g := by
  unfold msR gMea
  by_cases h : 0 ≤ f ∧ f ≤ g ∧ g ≤ (s.size : Int)
  · have h1 : wthn s.size f g = true := by simp [wthn, h]
    have h2 : gRng f g s.size = false := by simp [gRng]; omega
    rw [h1, h2]; rfl
  · have h1 : wthn s.size f g = false := by simp [wthn]; omega
    have h2 : gRng f g s.size = true := by simp [gRng]; omega
    rw [h1, h2]; rfl
theorem hold_meas {W : World} {x : Tx} {K : Kp} (h : Hold W x K) : ∃ T v f, x.val = .iface T v ∧ Mt T v "Measure" f ∧ ∀ (X : World) (a b : Int), Below W.heap.size W X → Ev X → Calls Tryz.prog f #[v, .int .i64 a, .int .i64 b] X fun e W' => e = .returned (.tuple #[sv (gMea K.text a b).1, .int .i64 (gMea K.text a b).2]) ∧ Below X.heap.size X W' := by
  cases x <;> cases K <;> first | exact h.elim | skip
  · exact ⟨_, _, _, rfl, mt_gmea _, fun X a b hb hE => Gap.mea_is (Gap.Is.below h hb) a b hE.t hE.l0 hE.l1⟩
  · obtain ⟨rfl, h1, h2, h3, h4⟩ := h
    refine ⟨_, _, _, rfl, mt_qmeas _, fun X a b hb hE => ?_⟩
    have := qmeas_any (h1.below hb) (by unfold B40; omega) a b hE
    rw [msR_gap] at this
    exact this
set_option maxRecDepth 100000 in
set_option maxHeartbeats 1000000 in
theorem smeas_any {w : World} {v : Value} {x : Option Tx} {k : Sk} {K : Kp} (h : Spt w v x k) (hH : Hold w (Tx.or x) K) (hE : Ev w) (a b : Int) : Calls Tryz.prog 81 #[v, .int .i64 a, .int .i64 b] w fun e W' => e = .returned (.tuple #[sv (gMea K.text a b).1, .int .i64 (gMea K.text a b).2]) ∧ Below w.heap.size w W' := by
  obtain ⟨T, u, f, e1, ⟨m1, m2⟩, C2⟩ := hold_meas hH
  obtain ⟨W0, hW0⟩ : ∃ W0, w.alloc (.cells #[.int .i64 0, .int .i64 0, .int .i64 0, .int .i64 0, .int .i64 0, .string ⟨#[]⟩, .string ⟨#[]⟩] 106) = W0 := ⟨_, rfl⟩
  have b0 : Bx7 w W0 := by rw [← hW0]; exact ⟨World.alloc_heap_new w _, (Below.refl _ w).alloc (Nat.le_refl _) _⟩
  have C1 : Hid (Calls Tryz.prog 104 #[v] W0 fun e W' => e = .returned (.iface T u) ∧ W' = W0) := by have := body_any (h.below b0.2); rw [e1] at this; exact this
  have C3 : Hid (Calls Tryz.prog f #[u, .int .i64 a, .int .i64 b] W0 fun e W' => e = .returned (.tuple #[sv (gMea K.text a b).1, .int .i64 (gMea K.text a b).2]) ∧ Hid (Bx7 w W')) := (C2 W0 a b b0.2 (hE.below b0.2)).mono fun e W' ⟨h1, h2⟩ => ⟨h1, b0.below h2⟩
  obtain ⟨M, hM⟩ : ∃ M, (gMea K.text a b).1 = M := ⟨_, rfl⟩
  obtain ⟨E, hE2⟩ : ∃ E, (gMea K.text a b).2 = E := ⟨_, rfl⟩
  rw [hM, hE2] at C3 ⊢
  clear C2 e1 h hH hE hM hE2 b0
  go_enter Tryz.func81, Tryz.ntmps81
  go_wp2_with (first | (go_at_call 104; refine C1.out.mono ?_; clear C1; rintro e w1 ⟨rfl, hw1⟩; rw [hw1]) | (go_at_fn f; refine C3.out.mono ?_; clear C3 hW0; rintro e w2 ⟨rfl, h1⟩; obtain ⟨⟨z0, z1, z2, z3, z4, z5, z6⟩, f0, f1, f2, f3, f4, f5, f6⟩ := box7 h1.out.1; have hl : w.heap.size < w2.heap.size := (Array.getElem?_eq_some_iff.1 h1.out.1).1))
  exact bodyPost_ret (v := .tuple #[sv M, .int .i64 E]) (by simp [results, Tryz.results81, go_sem, z0, z1, z2, z3, z4, z5, z6]) rfl ⟨rfl, set7_below h1.out.2 _ _ _ _ _ _ _⟩
end Go.Proofs.YtffipfmnpffdaaaGreatDoor.Sto
namespace Go.Proofs.YtffipfmnpffdaaaGreatDoor.Sto
open Go.RowKit Go.Shelf Bod Wid
open Gap (Gp RB gSlice gMea)

/-- the numbers of the document's store -/
structure Rk where
  kind : Int
  now : Int
  lo : Int
  hi : Int
  mv : Int
  fo : Int
  ed : Int
def rcl (p : Nat) (k : Rk) : Array Value := #[.pointer (some ⟨p, 0, none⟩), .int .i64 k.kind, .int .i64 k.now, .int .i64 k.lo, .int .i64 k.hi, .int .i64 k.mv, .int .i64 k.fo, .int .i64 k.ed]
/-- at b lies the document's store: its numbers, its buffer at p -/
structure Rf (W : World) (b p : Nat) (g : Gp) (k : Rk) : Prop where
  box : W.heap[b]? = some (.cells (rcl p k) 61 (0, 0))
  buf : RB W p g
  ok : g.ok
theorem Rf.lt {W : World} {b p : Nat} {g : Gp} {k : Rk} (h : Rf W b p g k) : b < W.heap.size := (Array.getElem?_eq_some_iff.1 h.box).1
theorem Rf.below {W W' : World} {b p : Nat} {g : Gp} {k : Rk} (h : Rf W b p g k) (hb : Below W.heap.size W W') : Rf W' b p g k :=
  ⟨(hb.block _ h.lt).trans h.box, (hb.block _ (Array.getElem?_eq_some_iff.1 h.buf).1).trans h.buf, h.ok⟩
theorem rcells {W : World} {b p : Nat} {k : Rk} (h : W.heap[b]? = some (.cells (rcl p k) 61 (0, 0))) :
    (W.cell? ⟨b, 0, none⟩ = some (.pointer (some ⟨p, 0, none⟩)) ∧ W.cell? ⟨b, 1, none⟩ = some (.int .i64 k.kind) ∧ W.cell? ⟨b, 2, none⟩ = some (.int .i64 k.now) ∧ W.cell? ⟨b, 3, none⟩ = some (.int .i64 k.lo) ∧ W.cell? ⟨b, 4, none⟩ = some (.int .i64 k.hi) ∧ W.cell? ⟨b, 5, none⟩ = some (.int .i64 k.mv) ∧ W.cell? ⟨b, 6, none⟩ = some (.int .i64 k.fo) ∧ W.cell? ⟨b, 7, none⟩ = some (.int .i64 k.ed)) ∧ b < W.heap.size := by
  refine ⟨⟨?_, ?_, ?_, ?_, ?_, ?_, ?_, ?_⟩, (Array.getElem?_eq_some_iff.1 h).1⟩ <;> (unfold World.cell?; rw [h]; rfl)
theorem rfroz {W : World} {b i : Nat} {p : Nat} {k : Rk} (h : W.heap[b]? = some (.cells (rcl p k) 61 (0, 0))) : W.frozen? ⟨b, i, none⟩ = false := by unfold World.frozen?; rw [h]; simp
section
variable {w : World} {b p : Nat} {g : Gp} {k : Rk}
set_option maxRecDepth 100000 in
theorem rkind_any (h : Rf w b p g k) : Calls Tryz.prog 94 #[.pointer (some ⟨b, 0, none⟩)] w fun e W' => e = .returned (.int .i64 k.kind) ∧ W' = w := by
  obtain ⟨⟨c0, c1, c2, c3, c4, c5, c6, c7⟩, hlt⟩ := rcells h.box
  clear h
  go_enter Tryz.func94, Tryz.ntmps94
  go_wp2
  go_ret
  exact ⟨rfl, rfl⟩
set_option maxRecDepth 100000 in
theorem rback_any (h : Rf w b p g k) : Calls Tryz.prog 95 #[.pointer (some ⟨b, 0, none⟩)] w fun e W' => e = .returned (.int .i64 k.now) ∧ W' = w := by
  obtain ⟨⟨c0, c1, c2, c3, c4, c5, c6, c7⟩, hlt⟩ := rcells h.box
  clear h
  go_enter Tryz.func95, Tryz.ntmps95
  go_wp2
  go_ret
  exact ⟨rfl, rfl⟩
set_option maxRecDepth 100000 in
theorem rlim_any (h : Rf w b p g k) : Calls Tryz.prog 97 #[.pointer (some ⟨b, 0, none⟩)] w fun e W' => e = .returned (.int .i64 g.l) ∧ W' = w := by
  obtain ⟨⟨c0, c1, c2, c3, c4, c5, c6, c7⟩, hlt⟩ := rcells h.box
  obtain ⟨⟨d0, d1, d2⟩, _, _, hlp⟩ := h.buf.cells
  clear h
  go_enter Tryz.func97, Tryz.ntmps97
  go_wp2
  go_ret
  exact ⟨rfl, rfl⟩
set_option maxRecDepth 100000 in
theorem rlen9_any (h : Rf w b p g k) : Calls Tryz.prog 100 #[.pointer (some ⟨b, 0, none⟩)] w fun e W' => e = .returned (.int .i64 g.s.size) ∧ W' = w := by
  obtain ⟨⟨c0, c1, c2, c3, c4, c5, c6, c7⟩, hlt⟩ := rcells h.box
  obtain ⟨⟨d0, d1, d2⟩, _, _, hlp⟩ := h.buf.cells
  clear h
  go_enter Tryz.func100, Tryz.ntmps100
  go_wp2
  go_ret
  exact ⟨rfl, rfl⟩
set_option maxRecDepth 100000 in
theorem rtext9_any (h : Rf w b p g k) : Calls Tryz.prog 101 #[.pointer (some ⟨b, 0, none⟩)] w fun e W' => e = .returned (.string g.s) ∧ W' = w := by
  obtain ⟨⟨c0, c1, c2, c3, c4, c5, c6, c7⟩, hlt⟩ := rcells h.box
  obtain ⟨⟨d0, d1, d2⟩, _, _, hlp⟩ := h.buf.cells
  clear h
  go_enter Tryz.func101, Tryz.ntmps101
  go_wp2
  go_ret
  exact ⟨rfl, rfl⟩
set_option maxRecDepth 100000 in
theorem rthr_any (h : Rf w b p g k) : Calls Tryz.prog 92 #[.pointer (some ⟨b, 0, none⟩)] w fun e W' => e = .returned (.tuple #[.int .i64 k.lo, .int .i64 k.hi]) ∧ Below w.heap.size w W' := by
  obtain ⟨⟨c0, c1, c2, c3, c4, c5, c6, c7⟩, hlt⟩ := rcells h.box
  clear h
  go_enter Tryz.func92, Tryz.ntmps92
  go_wp2
  go_region
  go_wp2
  exact bodyPost_ret (v := .tuple #[.int .i64 k.lo, .int .i64 k.hi]) (by simp [results, Tryz.results92, go_sem]) rfl ⟨rfl, (Below.refl _ w).drew⟩
set_option maxRecDepth 100000 in
theorem rcnt_any (h : Rf w b p g k) : Calls Tryz.prog 98 #[.pointer (some ⟨b, 0, none⟩)] w fun e W' => e = .returned (.agg #[.int .i64 k.mv, .int .i64 k.fo, .int .i64 k.ed]) ∧ Below w.heap.size w W' := by
  obtain ⟨W0, hW0⟩ : ∃ W0, w.alloc (.cells #[.int .i64 0, .int .i64 0, .int .i64 0] 48) = W0 := ⟨_, rfl⟩
  have hb0 : Below w.heap.size w W0 := by rw [← hW0]; exact (Below.refl _ w).alloc (Nat.le_refl _) _
  have r0 : W0.heap[w.heap.size]? = some (.cells #[.int .i64 0, .int .i64 0, .int .i64 0] 48 (0, 0)) := by rw [← hW0]; exact World.alloc_heap_new w _
  obtain ⟨⟨c0, c1, c2, c3, c4, c5, c6, c7⟩, hlt⟩ := rcells (h.below hb0).box
  obtain ⟨⟨z0, z1, z2⟩, f0, f1, f2⟩ := box3 r0
  have hl : w.heap.size < W0.heap.size := (Array.getElem?_eq_some_iff.1 r0).1
  have HB : Hid (Below w.heap.size w W0) := hb0
  clear h hb0 r0
  go_enter Tryz.func98, Tryz.ntmps98
  go_wp2
  exact bodyPost_ret (v := .agg #[.int .i64 k.mv, .int .i64 k.fo, .int .i64 k.ed]) (by simp [results, Tryz.results98, go_sem, z0, z1, z2]) rfl ⟨rfl, ((HB.out.setCell (p := ⟨w.heap.size, 0, none⟩) (Nat.le_refl _) _).setCell (p := ⟨w.heap.size, 1, none⟩) (Nat.le_refl _) _).setCell (p := ⟨w.heap.size, 2, none⟩) (Nat.le_refl _) _⟩
set_option maxRecDepth 100000 in
theorem rslice9_any (h : Rf w b p g k) (x y : Int) : Calls Tryz.prog 80 #[.pointer (some ⟨b, 0, none⟩), .int .i64 x, .int .i64 y] w fun e W' => e = .returned (.tuple #[.string (gSlice g.s x y).1, .int .i64 (gSlice g.s x y).2]) ∧ Below w.heap.size w W' := by
  obtain ⟨⟨c0, c1, c2, c3, c4, c5, c6, c7⟩, hlt⟩ := rcells h.box
  have C1 : Hid (Calls Tryz.prog 151 #[.pointer (some ⟨p, 0, none⟩), .int .i64 x, .int .i64 y] w fun e W' => e = .returned (.tuple #[.string (gSlice g.s x y).1, .int .i64 (gSlice g.s x y).2]) ∧ Below w.heap.size w W') := Gap.rslice_any x y w h.buf
  generalize gSlice g.s x y = n at C1 ⊢
  clear h
  go_enter Tryz.func80, Tryz.ntmps80
  go_wp2_with (go_at_call 151; refine C1.out.mono ?_; clear C1; rintro e w1 ⟨rfl, hb⟩; have HB : Hid (Below w.heap.size w w1) := hb; clear hb)
  exact bodyPost_ret (v := .tuple #[.string n.1, .int .i64 n.2]) (by simp [results, Tryz.results80, go_sem]) rfl ⟨rfl, HB.out⟩
set_option maxRecDepth 100000 in
set_option maxHeartbeats 1000000 in
theorem rmeas9_any (h : Rf w b p g k) (x y : Int) : Calls Tryz.prog 82 #[.pointer (some ⟨b, 0, none⟩), .int .i64 x, .int .i64 y] w fun e W' => e = .returned (.tuple #[sv (gMea g.s x y).1, .int .i64 (gMea g.s x y).2]) ∧ Below w.heap.size w W' := by
  obtain ⟨W0, hW0⟩ : ∃ W0, w.alloc (.cells #[.int .i64 0, .int .i64 0, .int .i64 0, .int .i64 0, .int .i64 0, .string ⟨#[]⟩, .string ⟨#[]⟩] 106) = W0 := ⟨_, rfl⟩
  have b0 : Bx7 w W0 := by rw [← hW0]; exact ⟨World.alloc_heap_new w _, (Below.refl _ w).alloc (Nat.le_refl _) _⟩
  obtain ⟨⟨c0, c1, c2, c3, c4, c5, c6, c7⟩, hlt⟩ := rcells (h.below b0.2).box
  have C1 : Hid (Calls Tryz.prog 152 #[.pointer (some ⟨p, 0, none⟩), .int .i64 x, .int .i64 y] W0 fun e W' => e = .returned (.tuple #[sv (gMea g.s x y).1, .int .i64 (gMea g.s x y).2]) ∧ Hid (Bx7 w W')) := (Gap.rmea_any h.ok x y W0 (h.below b0.2).buf).mono fun e W' ⟨h1, h2⟩ => ⟨h1, b0.below h2⟩
  obtain ⟨M, hM⟩ : ∃ M, (gMea g.s x y).1 = M := ⟨_, rfl⟩
  obtain ⟨E, hE2⟩ : ∃ E, (gMea g.s x y).2 = E := ⟨_, rfl⟩
  rw [hM, hE2] at C1 ⊢
  clear h b0 hM hE2
  go_enter Tryz.func82, Tryz.ntmps82
  go_wp2_with (go_at_call 152; refine C1.out.mono ?_; clear C1 hW0; rintro e w1 ⟨rfl, h1⟩; obtain ⟨⟨z0, z1, z2, z3, z4, z5, z6⟩, f0, f1, f2, f3, f4, f5, f6⟩ := box7 h1.out.1; have hl : w.heap.size < w1.heap.size := (Array.getElem?_eq_some_iff.1 h1.out.1).1)
  exact bodyPost_ret (v := .tuple #[sv M, .int .i64 E]) (by simp [results, Tryz.results82, go_sem, z0, z1, z2, z3, z4, z5, z6]) rfl ⟨rfl, set7_below h1.out.2 _ _ _ _ _ _ _⟩
end
end Go.Proofs.YtffipfmnpffdaaaGreatDoor.Sto
