/-
  A store over either kind: its text, its measure; the document's own store. Conditions: those of each theorem.
-/
import Derived.Test.YtplieccalmkloaaGreatDoorTRop
import Derived.Test.YtplieccalmkloaaGreatDoorGPkX
import Derived.Test.YtplieccalmkloaaGreatDoorGMea
namespace Go.Proofs.YtplieccalmkloaaGreatDoor.Sto
open Go.RowKit Go.Shelf Bod Wid
open Gap (Gp Is gSlice gRng len_is slice_is ext_all)

/-- what keeps the text, in plain words -/
inductive Kp where
  | gap (o : Option (Nat × Option Nat)) (g : Gp) (n : Nat)
  | rope (b : Nat) (v : Value) (t : Tr) (l : Nat)
def Kp.text : Kp → ByteArray
  | .gap _ g _ => g.s
  | .rope _ _ t _ => t.text
def Kp.lim : Kp → Nat
  | .gap _ g _ => g.l
  | .rope _ _ _ l => l
/-- the text that x points to is K -/
def Hold (W : World) : Tx → Kp → Prop
  | .gap v, .gap o g n => Is W v o g n
  | .rope v, .rope b x t l => v = .pointer (some ⟨b, 0, none⟩) ∧ Rq W b x t l ∧ Good t ∧ t.text.size ≤ l ∧ l ≤ 1073741824
  | _, _ => False
theorem Hold.below {W W' : World} {x : Tx} {K : Kp} (h : Hold W x K) (hb : Below W.heap.size W W') : Hold W' x K := by
  cases x <;> cases K <;> first | exact h.elim | skip
  · exact Gap.Is.below h hb
  · exact ⟨h.1, h.2.1.below hb, h.2.2⟩
theorem Hold.size {W : World} {x : Tx} {K : Kp} (h : Hold W x K) : K.text.size ≤ K.lim ∧ K.lim ≤ 1073741824 := by
  cases x <;> cases K <;> first | exact h.elim | skip
  · obtain ⟨h1, h2, h3⟩ := Gap.Is.ok h
    simp only [Kp.text, Kp.lim]
    omega
  · exact h.2.2.2
theorem slR_gap (s : ByteArray) (f g : Int) : slR s f g = gSlice s f g := by
  unfold slR gSlice
  by_cases h : 0 ≤ f ∧ f ≤ g ∧ g ≤ (s.size : Int)
  · have h1 : wthn s.size f g = true := by simp [wthn, h]
    have h2 : gRng f g s.size = false := by simp [gRng]; omega
    rw [h1, h2]; rfl
  · have h1 : wthn s.size f g = false := by simp [wthn]; omega
    have h2 : gRng f g s.size = true := by simp [gRng]; omega
    rw [h1, h2]; rfl
/-- the method name of the text t is f -/
def Mt (t : TypeId) (v : Value) (name : String) (f : FuncId) : Prop :=
  (∀ W, (method 334 t v name).run Tryz.prog W = .ok (f, v) W) ∧ (∀ args W, (callFunc f args).run Tryz.prog W = .ok (.enter f args) W)
theorem mt_glen (v : Value) : Mt 77 v "Len" 67 := ⟨fun W => by kernel_rfl, enters_of Tryz.func67 (by kernel_rfl) rfl⟩
theorem mt_gslice (v : Value) : Mt 77 v "Slice" 194 := ⟨fun W => by kernel_rfl, enters_of Tryz.func194 (by kernel_rfl) rfl⟩
theorem mt_gmea (v : Value) : Mt 77 v "Measure" 192 := ⟨fun W => by kernel_rfl, enters_of Tryz.func192 (by kernel_rfl) rfl⟩
theorem mt_grep (v : Value) : Mt 77 v "Replace" 193 := ⟨fun W => by kernel_rfl, enters_of Tryz.func193 (by kernel_rfl) rfl⟩
theorem mt_qlen (v : Value) : Mt 148 v "Len" 197 := ⟨fun W => by kernel_rfl, enters_of Tryz.func197 (by kernel_rfl) rfl⟩
theorem mt_qslice (v : Value) : Mt 148 v "Slice" 200 := ⟨fun W => by kernel_rfl, enters_of Tryz.func200 (by kernel_rfl) rfl⟩
theorem mt_qmeas (v : Value) : Mt 148 v "Measure" 198 := ⟨fun W => by kernel_rfl, enters_of Tryz.func198 (by kernel_rfl) rfl⟩
theorem mt_qrep (v : Value) : Mt 148 v "Replace" 199 := ⟨fun W => by kernel_rfl, enters_of Tryz.func199 (by kernel_rfl) rfl⟩
/-- how the text's Len and Slice are asked -/
theorem hold_len {W : World} {x : Tx} {K : Kp} (h : Hold W x K) : ∃ T v f, x.val = .iface T v ∧ Mt T v "Len" f ∧ Calls Tryz.prog f #[v] W fun e W' => e = .returned (.int .i64 K.text.size) ∧ Below W.heap.size W W' := by
  cases x <;> cases K <;> first | exact h.elim | skip
  · exact ⟨_, _, _, rfl, mt_glen _, len_is h⟩
  · obtain ⟨rfl, h1, h2⟩ := h
    exact ⟨_, _, _, rfl, mt_qlen _, qlen_any h1⟩
theorem hold_slice {W : World} {x : Tx} {K : Kp} (h : Hold W x K) : ∃ T v f, x.val = .iface T v ∧ Mt T v "Slice" f ∧ ∀ a b : Int, Calls Tryz.prog f #[v, .int .i64 a, .int .i64 b] W fun e W' => e = .returned (.tuple #[.string (gSlice K.text a b).1, .int .i64 (gSlice K.text a b).2]) ∧ Below W.heap.size W W' := by
  have hz := h.size
  cases x <;> cases K <;> first | exact h.elim | skip
  · exact ⟨_, _, _, rfl, mt_gslice _, fun a b => slice_is h a b⟩
  · obtain ⟨rfl, h1, h2, h3, h4⟩ := h
    refine ⟨_, _, _, rfl, mt_qslice _, fun a b => ?_⟩
    have := qslice_any h1 (by unfold B40; omega) a b
    rw [slR_gap] at this
    exact this
set_option maxRecDepth 100000 in
theorem slen_any {w : World} {v : Value} {x : Option Tx} {k : Sk} {K : Kp} (h : Spt w v x k) (hH : Hold w (Tx.or x) K) : Calls Tryz.prog 69 #[v] w fun e W' => e = .returned (.int .i64 K.text.size) ∧ Below w.heap.size w W' := by
  obtain ⟨T, u, f, e1, ⟨m1, m2⟩, C2⟩ := hold_len hH
  have C1 : Hid (Calls Tryz.prog 77 #[v] w fun e W' => e = .returned (.iface T u) ∧ W' = w) := by have := body_any h; rw [e1] at this; exact this
  have C3 : Hid (Calls Tryz.prog f #[u] w fun e W' => e = .returned (.int .i64 K.text.size) ∧ Below w.heap.size w W') := C2
  generalize K.text.size = n at C3 ⊢
  clear C2 e1 h hH
  go_enter Tryz.func69, Tryz.ntmps69
  go_wp2_with (first | (go_at_call 77; refine C1.out.mono ?_; clear C1; rintro e w1 ⟨rfl, rfl⟩) | (go_at_fn f; refine C3.out.mono ?_; clear C3; rintro e w2 ⟨rfl, hb⟩; have HB : Hid (Below w1.heap.size w1 w2) := hb; clear hb))
  go_ret
  exact ⟨rfl, HB.out⟩
set_option maxRecDepth 100000 in
theorem sslice_any {w : World} {v : Value} {x : Option Tx} {k : Sk} {K : Kp} (h : Spt w v x k) (hH : Hold w (Tx.or x) K) (a b : Int) : Calls Tryz.prog 133 #[v, .int .i64 a, .int .i64 b] w fun e W' => e = .returned (.tuple #[.string (gSlice K.text a b).1, .int .i64 (gSlice K.text a b).2]) ∧ Below w.heap.size w W' := by
  obtain ⟨T, u, f, e1, ⟨m1, m2⟩, C2⟩ := hold_slice hH
  have C1 : Hid (Calls Tryz.prog 77 #[v] w fun e W' => e = .returned (.iface T u) ∧ W' = w) := by have := body_any h; rw [e1] at this; exact this
  have C3 : Hid (Calls Tryz.prog f #[u, .int .i64 a, .int .i64 b] w fun e W' => e = .returned (.tuple #[.string (gSlice K.text a b).1, .int .i64 (gSlice K.text a b).2]) ∧ Below w.heap.size w W') := C2 a b
  generalize gSlice K.text a b = n at C3 ⊢
  clear C2 e1 h hH
  go_enter Tryz.func133, Tryz.ntmps133
  go_wp2_with (first | (go_at_call 77; refine C1.out.mono ?_; clear C1; rintro e w1 ⟨rfl, rfl⟩) | (go_at_fn f; refine C3.out.mono ?_; clear C3; rintro e w2 ⟨rfl, hb⟩; have HB : Hid (Below w1.heap.size w1 w2) := hb; clear hb))
  exact bodyPost_ret (v := .tuple #[.string n.1, .int .i64 n.2]) (by simp [results, Tryz.results133, go_sem]) rfl ⟨rfl, HB.out⟩
set_option maxRecDepth 100000 in
theorem spiece_any {w : World} {v : Value} {x : Option Tx} {k : Sk} {K : Kp} (h : Spt w v x k) (hH : Hold w (Tx.or x) K) (a b : Int) : Calls Tryz.prog 68 #[v, .int .i64 a, .int .i64 b] w fun e W' => e = .returned (.string (gSlice K.text a b).1) ∧ Below w.heap.size w W' := by
  obtain ⟨T, u, f, e1, ⟨m1, m2⟩, C2⟩ := hold_slice hH
  have C1 : Hid (Calls Tryz.prog 77 #[v] w fun e W' => e = .returned (.iface T u) ∧ W' = w) := by have := body_any h; rw [e1] at this; exact this
  have C3 : Hid (Calls Tryz.prog f #[u, .int .i64 a, .int .i64 b] w fun e W' => e = .returned (.tuple #[.string (gSlice K.text a b).1, .int .i64 (gSlice K.text a b).2]) ∧ Below w.heap.size w W') := C2 a b
  generalize gSlice K.text a b = n at C3 ⊢
  clear C2 e1 h hH
  go_enter Tryz.func68, Tryz.ntmps68
  go_wp2_with (first | (go_at_call 77; refine C1.out.mono ?_; clear C1; rintro e w1 ⟨rfl, rfl⟩) | (go_at_fn f; refine C3.out.mono ?_; clear C3; rintro e w2 ⟨rfl, hb⟩; have HB : Hid (Below w1.heap.size w1 w2) := hb; clear hb))
  go_ret
  exact ⟨rfl, HB.out⟩
theorem gSlice_all (s : ByteArray) : (gSlice s 0 s.size).1 = s := by
  have h : gRng 0 s.size s.size = false := by simp [gRng]
  unfold gSlice
  rw [h]
  exact ext_all s
set_option maxRecDepth 100000 in
theorem stext_any {w : World} {v : Value} {x : Option Tx} {k : Sk} {K : Kp} (h : Spt w v x k) (hH : Hold w (Tx.or x) K) : Calls Tryz.prog 36 #[v] w fun e W' => e = .returned (.string K.text) ∧ Below w.heap.size w W' := by
  obtain ⟨n, hn⟩ : ∃ n, K.text.size = n := ⟨_, rfl⟩
  have C1 : Hid (Calls Tryz.prog 69 #[v] w fun e W' => e = .returned (.int .i64 n) ∧ Hid (Below w.heap.size w W')) := by have := slen_any h hH; rw [hn] at this; exact this
  have C2 : Hid (∀ W, Hid (Below w.heap.size w W) → Calls Tryz.prog 68 #[v, .int .i64 0, .int .i64 n] W fun e W' => e = .returned (.string K.text) ∧ Below w.heap.size w W') := fun W hW => (spiece_any (h.below hW.out) (hH.below hW.out) 0 n).mono fun e W' ⟨h1, h2⟩ => ⟨by rw [h1, ← hn, gSlice_all], Below.on hW.out h2⟩
  generalize K.text = s at C2 ⊢
  clear h hH hn
  go_enter Tryz.func36, Tryz.ntmps36
  go_wp2_with (first | (go_at_call 69; refine C1.out.mono ?_; clear C1; rintro e w1 ⟨rfl, HB⟩) | (go_at_call 68; refine (C2.out _ HB).mono ?_; clear C2; rintro e w2 ⟨rfl, hb⟩; have HC : Hid (Below w.heap.size w w2) := hb; clear hb))
  go_ret
  exact ⟨rfl, HC.out⟩
end Go.Proofs.YtplieccalmkloaaGreatDoor.Sto
namespace Go.Proofs.YtplieccalmkloaaGreatDoor.Sto
open Go.RowKit Go.Shelf Bod Wid
open Gap (gMea gRng)

theorem msR_gap (s : ByteArray) (f g : Int) : msR s f g = gMea s f g := by
  unfold msR gMea
  by_cases h : 0 ≤ f ∧ f ≤ g ∧ g ≤ (s.size : Int)
  · have h1 : wthn s.size f g = true := by simp [wthn, h]
    have h2 : gRng f g s.size = false := by simp [gRng]; omega
    rw [h1, h2]; rfl
  · have h1 : wthn s.size f g = false := by simp [wthn]; omega
    have h2 : gRng f g s.size = true := by simp [gRng]; omega
    rw [h1, h2]; rfl
theorem hold_meas {W : World} {x : Tx} {K : Kp} (h : Hold W x K) : ∃ T v f, x.val = .iface T v ∧ Mt T v "Measure" f ∧ ∀ (X : World) (a b : Int), Below W.heap.size W X → Ev X → Calls Tryz.prog f #[v, .int .i64 a, .int .i64 b] X fun e W' => e = .returned (.tuple #[sv (gMea K.text a b).1, .int .i64 (gMea K.text a b).2]) ∧ Below X.heap.size X W' := by
  cases x <;> cases K <;> first | exact h.elim | skip
  · exact ⟨_, _, _, rfl, mt_gmea _, fun X a b hb hE => Gap.mea_is (Gap.Is.below h hb) a b hE.t hE.l0 hE.l1⟩
  · obtain ⟨rfl, h1, h2, h3, h4⟩ := h
    refine ⟨_, _, _, rfl, mt_qmeas _, fun X a b hb hE => ?_⟩
    have := qmeas_any (h1.below hb) (by unfold B40; omega) a b hE
    rw [msR_gap] at this
    exact this
set_option maxRecDepth 100000 in
set_option maxHeartbeats 1000000 in
theorem smeas_any {w : World} {v : Value} {x : Option Tx} {k : Sk} {K : Kp} (h : Spt w v x k) (hH : Hold w (Tx.or x) K) (hE : Ev w) (a b : Int) : Calls Tryz.prog 188 #[v, .int .i64 a, .int .i64 b] w fun e W' => e = .returned (.tuple #[sv (gMea K.text a b).1, .int .i64 (gMea K.text a b).2]) ∧ Below w.heap.size w W' := by
  obtain ⟨T, u, f, e1, ⟨m1, m2⟩, C2⟩ := hold_meas hH
  obtain ⟨W0, hW0⟩ : ∃ W0, w.alloc (.cells #[.int .i64 0, .int .i64 0, .int .i64 0, .int .i64 0, .int .i64 0, .string ⟨#[]⟩, .string ⟨#[]⟩] 125) = W0 := ⟨_, rfl⟩
  have b0 : Bx7 w W0 := by rw [← hW0]; exact ⟨World.alloc_heap_new w _, (Below.refl _ w).alloc (Nat.le_refl _) _⟩
  have C1 : Hid (Calls Tryz.prog 77 #[v] W0 fun e W' => e = .returned (.iface T u) ∧ W' = W0) := by have := body_any (h.below b0.2); rw [e1] at this; exact this
  have C3 : Hid (Calls Tryz.prog f #[u, .int .i64 a, .int .i64 b] W0 fun e W' => e = .returned (.tuple #[sv (gMea K.text a b).1, .int .i64 (gMea K.text a b).2]) ∧ Hid (Bx7 w W')) := (C2 W0 a b b0.2 (hE.below b0.2)).mono fun e W' ⟨h1, h2⟩ => ⟨h1, b0.below h2⟩
  obtain ⟨M, hM⟩ : ∃ M, (gMea K.text a b).1 = M := ⟨_, rfl⟩
  obtain ⟨E, hE2⟩ : ∃ E, (gMea K.text a b).2 = E := ⟨_, rfl⟩
  rw [hM, hE2] at C3 ⊢
  clear C2 e1 h hH hE hM hE2 b0
  go_enter Tryz.func188, Tryz.ntmps188
  go_wp2_with (first | (go_at_call 77; refine C1.out.mono ?_; clear C1; rintro e w1 ⟨rfl, hw1⟩; rw [hw1]) | (go_at_fn f; refine C3.out.mono ?_; clear C3 hW0; rintro e w2 ⟨rfl, h1⟩; obtain ⟨⟨z0, z1, z2, z3, z4, z5, z6⟩, f0, f1, f2, f3, f4, f5, f6⟩ := box7 h1.out.1; have hl : w.heap.size < w2.heap.size := (Array.getElem?_eq_some_iff.1 h1.out.1).1))
  exact bodyPost_ret (v := .tuple #[sv M, .int .i64 E]) (by simp [results, Tryz.results188, go_sem, z0, z1, z2, z3, z4, z5, z6]) rfl ⟨rfl, set7_below h1.out.2 _ _ _ _ _ _ _⟩
end Go.Proofs.YtplieccalmkloaaGreatDoor.Sto
