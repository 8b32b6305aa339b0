/-
  The walk of the law StoreTexts: Same of stores, gap buffers and nothing. Conditions: the two tables of unicode/utf8 lie as their text lays them; what is read holds together at most 1048576 values and letters.
-/
import Derived.Test.YtkmihnjmchfopaaGreatDoorPkTE
import Derived.Lib.QuietBelow
import Derived.BigQuiet
namespace Go.Proofs.YtkmihnjmchfopaaGreatDoor.Sto
open Go.RowKit Go.Shelf Bod Wid
open Gap (Gp lim gNew PB)

theorem ba_zero {a : ByteArray} (h : a.size = 0) : a = ⟨#[]⟩ := by
  obtain ⟨d⟩ := a
  have : d = #[] := Array.eq_empty_of_size_eq_zero h
  rw [this]
theorem tl_nil (w : World) : Tl w (.iface 46 (.pointer none)) ⟨#[]⟩ := tl_store (x := none) (k := k0) (K := .gap none Gap.g0 0) (.inl ⟨rfl, rfl, rfl⟩) ⟨rfl, rfl, rfl⟩
theorem tl_se {w W : World} {b : Nat} {s : ByteArray} {bk : Int} {k : Sk} (h : Se w b s bk k W) : Tl W (.iface 46 (.pointer (some ⟨b, 0, none⟩))) s := by
  obtain ⟨x, K, h⟩ := h
  have := tl_store h.st.spt h.st.hold
  rw [h.text] at this
  exact this
/-- the two boxes of what is handed in -/
structure Bm (w : World) (m o : Mk) (W : World) : Prop where
  b0 : W.heap[w.heap.size]? = some (.cells (mkv m) 44 (0, 0))
  b1 : W.heap[w.heap.size + 1]? = some (.cells (mkv o) 44 (0, 0))
  bel : Below w.heap.size w W
theorem Bm.below {w W X : World} {m o : Mk} (h : Bm w m o W) (hb : Below W.heap.size W X) : Bm w m o X := ⟨(hb.block _ (Array.getElem?_eq_some_iff.1 h.b0).1).trans h.b0, (hb.block _ (Array.getElem?_eq_some_iff.1 h.b1).1).trans h.b1, Below.on h.bel hb⟩
theorem bm_new (w : World) (m o : Mk) : Bm w m o ((w.alloc (.cells (mkv m) 44)).alloc (.cells (mkv o) 44)) := by
  have a1 := (Below.refl _ w).alloc (Nat.le_refl _) (.cells (mkv m) 44)
  have a2 := (Below.refl _ (w.alloc (.cells (mkv m) 44))).alloc (Nat.le_refl _) (.cells (mkv o) 44)
  refine ⟨(a2.block _ (by simp)).trans (World.alloc_heap_new w _), ?_, Below.on a1 a2⟩
  have := World.alloc_heap_new (w.alloc (.cells (mkv m) 44)) (.cells (mkv o) 44)
  simpa using this
theorem Bm.cells {w W : World} {m o : Mk} (h : Bm w m o W) : (W.cell? ⟨w.heap.size, 0, none⟩ = some (.int .i64 m.kd) ∧ W.cell? ⟨w.heap.size, 1, none⟩ = some (.int .i64 m.lo) ∧ W.cell? ⟨w.heap.size, 2, none⟩ = some (.int .i64 m.hi) ∧ W.cell? ⟨w.heap.size, 3, none⟩ = some (.int .i64 m.lm) ∧ W.cell? ⟨w.heap.size, 4, none⟩ = some (.string m.s)) ∧ (W.cell? ⟨w.heap.size + 1, 0, none⟩ = some (.int .i64 o.kd) ∧ W.cell? ⟨w.heap.size + 1, 1, none⟩ = some (.int .i64 o.lo) ∧ W.cell? ⟨w.heap.size + 1, 2, none⟩ = some (.int .i64 o.hi) ∧ W.cell? ⟨w.heap.size + 1, 3, none⟩ = some (.int .i64 o.lm) ∧ W.cell? ⟨w.heap.size + 1, 4, none⟩ = some (.string o.s)) := ⟨box5 h.b0, box5 h.b1⟩
/-- a made store, or none: the value, the text -/
def Av (w : World) (m : Mk) (v : Value) (s : ByteArray) (W : World) : Prop := Tl W (.iface 46 v) s ∧ ((v = .pointer none ∧ s = ⟨#[]⟩) ∨ ∃ b, v = .pointer (some ⟨b, 0, none⟩) ∧ s = m.s ∧ Se w b m.s (nwB m.kd m.lo m.hi (lim m.lm) m.s.size) (nwK m.kd m.lo m.hi (lim m.lm)) W)
theorem Av.below {w W X : World} {m : Mk} {v : Value} {s : ByteArray} (h : Av w m v s W) (hb : Below W.heap.size W X) : Av w m v s X := ⟨h.1.below hb, h.2.imp id (fun ⟨b, e1, e2, e3⟩ => ⟨b, e1, e2, e3.below hb⟩)⟩
theorem beq_comm (a b : ByteArray) : (a.toList == b.toList) = (b.toList == a.toList) := by
  rw [Bool.eq_iff_iff]; simp only [beq_iff_eq]; exact ⟨Eq.symm, Eq.symm⟩
theorem reset_t (s : ByteArray) (l : Nat) : ∃ o, txR s l 0 s.size ⟨#[]⟩ = (⟨#[]⟩, o, 0) := by
  have e : (⟨#[]⟩ : ByteArray).size = 0 := rfl
  refine ⟨s.extract (0 : Int).toNat ((0 : Int).toNat + (s.size : Int).toNat), ?_⟩
  unfold txR
  rw [if_neg (by omega), if_neg (by rw [e]; omega)]
  refine Prod.ext (ba_zero ?_) rfl
  show (s.extract 0 (0 : Int).toNat ++ ⟨#[]⟩ ++ s.extract ((0 : Int).toNat + (s.size : Int).toNat) s.size).size = 0
  rw [size_app, size_app, e, size_extract _ _ _ (by omega), size_extract _ _ _ (by omega)]
  omega
/-- what the law has made -/
structure Tq (w : World) (m o : Mk) (va vb : Value) (X Y : ByteArray) (vg : Value) (W : World) : Prop where
  bm : Bm w m o W
  av : Av w m va X W
  bv : Tl W (.iface 46 vb) Y
  gv : Tl W (.iface 76 vg) m.s
theorem Tq.below {w W Z : World} {m o : Mk} {va vb vg : Value} {X Y : ByteArray} (h : Tq w m o va vb X Y vg W) (hb : Below W.heap.size W Z) : Tq w m o va vb X Y vg Z := ⟨h.bm.below hb, h.av.below hb, h.bv.below hb, h.gv.below hb⟩
theorem fit_few (kd lo hi : Int) (l : Nat) : (nwK kd lo hi l).few := by simp [nwK, Sk.few]
section
variable {w : World} {m o : Mk}
/-- how Same is asked of what was made -/
theorem tq_same {va vb vg : Value} {X Y : ByteArray} {W : World} {u v : Value} {s t : ByteArray} (h : Tq w m o va vb X Y vg W) (hu : ∀ Z, Below W.heap.size W Z → Tn0 Z u s) (hv : ∀ Z, Below W.heap.size W Z → Tn0 Z v t) : Calls Tryz.prog 32 #[u, v] W fun e W' => e = .returned (.bool (s.toList == t.toList)) ∧ Hid (Tq w m o va vb X Y vg W') :=
  (same_any (hu W (Below.refl _ _)) (hv W (Below.refl _ _))).mono fun _ _ ⟨q1, q2⟩ => ⟨q1, h.below q2⟩
end
set_option maxRecDepth 100000 in
set_option maxHeartbeats 4000000 in
theorem walk_nn (m o : Mk) (em : Bool) (hm : m.fit) (ho : o.fit) (hz : m.s.size ≤ 1048576) (w : World) (hE : Ev w) (ha : ¬ m.s.size ≤ lim m.lm) (hb : ¬ o.s.size ≤ lim o.lm) :
    Calls Tryz.prog 8 #[.agg (mkv m), .agg (mkv o), .bool em] w fun e W' => e = .returned (.bool true) ∧ Below w.heap.size w W' := by
  obtain ⟨W0, hW0⟩ : ∃ W0, (w.alloc (.cells (mkv m) 44)).alloc (.cells (mkv o) 44) = W0 := ⟨_, rfl⟩
  have hm0 : Bm w m o W0 := by rw [← hW0]; exact bm_new w m o
  have HC : Hid (∀ W, Bm w m o W → (W.cell? ⟨w.heap.size, 0, none⟩ = some (.int .i64 m.kd) ∧ W.cell? ⟨w.heap.size, 1, none⟩ = some (.int .i64 m.lo) ∧ W.cell? ⟨w.heap.size, 2, none⟩ = some (.int .i64 m.hi) ∧ W.cell? ⟨w.heap.size, 3, none⟩ = some (.int .i64 m.lm) ∧ W.cell? ⟨w.heap.size, 4, none⟩ = some (.string m.s)) ∧ (W.cell? ⟨w.heap.size + 1, 0, none⟩ = some (.int .i64 o.kd) ∧ W.cell? ⟨w.heap.size + 1, 1, none⟩ = some (.int .i64 o.lo) ∧ W.cell? ⟨w.heap.size + 1, 2, none⟩ = some (.int .i64 o.hi) ∧ W.cell? ⟨w.heap.size + 1, 3, none⟩ = some (.int .i64 o.lm) ∧ W.cell? ⟨w.heap.size + 1, 4, none⟩ = some (.string o.s))) := fun W h => h.cells
  have CF : Hid (Calls Tryz.prog 20 #[] W0 fun e W' => e = .returned (.bool true) ∧ Hid (Bm w m o W')) := (fixed_any W0 (hE.below hm0.bel)).mono fun e W' ⟨q1, q2⟩ => ⟨q1, hm0.below q2⟩
  have CA : Hid (∀ W, Hid (Bm w m o W) → Calls Tryz.prog 21 #[.agg #[.int .i64 m.kd, .int .i64 m.lo, .int .i64 m.hi, .int .i64 m.lm, .string m.s]] W fun e W' => e = .returned (.tuple #[.pointer none, .pointer none, .bool true]) ∧ Hid (Bm w m o W' ∧ Av w m (.pointer none) ⟨#[]⟩ W')) := fun W hW => by
    refine ((made_any W (hE.below hW.out.bel) m hm).2 ha).mono ?_
    rintro e W' ⟨q1, q2⟩
    exact ⟨q1, hW.out.below q2, tl_nil _, .inl ⟨rfl, rfl⟩⟩
  have CB : Hid (∀ W, Hid (Bm w m o W ∧ Av w m (.pointer none) ⟨#[]⟩ W) → Calls Tryz.prog 21 #[.agg #[.int .i64 o.kd, .int .i64 o.lo, .int .i64 o.hi, .int .i64 o.lm, .string o.s]] W fun e W' => e = .returned (.tuple #[.pointer none, .pointer none, .bool true]) ∧ Hid (Bm w m o W' ∧ Av w m (.pointer none) ⟨#[]⟩ W' ∧ Tl W' (.iface 46 (.pointer none)) ⟨#[]⟩)) := fun W hW => by
    refine ((made_any W (hE.below hW.out.1.bel) o ho).2 hb).mono ?_
    rintro e W' ⟨q1, q2⟩
    exact ⟨q1, hW.out.1.below q2, hW.out.2.below q2, tl_nil _⟩
  have CG : Hid (∀ W, Hid (Bm w m o W ∧ Av w m (.pointer none) ⟨#[]⟩ W ∧ Tl W (.iface 46 (.pointer none)) ⟨#[]⟩) → Calls Tryz.prog 33 #[.string m.s, .int .i64 1048576] W fun e W' => ∃ g, e = .returned (.tuple #[.pointer (some ⟨g, 0, none⟩), .int .i64 0]) ∧ Hid (Tq w m o (.pointer none) (.pointer none) ⟨#[]⟩ ⟨#[]⟩ (.pointer (some ⟨g, 0, none⟩)) W')) := fun W hW => by
    have hl : lim 1048576 = 1048576 := by decide
    have := Gap.new_any m.s 1048576 W
    have e : gNew m.s 1048576 = some ⟨m.s, m.s.size, 1048576⟩ := by unfold gNew; rw [hl, if_pos hz]
    rw [e] at this
    refine this.mono ?_
    rintro e W' ⟨q1, r, n, q2, q3, _⟩
    exact ⟨_, q1, hW.out.1.below q3, hW.out.2.1.below q3, hW.out.2.2.below q3, tl_gap (o := some (W.heap.size, r)) ⟨rfl, q2⟩⟩
  have S1 : Hid (∀ W g, Hid (Tq w m o (.pointer none) (.pointer none) ⟨#[]⟩ ⟨#[]⟩ (.pointer (some ⟨g, 0, none⟩)) W) → Calls Tryz.prog 32 #[.iface 46 (.pointer none), .iface 46 (.pointer none)] W fun e W' => e = .returned (.bool ((⟨#[]⟩ : ByteArray).toList == (⟨#[]⟩ : ByteArray).toList)) ∧ Hid (Tq w m o (.pointer none) (.pointer none) ⟨#[]⟩ ⟨#[]⟩ (.pointer (some ⟨g, 0, none⟩)) W')) := fun W g hW => (tq_same hW.out (fun Z hZ => .inr ((hW.out.below hZ).av.1)) (fun Z hZ => .inr ((hW.out.below hZ).bv)))
  have S2 : Hid (∀ W g, Hid (Tq w m o (.pointer none) (.pointer none) ⟨#[]⟩ ⟨#[]⟩ (.pointer (some ⟨g, 0, none⟩)) W) → Calls Tryz.prog 32 #[.iface 46 (.pointer none), .iface 46 (.pointer none)] W fun e W' => e = .returned (.bool ((⟨#[]⟩ : ByteArray).toList == (⟨#[]⟩ : ByteArray).toList)) ∧ Hid (Tq w m o (.pointer none) (.pointer none) ⟨#[]⟩ ⟨#[]⟩ (.pointer (some ⟨g, 0, none⟩)) W')) := fun W g hW => by rw [beq_comm (⟨#[]⟩ : ByteArray)]; exact (tq_same hW.out (fun Z hZ => .inr ((hW.out.below hZ).bv)) (fun Z hZ => .inr ((hW.out.below hZ).av.1)))
  have S3 : Hid (∀ W g, Hid (Tq w m o (.pointer none) (.pointer none) ⟨#[]⟩ ⟨#[]⟩ (.pointer (some ⟨g, 0, none⟩)) W) → Calls Tryz.prog 32 #[.iface 46 (.pointer none), .iface 46 (.pointer none)] W fun e W' => e = .returned (.bool ((⟨#[]⟩ : ByteArray).toList == (⟨#[]⟩ : ByteArray).toList)) ∧ Hid (Tq w m o (.pointer none) (.pointer none) ⟨#[]⟩ ⟨#[]⟩ (.pointer (some ⟨g, 0, none⟩)) W')) := fun W g hW => (tq_same hW.out (fun Z hZ => .inr ((hW.out.below hZ).av.1)) (fun Z hZ => .inr ((hW.out.below hZ).av.1)))
  have S4 : Hid (∀ W g, Hid (Tq w m o (.pointer none) (.pointer none) ⟨#[]⟩ ⟨#[]⟩ (.pointer (some ⟨g, 0, none⟩)) W) → Calls Tryz.prog 32 #[.iface 46 (.pointer none), .nilIface] W fun e W' => e = .returned (.bool ((⟨#[]⟩ : ByteArray).toList == (⟨#[]⟩ : ByteArray).toList)) ∧ Hid (Tq w m o (.pointer none) (.pointer none) ⟨#[]⟩ ⟨#[]⟩ (.pointer (some ⟨g, 0, none⟩)) W')) := fun W g hW => (tq_same hW.out (fun Z hZ => .inr ((hW.out.below hZ).av.1)) (fun Z hZ => .inl ⟨rfl, rfl⟩))
  have S5 : Hid (∀ W g, Hid (Tq w m o (.pointer none) (.pointer none) ⟨#[]⟩ ⟨#[]⟩ (.pointer (some ⟨g, 0, none⟩)) W) → Calls Tryz.prog 32 #[.nilIface, .iface 46 (.pointer none)] W fun e W' => e = .returned (.bool ((⟨#[]⟩ : ByteArray).toList == (⟨#[]⟩ : ByteArray).toList)) ∧ Hid (Tq w m o (.pointer none) (.pointer none) ⟨#[]⟩ ⟨#[]⟩ (.pointer (some ⟨g, 0, none⟩)) W')) := fun W g hW => by rw [beq_comm (⟨#[]⟩ : ByteArray)]; exact (tq_same hW.out (fun Z hZ => .inl ⟨rfl, rfl⟩) (fun Z hZ => .inr ((hW.out.below hZ).bv)))
  have S6 : Hid (∀ W g, Hid (Tq w m o (.pointer none) (.pointer none) ⟨#[]⟩ ⟨#[]⟩ (.pointer (some ⟨g, 0, none⟩)) W) → Calls Tryz.prog 32 #[.nilIface, .nilIface] W fun e W' => e = .returned (.bool ((⟨#[]⟩ : ByteArray).toList == (⟨#[]⟩ : ByteArray).toList)) ∧ Hid (Tq w m o (.pointer none) (.pointer none) ⟨#[]⟩ ⟨#[]⟩ (.pointer (some ⟨g, 0, none⟩)) W')) := fun W g hW => (tq_same hW.out (fun Z hZ => .inl ⟨rfl, rfl⟩) (fun Z hZ => .inl ⟨rfl, rfl⟩))
  have HQ : Hid (∀ W g, Hid (Tq w m o (.pointer none) (.pointer none) ⟨#[]⟩ ⟨#[]⟩ (.pointer (some ⟨g, 0, none⟩)) W) → (∀ dd os, Calls Tryz.prog 32 #[.iface 46 (.pointer none), .iface 76 (.pointer (some ⟨g, 0, none⟩))] (Go.Sort.grow (redrawn W dd) os) fun e w'' => e = .returned (.bool ((⟨#[]⟩ : ByteArray).toList == m.s.toList)) ∧ ∃ p : Regrown, w'' = Go.Sort.grow (redrawn W p.d) p.os) ∧ (∀ dd os, Calls Tryz.prog 32 #[.iface 76 (.pointer (some ⟨g, 0, none⟩)), .iface 46 (.pointer none)] (Go.Sort.grow (redrawn W dd) os) fun e w'' => e = .returned (.bool (m.s.toList == (⟨#[]⟩ : ByteArray).toList)) ∧ ∃ p : Regrown, w'' = Go.Sort.grow (redrawn W p.d) p.os)) := fun W g hW =>
    ⟨regrown (fun Z hZ => same_any (.inr (hW.out.below hZ).av.1) (.inr (hW.out.below hZ).gv)), regrown (fun Z hZ => same_any (.inr (hW.out.below hZ).gv) (.inr (hW.out.below hZ).bv))⟩
  have HG : Hid (∀ W g dd os, Hid (Tq w m o (.pointer none) (.pointer none) ⟨#[]⟩ ⟨#[]⟩ (.pointer (some ⟨g, 0, none⟩)) W) → Hid (Tq w m o (.pointer none) (.pointer none) ⟨#[]⟩ ⟨#[]⟩ (.pointer (some ⟨g, 0, none⟩)) (Go.Sort.grow (redrawn W dd) os))) := fun W g dd os hW => hW.out.below (below_regrown W dd os)
  have HM : Hid (Tryz.prog.follows .mixedOrders = true) := by show _ = _; kernel_rfl
  have HE : Hid (∀ W g, Hid (Tq w m o (.pointer none) (.pointer none) ⟨#[]⟩ ⟨#[]⟩ (.pointer (some ⟨g, 0, none⟩)) W) → Below w.heap.size w W) := fun W g hW => hW.out.bm.bel
  have HBM : Hid (∀ W g, Tq w m o (.pointer none) (.pointer none) ⟨#[]⟩ ⟨#[]⟩ (.pointer (some ⟨g, 0, none⟩)) W → Bm w m o W) := fun W g h => h.bm
  obtain ⟨⟨x0, x1, x2, x3, x4⟩, y0, y1, y2, y3, y4⟩ := HC.out W0 hm0
  have hms : (m.s.size : Int) ≤ 1048576 := by omega
  unfold mkv at hW0 ⊢
  clear hm0 hE hm ho ha hb hz
  have T1 : True := trivial
  go_enter Tryz.func8, Tryz.ntmps8
  go_upto_region 15 with (first
    | (go_at_call 20; refine CF.out.mono ?_; clear CF hW0 x0 x1 x2 x3 x4 y0 y1 y2 y3 y4; rintro e w1 ⟨rfl, H1⟩; obtain ⟨⟨x0, x1, x2, x3, x4⟩, y0, y1, y2, y3, y4⟩ := HC.out _ H1.out)
    | (go_at_call 21; clear T1; refine (CA.out _ H1).mono ?_; clear CA H1 x0 x1 x2 x3 x4 y0 y1 y2 y3 y4; rintro e w2 ⟨rfl, H2⟩; obtain ⟨⟨x0, x1, x2, x3, x4⟩, y0, y1, y2, y3, y4⟩ := HC.out _ H2.out.1; have T2 : True := trivial)
    | (go_at_call 21; clear T2; refine (CB.out _ H2).mono ?_; clear CB H2 x0 x1 x2 x3 x4 y0 y1 y2 y3 y4; rintro e w3 ⟨rfl, H3⟩; obtain ⟨⟨x0, x1, x2, x3, x4⟩, y0, y1, y2, y3, y4⟩ := HC.out _ H3.out.1)
    | (go_at_call 33; refine (CG.out _ H3).mono ?_; clear CG H3 x0 x1 x2 x3 x4 y0 y1 y2 y3 y4; rintro e w4 ⟨g, rfl, Q1⟩; obtain ⟨⟨x0, x1, x2, x3, x4⟩, y0, y1, y2, y3, y4⟩ := HC.out _ (HBM.out _ _ Q1.out); have K1 : True := trivial)
    | (go_at_call 32; clear K1; refine (S1.out _ _ Q1).mono ?_; clear S1 Q1 x0 x1 x2 x3 x4 y0 y1 y2 y3 y4; rintro e z1 ⟨rfl, Q2⟩; obtain ⟨⟨x0, x1, x2, x3, x4⟩, y0, y1, y2, y3, y4⟩ := HC.out _ (HBM.out _ _ Q2.out); have K2 : True := trivial)
    | (go_at_call 32; clear K2; refine (S2.out _ _ Q2).mono ?_; clear S2 Q2 x0 x1 x2 x3 x4 y0 y1 y2 y3 y4; rintro e z2 ⟨rfl, Q3⟩; obtain ⟨⟨x0, x1, x2, x3, x4⟩, y0, y1, y2, y3, y4⟩ := HC.out _ (HBM.out _ _ Q3.out); have K3 : True := trivial)
    | (go_at_call 32; clear K3; refine (S3.out _ _ Q3).mono ?_; clear S3 Q3 x0 x1 x2 x3 x4 y0 y1 y2 y3 y4; rintro e z3 ⟨rfl, Q4⟩; obtain ⟨⟨x0, x1, x2, x3, x4⟩, y0, y1, y2, y3, y4⟩ := HC.out _ (HBM.out _ _ Q4.out); have K4 : True := trivial)
    | (go_at_call 32; clear K4; refine (S4.out _ _ Q4).mono ?_; clear S4 Q4 x0 x1 x2 x3 x4 y0 y1 y2 y3 y4; rintro e z4 ⟨rfl, Q5⟩; obtain ⟨⟨x0, x1, x2, x3, x4⟩, y0, y1, y2, y3, y4⟩ := HC.out _ (HBM.out _ _ Q5.out); have K5 : True := trivial)
    | (go_at_call 32; clear K5; refine (S5.out _ _ Q5).mono ?_; clear S5 Q5 x0 x1 x2 x3 x4 y0 y1 y2 y3 y4; rintro e z5 ⟨rfl, Q6⟩; obtain ⟨⟨x0, x1, x2, x3, x4⟩, y0, y1, y2, y3, y4⟩ := HC.out _ (HBM.out _ _ Q6.out); have K6 : True := trivial)
    | (go_at_call 32; clear K6; refine (S6.out _ _ Q6).mono ?_; clear S6 Q6 x0 x1 x2 x3 x4 y0 y1 y2 y3 y4; rintro e z6 ⟨rfl, Q7⟩; obtain ⟨⟨x0, x1, x2, x3, x4⟩, y0, y1, y2, y3, y4⟩ := HC.out _ (HBM.out _ _ Q7.out); have K7 : True := trivial))
  obtain ⟨q1, q2⟩ := HQ.out _ _ Q7
  have r4 := fun dd os => cell_regrown x4 dd os
  refine wp_region_quiet_below HM.out (by kernel_rfl) ?_
  repeat (go_big_quiet_step (fail))
  go_big_quiet_step (exact q1 _ _)
  repeat (go_big_quiet_step (fail))
  go_big_quiet_step (exact q2 _ _)
  repeat (go_big_quiet_step (fail))
  refine wpQuiet_nil ?_
  intro _ hw'
  obtain ⟨⟨dq, osq⟩, hw''⟩ := hw'
  subst hw''
  dsimp only
  have Q8 := HG.out _ _ dq osq Q7
  clear Q7 q1 q2 r4 x0 x1 x2 x3 x4 y0 y1 y2 y3 y4
  go_wp2
  go_ret
  exact ⟨rfl, HE.out _ _ Q8⟩
set_option maxRecDepth 100000 in
set_option maxHeartbeats 4000000 in
theorem walk_ns (m o : Mk) (em : Bool) (hm : m.fit) (ho : o.fit) (hz : m.s.size ≤ 1048576) (w : World) (hE : Ev w) (ha : ¬ m.s.size ≤ lim m.lm) (hb : o.s.size ≤ lim o.lm) :
    Calls Tryz.prog 8 #[.agg (mkv m), .agg (mkv o), .bool em] w fun e W' => e = .returned (.bool true) ∧ Below w.heap.size w W' := by
  obtain ⟨W0, hW0⟩ : ∃ W0, (w.alloc (.cells (mkv m) 44)).alloc (.cells (mkv o) 44) = W0 := ⟨_, rfl⟩
  have hm0 : Bm w m o W0 := by rw [← hW0]; exact bm_new w m o
  have HC : Hid (∀ W, Bm w m o W → (W.cell? ⟨w.heap.size, 0, none⟩ = some (.int .i64 m.kd) ∧ W.cell? ⟨w.heap.size, 1, none⟩ = some (.int .i64 m.lo) ∧ W.cell? ⟨w.heap.size, 2, none⟩ = some (.int .i64 m.hi) ∧ W.cell? ⟨w.heap.size, 3, none⟩ = some (.int .i64 m.lm) ∧ W.cell? ⟨w.heap.size, 4, none⟩ = some (.string m.s)) ∧ (W.cell? ⟨w.heap.size + 1, 0, none⟩ = some (.int .i64 o.kd) ∧ W.cell? ⟨w.heap.size + 1, 1, none⟩ = some (.int .i64 o.lo) ∧ W.cell? ⟨w.heap.size + 1, 2, none⟩ = some (.int .i64 o.hi) ∧ W.cell? ⟨w.heap.size + 1, 3, none⟩ = some (.int .i64 o.lm) ∧ W.cell? ⟨w.heap.size + 1, 4, none⟩ = some (.string o.s))) := fun W h => h.cells
  have CF : Hid (Calls Tryz.prog 20 #[] W0 fun e W' => e = .returned (.bool true) ∧ Hid (Bm w m o W')) := (fixed_any W0 (hE.below hm0.bel)).mono fun e W' ⟨q1, q2⟩ => ⟨q1, hm0.below q2⟩
  have CA : Hid (∀ W, Hid (Bm w m o W) → Calls Tryz.prog 21 #[.agg #[.int .i64 m.kd, .int .i64 m.lo, .int .i64 m.hi, .int .i64 m.lm, .string m.s]] W fun e W' => e = .returned (.tuple #[.pointer none, .pointer none, .bool true]) ∧ Hid (Bm w m o W' ∧ Av w m (.pointer none) ⟨#[]⟩ W')) := fun W hW => by
    refine ((made_any W (hE.below hW.out.bel) m hm).2 ha).mono ?_
    rintro e W' ⟨q1, q2⟩
    exact ⟨q1, hW.out.below q2, tl_nil _, .inl ⟨rfl, rfl⟩⟩
  have CB : Hid (∀ W, Hid (Bm w m o W ∧ Av w m (.pointer none) ⟨#[]⟩ W) → Calls Tryz.prog 21 #[.agg #[.int .i64 o.kd, .int .i64 o.lo, .int .i64 o.hi, .int .i64 o.lm, .string o.s]] W fun e W' => ∃ bb rb, e = .returned (.tuple #[.pointer (some ⟨bb, 0, none⟩), .pointer (some ⟨rb, 0, none⟩), .bool true]) ∧ Hid (Bm w m o W' ∧ Av w m (.pointer none) ⟨#[]⟩ W' ∧ Tl W' (.iface 46 (.pointer (some ⟨bb, 0, none⟩))) o.s)) := fun W hW => by
    refine ((made_any W (hE.below hW.out.1.bel) o ho).1 hb).mono ?_
    rintro e W' ⟨b, rb, q1, q2, _⟩
    exact ⟨b, rb, q1, hW.out.1.below q2.bel, hW.out.2.below q2.bel, tl_se q2⟩
  have CG : Hid (∀ W bb, Hid (Bm w m o W ∧ Av w m (.pointer none) ⟨#[]⟩ W ∧ Tl W (.iface 46 (.pointer (some ⟨bb, 0, none⟩))) o.s) → Calls Tryz.prog 33 #[.string m.s, .int .i64 1048576] W fun e W' => ∃ g, e = .returned (.tuple #[.pointer (some ⟨g, 0, none⟩), .int .i64 0]) ∧ Hid (Tq w m o (.pointer none) (.pointer (some ⟨bb, 0, none⟩)) ⟨#[]⟩ o.s (.pointer (some ⟨g, 0, none⟩)) W')) := fun W bb hW => by
    have hl : lim 1048576 = 1048576 := by decide
    have := Gap.new_any m.s 1048576 W
    have e : gNew m.s 1048576 = some ⟨m.s, m.s.size, 1048576⟩ := by unfold gNew; rw [hl, if_pos hz]
    rw [e] at this
    refine this.mono ?_
    rintro e W' ⟨q1, r, n, q2, q3, _⟩
    exact ⟨_, q1, hW.out.1.below q3, hW.out.2.1.below q3, hW.out.2.2.below q3, tl_gap (o := some (W.heap.size, r)) ⟨rfl, q2⟩⟩
  have S1 : Hid (∀ W bb g, Hid (Tq w m o (.pointer none) (.pointer (some ⟨bb, 0, none⟩)) ⟨#[]⟩ o.s (.pointer (some ⟨g, 0, none⟩)) W) → Calls Tryz.prog 32 #[.iface 46 (.pointer none), .iface 46 (.pointer (some ⟨bb, 0, none⟩))] W fun e W' => e = .returned (.bool ((⟨#[]⟩ : ByteArray).toList == o.s.toList)) ∧ Hid (Tq w m o (.pointer none) (.pointer (some ⟨bb, 0, none⟩)) ⟨#[]⟩ o.s (.pointer (some ⟨g, 0, none⟩)) W')) := fun W bb g hW => (tq_same hW.out (fun Z hZ => .inr ((hW.out.below hZ).av.1)) (fun Z hZ => .inr ((hW.out.below hZ).bv)))
  have S2 : Hid (∀ W bb g, Hid (Tq w m o (.pointer none) (.pointer (some ⟨bb, 0, none⟩)) ⟨#[]⟩ o.s (.pointer (some ⟨g, 0, none⟩)) W) → Calls Tryz.prog 32 #[.iface 46 (.pointer (some ⟨bb, 0, none⟩)), .iface 46 (.pointer none)] W fun e W' => e = .returned (.bool ((⟨#[]⟩ : ByteArray).toList == o.s.toList)) ∧ Hid (Tq w m o (.pointer none) (.pointer (some ⟨bb, 0, none⟩)) ⟨#[]⟩ o.s (.pointer (some ⟨g, 0, none⟩)) W')) := fun W bb g hW => by rw [beq_comm (⟨#[]⟩ : ByteArray)]; exact (tq_same hW.out (fun Z hZ => .inr ((hW.out.below hZ).bv)) (fun Z hZ => .inr ((hW.out.below hZ).av.1)))
  have S3 : Hid (∀ W bb g, Hid (Tq w m o (.pointer none) (.pointer (some ⟨bb, 0, none⟩)) ⟨#[]⟩ o.s (.pointer (some ⟨g, 0, none⟩)) W) → Calls Tryz.prog 32 #[.iface 46 (.pointer none), .iface 46 (.pointer none)] W fun e W' => e = .returned (.bool ((⟨#[]⟩ : ByteArray).toList == (⟨#[]⟩ : ByteArray).toList)) ∧ Hid (Tq w m o (.pointer none) (.pointer (some ⟨bb, 0, none⟩)) ⟨#[]⟩ o.s (.pointer (some ⟨g, 0, none⟩)) W')) := fun W bb g hW => (tq_same hW.out (fun Z hZ => .inr ((hW.out.below hZ).av.1)) (fun Z hZ => .inr ((hW.out.below hZ).av.1)))
  have S4 : Hid (∀ W bb g, Hid (Tq w m o (.pointer none) (.pointer (some ⟨bb, 0, none⟩)) ⟨#[]⟩ o.s (.pointer (some ⟨g, 0, none⟩)) W) → Calls Tryz.prog 32 #[.iface 46 (.pointer none), .nilIface] W fun e W' => e = .returned (.bool ((⟨#[]⟩ : ByteArray).toList == (⟨#[]⟩ : ByteArray).toList)) ∧ Hid (Tq w m o (.pointer none) (.pointer (some ⟨bb, 0, none⟩)) ⟨#[]⟩ o.s (.pointer (some ⟨g, 0, none⟩)) W')) := fun W bb g hW => (tq_same hW.out (fun Z hZ => .inr ((hW.out.below hZ).av.1)) (fun Z hZ => .inl ⟨rfl, rfl⟩))
  have S5 : Hid (∀ W bb g, Hid (Tq w m o (.pointer none) (.pointer (some ⟨bb, 0, none⟩)) ⟨#[]⟩ o.s (.pointer (some ⟨g, 0, none⟩)) W) → Calls Tryz.prog 32 #[.nilIface, .iface 46 (.pointer (some ⟨bb, 0, none⟩))] W fun e W' => e = .returned (.bool (o.s.toList == (⟨#[]⟩ : ByteArray).toList)) ∧ Hid (Tq w m o (.pointer none) (.pointer (some ⟨bb, 0, none⟩)) ⟨#[]⟩ o.s (.pointer (some ⟨g, 0, none⟩)) W')) := fun W bb g hW => by rw [beq_comm o.s]; exact (tq_same hW.out (fun Z hZ => .inl ⟨rfl, rfl⟩) (fun Z hZ => .inr ((hW.out.below hZ).bv)))
  have S6 : Hid (∀ W bb g, Hid (Tq w m o (.pointer none) (.pointer (some ⟨bb, 0, none⟩)) ⟨#[]⟩ o.s (.pointer (some ⟨g, 0, none⟩)) W) → Calls Tryz.prog 32 #[.nilIface, .nilIface] W fun e W' => e = .returned (.bool ((⟨#[]⟩ : ByteArray).toList == (⟨#[]⟩ : ByteArray).toList)) ∧ Hid (Tq w m o (.pointer none) (.pointer (some ⟨bb, 0, none⟩)) ⟨#[]⟩ o.s (.pointer (some ⟨g, 0, none⟩)) W')) := fun W bb g hW => (tq_same hW.out (fun Z hZ => .inl ⟨rfl, rfl⟩) (fun Z hZ => .inl ⟨rfl, rfl⟩))
  have HQ : Hid (∀ W bb g, Hid (Tq w m o (.pointer none) (.pointer (some ⟨bb, 0, none⟩)) ⟨#[]⟩ o.s (.pointer (some ⟨g, 0, none⟩)) W) → (∀ dd os, Calls Tryz.prog 32 #[.iface 46 (.pointer none), .iface 76 (.pointer (some ⟨g, 0, none⟩))] (Go.Sort.grow (redrawn W dd) os) fun e w'' => e = .returned (.bool ((⟨#[]⟩ : ByteArray).toList == m.s.toList)) ∧ ∃ p : Regrown, w'' = Go.Sort.grow (redrawn W p.d) p.os) ∧ (∀ dd os, Calls Tryz.prog 32 #[.iface 76 (.pointer (some ⟨g, 0, none⟩)), .iface 46 (.pointer (some ⟨bb, 0, none⟩))] (Go.Sort.grow (redrawn W dd) os) fun e w'' => e = .returned (.bool (m.s.toList == o.s.toList)) ∧ ∃ p : Regrown, w'' = Go.Sort.grow (redrawn W p.d) p.os)) := fun W bb g hW =>
    ⟨regrown (fun Z hZ => same_any (.inr (hW.out.below hZ).av.1) (.inr (hW.out.below hZ).gv)), regrown (fun Z hZ => same_any (.inr (hW.out.below hZ).gv) (.inr (hW.out.below hZ).bv))⟩
  have HG : Hid (∀ W bb g dd os, Hid (Tq w m o (.pointer none) (.pointer (some ⟨bb, 0, none⟩)) ⟨#[]⟩ o.s (.pointer (some ⟨g, 0, none⟩)) W) → Hid (Tq w m o (.pointer none) (.pointer (some ⟨bb, 0, none⟩)) ⟨#[]⟩ o.s (.pointer (some ⟨g, 0, none⟩)) (Go.Sort.grow (redrawn W dd) os))) := fun W bb g dd os hW => hW.out.below (below_regrown W dd os)
  have HM : Hid (Tryz.prog.follows .mixedOrders = true) := by show _ = _; kernel_rfl
  have HE : Hid (∀ W bb g, Hid (Tq w m o (.pointer none) (.pointer (some ⟨bb, 0, none⟩)) ⟨#[]⟩ o.s (.pointer (some ⟨g, 0, none⟩)) W) → Below w.heap.size w W) := fun W bb g hW => hW.out.bm.bel
  have HBM : Hid (∀ W bb g, Tq w m o (.pointer none) (.pointer (some ⟨bb, 0, none⟩)) ⟨#[]⟩ o.s (.pointer (some ⟨g, 0, none⟩)) W → Bm w m o W) := fun W bb g h => h.bm
  obtain ⟨⟨x0, x1, x2, x3, x4⟩, y0, y1, y2, y3, y4⟩ := HC.out W0 hm0
  have hms : (m.s.size : Int) ≤ 1048576 := by omega
  unfold mkv at hW0 ⊢
  clear hm0 hE hm ho ha hb hz
  have T1 : True := trivial
  go_enter Tryz.func8, Tryz.ntmps8
  go_upto_region 15 with (first
    | (go_at_call 20; refine CF.out.mono ?_; clear CF hW0 x0 x1 x2 x3 x4 y0 y1 y2 y3 y4; rintro e w1 ⟨rfl, H1⟩; obtain ⟨⟨x0, x1, x2, x3, x4⟩, y0, y1, y2, y3, y4⟩ := HC.out _ H1.out)
    | (go_at_call 21; clear T1; refine (CA.out _ H1).mono ?_; clear CA H1 x0 x1 x2 x3 x4 y0 y1 y2 y3 y4; rintro e w2 ⟨rfl, H2⟩; obtain ⟨⟨x0, x1, x2, x3, x4⟩, y0, y1, y2, y3, y4⟩ := HC.out _ H2.out.1; have T2 : True := trivial)
    | (go_at_call 21; clear T2; refine (CB.out _ H2).mono ?_; clear CB H2 x0 x1 x2 x3 x4 y0 y1 y2 y3 y4; rintro e w3 ⟨bb, rb2, rfl, H3⟩; obtain ⟨⟨x0, x1, x2, x3, x4⟩, y0, y1, y2, y3, y4⟩ := HC.out _ H3.out.1)
    | (go_at_call 33; refine (CG.out _ _ H3).mono ?_; clear CG H3 x0 x1 x2 x3 x4 y0 y1 y2 y3 y4; rintro e w4 ⟨g, rfl, Q1⟩; obtain ⟨⟨x0, x1, x2, x3, x4⟩, y0, y1, y2, y3, y4⟩ := HC.out _ (HBM.out _ _ _ Q1.out); have K1 : True := trivial)
    | (go_at_call 32; clear K1; refine (S1.out _ _ _ Q1).mono ?_; clear S1 Q1 x0 x1 x2 x3 x4 y0 y1 y2 y3 y4; rintro e z1 ⟨rfl, Q2⟩; obtain ⟨⟨x0, x1, x2, x3, x4⟩, y0, y1, y2, y3, y4⟩ := HC.out _ (HBM.out _ _ _ Q2.out); have K2 : True := trivial)
    | (go_at_call 32; clear K2; refine (S2.out _ _ _ Q2).mono ?_; clear S2 Q2 x0 x1 x2 x3 x4 y0 y1 y2 y3 y4; rintro e z2 ⟨rfl, Q3⟩; obtain ⟨⟨x0, x1, x2, x3, x4⟩, y0, y1, y2, y3, y4⟩ := HC.out _ (HBM.out _ _ _ Q3.out); have K3 : True := trivial)
    | (go_at_call 32; clear K3; refine (S3.out _ _ _ Q3).mono ?_; clear S3 Q3 x0 x1 x2 x3 x4 y0 y1 y2 y3 y4; rintro e z3 ⟨rfl, Q4⟩; obtain ⟨⟨x0, x1, x2, x3, x4⟩, y0, y1, y2, y3, y4⟩ := HC.out _ (HBM.out _ _ _ Q4.out); have K4 : True := trivial)
    | (go_at_call 32; clear K4; refine (S4.out _ _ _ Q4).mono ?_; clear S4 Q4 x0 x1 x2 x3 x4 y0 y1 y2 y3 y4; rintro e z4 ⟨rfl, Q5⟩; obtain ⟨⟨x0, x1, x2, x3, x4⟩, y0, y1, y2, y3, y4⟩ := HC.out _ (HBM.out _ _ _ Q5.out); have K5 : True := trivial)
    | (go_at_call 32; clear K5; refine (S5.out _ _ _ Q5).mono ?_; clear S5 Q5 x0 x1 x2 x3 x4 y0 y1 y2 y3 y4; rintro e z5 ⟨rfl, Q6⟩; obtain ⟨⟨x0, x1, x2, x3, x4⟩, y0, y1, y2, y3, y4⟩ := HC.out _ (HBM.out _ _ _ Q6.out); have K6 : True := trivial)
    | (go_at_call 32; clear K6; refine (S6.out _ _ _ Q6).mono ?_; clear S6 Q6 x0 x1 x2 x3 x4 y0 y1 y2 y3 y4; rintro e z6 ⟨rfl, Q7⟩; obtain ⟨⟨x0, x1, x2, x3, x4⟩, y0, y1, y2, y3, y4⟩ := HC.out _ (HBM.out _ _ _ Q7.out); have K7 : True := trivial))
  obtain ⟨q1, q2⟩ := HQ.out _ _ _ Q7
  have r4 := fun dd os => cell_regrown x4 dd os
  refine wp_region_quiet_below HM.out (by kernel_rfl) ?_
  repeat (go_big_quiet_step (fail))
  go_big_quiet_step (exact q1 _ _)
  repeat (go_big_quiet_step (fail))
  go_big_quiet_step (exact q2 _ _)
  repeat (go_big_quiet_step (fail))
  refine wpQuiet_nil ?_
  intro _ hw'
  obtain ⟨⟨dq, osq⟩, hw''⟩ := hw'
  subst hw''
  dsimp only
  have Q8 := HG.out _ _ _ dq osq Q7
  clear Q7 q1 q2 r4 x0 x1 x2 x3 x4 y0 y1 y2 y3 y4
  go_wp2
  go_ret
  exact ⟨rfl, HE.out _ _ _ Q8⟩
set_option maxRecDepth 100000 in
set_option maxHeartbeats 4000000 in
theorem walk_sn (m o : Mk) (em : Bool) (hm : m.fit) (ho : o.fit) (hz : m.s.size ≤ 1048576) (w : World) (hE : Ev w) (ha : m.s.size ≤ lim m.lm) (hb : ¬ o.s.size ≤ lim o.lm) :
    Calls Tryz.prog 8 #[.agg (mkv m), .agg (mkv o), .bool em] w fun e W' => e = .returned (.bool true) ∧ Below w.heap.size w W' := by
  obtain ⟨W0, hW0⟩ : ∃ W0, (w.alloc (.cells (mkv m) 44)).alloc (.cells (mkv o) 44) = W0 := ⟨_, rfl⟩
  have hm0 : Bm w m o W0 := by rw [← hW0]; exact bm_new w m o
  have HC : Hid (∀ W, Bm w m o W → (W.cell? ⟨w.heap.size, 0, none⟩ = some (.int .i64 m.kd) ∧ W.cell? ⟨w.heap.size, 1, none⟩ = some (.int .i64 m.lo) ∧ W.cell? ⟨w.heap.size, 2, none⟩ = some (.int .i64 m.hi) ∧ W.cell? ⟨w.heap.size, 3, none⟩ = some (.int .i64 m.lm) ∧ W.cell? ⟨w.heap.size, 4, none⟩ = some (.string m.s)) ∧ (W.cell? ⟨w.heap.size + 1, 0, none⟩ = some (.int .i64 o.kd) ∧ W.cell? ⟨w.heap.size + 1, 1, none⟩ = some (.int .i64 o.lo) ∧ W.cell? ⟨w.heap.size + 1, 2, none⟩ = some (.int .i64 o.hi) ∧ W.cell? ⟨w.heap.size + 1, 3, none⟩ = some (.int .i64 o.lm) ∧ W.cell? ⟨w.heap.size + 1, 4, none⟩ = some (.string o.s))) := fun W h => h.cells
  have CF : Hid (Calls Tryz.prog 20 #[] W0 fun e W' => e = .returned (.bool true) ∧ Hid (Bm w m o W')) := (fixed_any W0 (hE.below hm0.bel)).mono fun e W' ⟨q1, q2⟩ => ⟨q1, hm0.below q2⟩
  have CA : Hid (∀ W, Hid (Bm w m o W) → Calls Tryz.prog 21 #[.agg #[.int .i64 m.kd, .int .i64 m.lo, .int .i64 m.hi, .int .i64 m.lm, .string m.s]] W fun e W' => ∃ ba rb, e = .returned (.tuple #[.pointer (some ⟨ba, 0, none⟩), .pointer (some ⟨rb, 0, none⟩), .bool true]) ∧ Hid (Bm w m o W' ∧ Av w m (.pointer (some ⟨ba, 0, none⟩)) m.s W')) := fun W hW => by
    refine ((made_any W (hE.below hW.out.bel) m hm).1 ha).mono ?_
    rintro e W' ⟨b, rb, q1, q2, _⟩
    exact ⟨b, rb, q1, hW.out.below q2.bel, tl_se q2, .inr ⟨b, rfl, rfl, q2.up hW.out.bel⟩⟩
  have CB : Hid (∀ W ba, Hid (Bm w m o W ∧ Av w m (.pointer (some ⟨ba, 0, none⟩)) m.s W) → Calls Tryz.prog 21 #[.agg #[.int .i64 o.kd, .int .i64 o.lo, .int .i64 o.hi, .int .i64 o.lm, .string o.s]] W fun e W' => e = .returned (.tuple #[.pointer none, .pointer none, .bool true]) ∧ Hid (Bm w m o W' ∧ Av w m (.pointer (some ⟨ba, 0, none⟩)) m.s W' ∧ Tl W' (.iface 46 (.pointer none)) ⟨#[]⟩)) := fun W ba hW => by
    refine ((made_any W (hE.below hW.out.1.bel) o ho).2 hb).mono ?_
    rintro e W' ⟨q1, q2⟩
    exact ⟨q1, hW.out.1.below q2, hW.out.2.below q2, tl_nil _⟩
  have CG : Hid (∀ W ba, Hid (Bm w m o W ∧ Av w m (.pointer (some ⟨ba, 0, none⟩)) m.s W ∧ Tl W (.iface 46 (.pointer none)) ⟨#[]⟩) → Calls Tryz.prog 33 #[.string m.s, .int .i64 1048576] W fun e W' => ∃ g, e = .returned (.tuple #[.pointer (some ⟨g, 0, none⟩), .int .i64 0]) ∧ Hid (Tq w m o (.pointer (some ⟨ba, 0, none⟩)) (.pointer none) m.s ⟨#[]⟩ (.pointer (some ⟨g, 0, none⟩)) W')) := fun W ba hW => by
    have hl : lim 1048576 = 1048576 := by decide
    have := Gap.new_any m.s 1048576 W
    have e : gNew m.s 1048576 = some ⟨m.s, m.s.size, 1048576⟩ := by unfold gNew; rw [hl, if_pos hz]
    rw [e] at this
    refine this.mono ?_
    rintro e W' ⟨q1, r, n, q2, q3, _⟩
    exact ⟨_, q1, hW.out.1.below q3, hW.out.2.1.below q3, hW.out.2.2.below q3, tl_gap (o := some (W.heap.size, r)) ⟨rfl, q2⟩⟩
  have S1 : Hid (∀ W ba g, Hid (Tq w m o (.pointer (some ⟨ba, 0, none⟩)) (.pointer none) m.s ⟨#[]⟩ (.pointer (some ⟨g, 0, none⟩)) W) → Calls Tryz.prog 32 #[.iface 46 (.pointer (some ⟨ba, 0, none⟩)), .iface 46 (.pointer none)] W fun e W' => e = .returned (.bool (m.s.toList == (⟨#[]⟩ : ByteArray).toList)) ∧ Hid (Tq w m o (.pointer (some ⟨ba, 0, none⟩)) (.pointer none) m.s ⟨#[]⟩ (.pointer (some ⟨g, 0, none⟩)) W')) := fun W ba g hW => (tq_same hW.out (fun Z hZ => .inr ((hW.out.below hZ).av.1)) (fun Z hZ => .inr ((hW.out.below hZ).bv)))
  have S2 : Hid (∀ W ba g, Hid (Tq w m o (.pointer (some ⟨ba, 0, none⟩)) (.pointer none) m.s ⟨#[]⟩ (.pointer (some ⟨g, 0, none⟩)) W) → Calls Tryz.prog 32 #[.iface 46 (.pointer none), .iface 46 (.pointer (some ⟨ba, 0, none⟩))] W fun e W' => e = .returned (.bool (m.s.toList == (⟨#[]⟩ : ByteArray).toList)) ∧ Hid (Tq w m o (.pointer (some ⟨ba, 0, none⟩)) (.pointer none) m.s ⟨#[]⟩ (.pointer (some ⟨g, 0, none⟩)) W')) := fun W ba g hW => by rw [beq_comm m.s]; exact (tq_same hW.out (fun Z hZ => .inr ((hW.out.below hZ).bv)) (fun Z hZ => .inr ((hW.out.below hZ).av.1)))
  have S3 : Hid (∀ W ba g, Hid (Tq w m o (.pointer (some ⟨ba, 0, none⟩)) (.pointer none) m.s ⟨#[]⟩ (.pointer (some ⟨g, 0, none⟩)) W) → Calls Tryz.prog 32 #[.iface 46 (.pointer (some ⟨ba, 0, none⟩)), .iface 46 (.pointer (some ⟨ba, 0, none⟩))] W fun e W' => e = .returned (.bool (m.s.toList == m.s.toList)) ∧ Hid (Tq w m o (.pointer (some ⟨ba, 0, none⟩)) (.pointer none) m.s ⟨#[]⟩ (.pointer (some ⟨g, 0, none⟩)) W')) := fun W ba g hW => (tq_same hW.out (fun Z hZ => .inr ((hW.out.below hZ).av.1)) (fun Z hZ => .inr ((hW.out.below hZ).av.1)))
  have S4 : Hid (∀ W ba g, Hid (Tq w m o (.pointer (some ⟨ba, 0, none⟩)) (.pointer none) m.s ⟨#[]⟩ (.pointer (some ⟨g, 0, none⟩)) W) → Calls Tryz.prog 32 #[.iface 46 (.pointer (some ⟨ba, 0, none⟩)), .nilIface] W fun e W' => e = .returned (.bool (m.s.toList == (⟨#[]⟩ : ByteArray).toList)) ∧ Hid (Tq w m o (.pointer (some ⟨ba, 0, none⟩)) (.pointer none) m.s ⟨#[]⟩ (.pointer (some ⟨g, 0, none⟩)) W')) := fun W ba g hW => (tq_same hW.out (fun Z hZ => .inr ((hW.out.below hZ).av.1)) (fun Z hZ => .inl ⟨rfl, rfl⟩))
  have S5 : Hid (∀ W ba g, Hid (Tq w m o (.pointer (some ⟨ba, 0, none⟩)) (.pointer none) m.s ⟨#[]⟩ (.pointer (some ⟨g, 0, none⟩)) W) → Calls Tryz.prog 32 #[.nilIface, .iface 46 (.pointer none)] W fun e W' => e = .returned (.bool ((⟨#[]⟩ : ByteArray).toList == (⟨#[]⟩ : ByteArray).toList)) ∧ Hid (Tq w m o (.pointer (some ⟨ba, 0, none⟩)) (.pointer none) m.s ⟨#[]⟩ (.pointer (some ⟨g, 0, none⟩)) W')) := fun W ba g hW => by rw [beq_comm (⟨#[]⟩ : ByteArray)]; exact (tq_same hW.out (fun Z hZ => .inl ⟨rfl, rfl⟩) (fun Z hZ => .inr ((hW.out.below hZ).bv)))
  have S6 : Hid (∀ W ba g, Hid (Tq w m o (.pointer (some ⟨ba, 0, none⟩)) (.pointer none) m.s ⟨#[]⟩ (.pointer (some ⟨g, 0, none⟩)) W) → Calls Tryz.prog 32 #[.nilIface, .nilIface] W fun e W' => e = .returned (.bool ((⟨#[]⟩ : ByteArray).toList == (⟨#[]⟩ : ByteArray).toList)) ∧ Hid (Tq w m o (.pointer (some ⟨ba, 0, none⟩)) (.pointer none) m.s ⟨#[]⟩ (.pointer (some ⟨g, 0, none⟩)) W')) := fun W ba g hW => (tq_same hW.out (fun Z hZ => .inl ⟨rfl, rfl⟩) (fun Z hZ => .inl ⟨rfl, rfl⟩))
  have HQ : Hid (∀ W ba g, Hid (Tq w m o (.pointer (some ⟨ba, 0, none⟩)) (.pointer none) m.s ⟨#[]⟩ (.pointer (some ⟨g, 0, none⟩)) W) → (∀ dd os, Calls Tryz.prog 32 #[.iface 46 (.pointer (some ⟨ba, 0, none⟩)), .iface 76 (.pointer (some ⟨g, 0, none⟩))] (Go.Sort.grow (redrawn W dd) os) fun e w'' => e = .returned (.bool (m.s.toList == m.s.toList)) ∧ ∃ p : Regrown, w'' = Go.Sort.grow (redrawn W p.d) p.os) ∧ (∀ dd os, Calls Tryz.prog 32 #[.iface 76 (.pointer (some ⟨g, 0, none⟩)), .iface 46 (.pointer none)] (Go.Sort.grow (redrawn W dd) os) fun e w'' => e = .returned (.bool (m.s.toList == (⟨#[]⟩ : ByteArray).toList)) ∧ ∃ p : Regrown, w'' = Go.Sort.grow (redrawn W p.d) p.os)) := fun W ba g hW =>
    ⟨regrown (fun Z hZ => same_any (.inr (hW.out.below hZ).av.1) (.inr (hW.out.below hZ).gv)), regrown (fun Z hZ => same_any (.inr (hW.out.below hZ).gv) (.inr (hW.out.below hZ).bv))⟩
  have HG : Hid (∀ W ba g dd os, Hid (Tq w m o (.pointer (some ⟨ba, 0, none⟩)) (.pointer none) m.s ⟨#[]⟩ (.pointer (some ⟨g, 0, none⟩)) W) → Hid (Tq w m o (.pointer (some ⟨ba, 0, none⟩)) (.pointer none) m.s ⟨#[]⟩ (.pointer (some ⟨g, 0, none⟩)) (Go.Sort.grow (redrawn W dd) os))) := fun W ba g dd os hW => hW.out.below (below_regrown W dd os)
  have HM : Hid (Tryz.prog.follows .mixedOrders = true) := by show _ = _; kernel_rfl
  have CR : Hid (∀ W ba g, Hid (Tq w m o (.pointer (some ⟨ba, 0, none⟩)) (.pointer none) m.s ⟨#[]⟩ (.pointer (some ⟨g, 0, none⟩)) W) → Calls Tryz.prog 34 #[.pointer (some ⟨ba, 0, none⟩), .string ⟨#[]⟩] W fun e W' => e = .returned (.int .i64 0) ∧ Hid (Below w.heap.size w W' ∧ Tl W' (.iface 46 (.pointer (some ⟨ba, 0, none⟩))) ⟨#[]⟩)) := fun W ba g hW => by
    rcases hW.out.av.2 with ⟨e, _⟩ | ⟨b2, e, _, hs⟩
    · cases e
    · cases e
      obtain ⟨ot, ht⟩ := reset_t m.s (nwK m.kd m.lo m.hi (lim m.lm)).limit.toNat
      have hsl := se_len hs
      refine (sreset_of (R := fun _ r X => r = 0 ∧ ∃ bk k, Se w ba ⟨#[]⟩ bk k X) hsl (fun Z hZ => (se_rep (hs.below hZ) hE ⟨hm.2.2.1.2, hm.2.2.1.1, hm.2.1.2, hm.2.1.1⟩ (fit_few _ _ _ _) 0 m.s.size ⟨#[]⟩ (by omega) (by omega) (by decide) _ ht _ rfl).mono fun e W' ⟨o2, r, q1, q2, q3, _⟩ => ⟨o2, r, q1, q2.2, _, _, q3⟩)).mono ?_
      rintro e W' ⟨o2, r, q1, q2, _, _, q3⟩
      exact ⟨by rw [q1, q2], q3.bel, tl_se q3⟩
  have CZ : Hid (∀ W ba, Hid (Below w.heap.size w W ∧ Tl W (.iface 46 (.pointer (some ⟨ba, 0, none⟩))) ⟨#[]⟩) → Calls Tryz.prog 32 #[.iface 46 (.pointer (some ⟨ba, 0, none⟩)), .nilIface] W fun e W' => e = .returned (.bool true) ∧ Hid (Below w.heap.size w W')) := fun W ba hW => by
    refine (same_any (.inr hW.out.2) (.inl ⟨rfl, rfl⟩)).mono ?_
    rintro e W' ⟨q1, q2⟩
    exact ⟨by rw [q1]; simp, Below.on hW.out.1 q2⟩
  have HE : Hid (∀ W ba g, Hid (Tq w m o (.pointer (some ⟨ba, 0, none⟩)) (.pointer none) m.s ⟨#[]⟩ (.pointer (some ⟨g, 0, none⟩)) W) → Below w.heap.size w W) := fun W ba g hW => hW.out.bm.bel
  have HBM : Hid (∀ W ba g, Tq w m o (.pointer (some ⟨ba, 0, none⟩)) (.pointer none) m.s ⟨#[]⟩ (.pointer (some ⟨g, 0, none⟩)) W → Bm w m o W) := fun W ba g h => h.bm
  obtain ⟨⟨x0, x1, x2, x3, x4⟩, y0, y1, y2, y3, y4⟩ := HC.out W0 hm0
  have hms : (m.s.size : Int) ≤ 1048576 := by omega
  unfold mkv at hW0 ⊢
  clear hm0 hE hm ho ha hb hz
  have T1 : True := trivial
  go_enter Tryz.func8, Tryz.ntmps8
  go_upto_region 15 with (first
    | (go_at_call 20; refine CF.out.mono ?_; clear CF hW0 x0 x1 x2 x3 x4 y0 y1 y2 y3 y4; rintro e w1 ⟨rfl, H1⟩; obtain ⟨⟨x0, x1, x2, x3, x4⟩, y0, y1, y2, y3, y4⟩ := HC.out _ H1.out)
    | (go_at_call 21; clear T1; refine (CA.out _ H1).mono ?_; clear CA H1 x0 x1 x2 x3 x4 y0 y1 y2 y3 y4; rintro e w2 ⟨ba, rb, rfl, H2⟩; obtain ⟨⟨x0, x1, x2, x3, x4⟩, y0, y1, y2, y3, y4⟩ := HC.out _ H2.out.1; have T2 : True := trivial)
    | (go_at_call 21; clear T2; refine (CB.out _ _ H2).mono ?_; clear CB H2 x0 x1 x2 x3 x4 y0 y1 y2 y3 y4; rintro e w3 ⟨rfl, H3⟩; obtain ⟨⟨x0, x1, x2, x3, x4⟩, y0, y1, y2, y3, y4⟩ := HC.out _ H3.out.1)
    | (go_at_call 33; refine (CG.out _ _ H3).mono ?_; clear CG H3 x0 x1 x2 x3 x4 y0 y1 y2 y3 y4; rintro e w4 ⟨g, rfl, Q1⟩; obtain ⟨⟨x0, x1, x2, x3, x4⟩, y0, y1, y2, y3, y4⟩ := HC.out _ (HBM.out _ _ _ Q1.out); have K1 : True := trivial)
    | (go_at_call 32; clear K1; refine (S1.out _ _ _ Q1).mono ?_; clear S1 Q1 x0 x1 x2 x3 x4 y0 y1 y2 y3 y4; rintro e z1 ⟨rfl, Q2⟩; obtain ⟨⟨x0, x1, x2, x3, x4⟩, y0, y1, y2, y3, y4⟩ := HC.out _ (HBM.out _ _ _ Q2.out); have K2 : True := trivial)
    | (go_at_call 32; clear K2; refine (S2.out _ _ _ Q2).mono ?_; clear S2 Q2 x0 x1 x2 x3 x4 y0 y1 y2 y3 y4; rintro e z2 ⟨rfl, Q3⟩; obtain ⟨⟨x0, x1, x2, x3, x4⟩, y0, y1, y2, y3, y4⟩ := HC.out _ (HBM.out _ _ _ Q3.out); have K3 : True := trivial)
    | (go_at_call 32; clear K3; refine (S3.out _ _ _ Q3).mono ?_; clear S3 Q3 x0 x1 x2 x3 x4 y0 y1 y2 y3 y4; rintro e z3 ⟨rfl, Q4⟩; obtain ⟨⟨x0, x1, x2, x3, x4⟩, y0, y1, y2, y3, y4⟩ := HC.out _ (HBM.out _ _ _ Q4.out); have K4 : True := trivial)
    | (go_at_call 32; clear K4; refine (S4.out _ _ _ Q4).mono ?_; clear S4 Q4 x0 x1 x2 x3 x4 y0 y1 y2 y3 y4; rintro e z4 ⟨rfl, Q5⟩; obtain ⟨⟨x0, x1, x2, x3, x4⟩, y0, y1, y2, y3, y4⟩ := HC.out _ (HBM.out _ _ _ Q5.out); have K5 : True := trivial)
    | (go_at_call 32; clear K5; refine (S5.out _ _ _ Q5).mono ?_; clear S5 Q5 x0 x1 x2 x3 x4 y0 y1 y2 y3 y4; rintro e z5 ⟨rfl, Q6⟩; obtain ⟨⟨x0, x1, x2, x3, x4⟩, y0, y1, y2, y3, y4⟩ := HC.out _ (HBM.out _ _ _ Q6.out); have K6 : True := trivial)
    | (go_at_call 32; clear K6; refine (S6.out _ _ _ Q6).mono ?_; clear S6 Q6 x0 x1 x2 x3 x4 y0 y1 y2 y3 y4; rintro e z6 ⟨rfl, Q7⟩; obtain ⟨⟨x0, x1, x2, x3, x4⟩, y0, y1, y2, y3, y4⟩ := HC.out _ (HBM.out _ _ _ Q7.out); have K7 : True := trivial))
  obtain ⟨q1, q2⟩ := HQ.out _ _ _ Q7
  have r4 := fun dd os => cell_regrown x4 dd os
  refine wp_region_quiet_below HM.out (by kernel_rfl) ?_
  repeat (go_big_quiet_step (fail))
  go_big_quiet_step (exact q1 _ _)
  repeat (go_big_quiet_step (fail))
  go_big_quiet_step (exact q2 _ _)
  repeat (go_big_quiet_step (fail))
  refine wpQuiet_nil ?_
  intro _ hw'
  obtain ⟨⟨dq, osq⟩, hw''⟩ := hw'
  subst hw''
  dsimp only
  have Q8 := HG.out _ _ _ dq osq Q7
  clear Q7 q1 q2 r4 x0 x1 x2 x3 x4 y0 y1 y2 y3 y4
  cases em with
  | false =>
    go_wp2
    go_ret
    exact ⟨rfl, HE.out _ _ _ Q8⟩
  | true =>
    go_wp2_with (first
      | (go_at_call 34; refine (CR.out _ _ _ Q8).mono ?_; clear CR Q8; rintro e w5 ⟨rfl, H5⟩)
      | (go_at_call 32; refine (CZ.out _ _ H5).mono ?_; clear CZ H5; rintro e w6 ⟨rfl, H6⟩))
    go_ret
    exact ⟨rfl, H6.out⟩
set_option maxRecDepth 100000 in
set_option maxHeartbeats 4000000 in
theorem walk_ss (m o : Mk) (em : Bool) (hm : m.fit) (ho : o.fit) (hz : m.s.size ≤ 1048576) (w : World) (hE : Ev w) (ha : m.s.size ≤ lim m.lm) (hb : o.s.size ≤ lim o.lm) :
    Calls Tryz.prog 8 #[.agg (mkv m), .agg (mkv o), .bool em] w fun e W' => e = .returned (.bool true) ∧ Below w.heap.size w W' := by
  obtain ⟨W0, hW0⟩ : ∃ W0, (w.alloc (.cells (mkv m) 44)).alloc (.cells (mkv o) 44) = W0 := ⟨_, rfl⟩
  have hm0 : Bm w m o W0 := by rw [← hW0]; exact bm_new w m o
  have HC : Hid (∀ W, Bm w m o W → (W.cell? ⟨w.heap.size, 0, none⟩ = some (.int .i64 m.kd) ∧ W.cell? ⟨w.heap.size, 1, none⟩ = some (.int .i64 m.lo) ∧ W.cell? ⟨w.heap.size, 2, none⟩ = some (.int .i64 m.hi) ∧ W.cell? ⟨w.heap.size, 3, none⟩ = some (.int .i64 m.lm) ∧ W.cell? ⟨w.heap.size, 4, none⟩ = some (.string m.s)) ∧ (W.cell? ⟨w.heap.size + 1, 0, none⟩ = some (.int .i64 o.kd) ∧ W.cell? ⟨w.heap.size + 1, 1, none⟩ = some (.int .i64 o.lo) ∧ W.cell? ⟨w.heap.size + 1, 2, none⟩ = some (.int .i64 o.hi) ∧ W.cell? ⟨w.heap.size + 1, 3, none⟩ = some (.int .i64 o.lm) ∧ W.cell? ⟨w.heap.size + 1, 4, none⟩ = some (.string o.s))) := fun W h => h.cells
  have CF : Hid (Calls Tryz.prog 20 #[] W0 fun e W' => e = .returned (.bool true) ∧ Hid (Bm w m o W')) := (fixed_any W0 (hE.below hm0.bel)).mono fun e W' ⟨q1, q2⟩ => ⟨q1, hm0.below q2⟩
  have CA : Hid (∀ W, Hid (Bm w m o W) → Calls Tryz.prog 21 #[.agg #[.int .i64 m.kd, .int .i64 m.lo, .int .i64 m.hi, .int .i64 m.lm, .string m.s]] W fun e W' => ∃ ba rb, e = .returned (.tuple #[.pointer (some ⟨ba, 0, none⟩), .pointer (some ⟨rb, 0, none⟩), .bool true]) ∧ Hid (Bm w m o W' ∧ Av w m (.pointer (some ⟨ba, 0, none⟩)) m.s W')) := fun W hW => by
    refine ((made_any W (hE.below hW.out.bel) m hm).1 ha).mono ?_
    rintro e W' ⟨b, rb, q1, q2, _⟩
    exact ⟨b, rb, q1, hW.out.below q2.bel, tl_se q2, .inr ⟨b, rfl, rfl, q2.up hW.out.bel⟩⟩
  have CB : Hid (∀ W ba, Hid (Bm w m o W ∧ Av w m (.pointer (some ⟨ba, 0, none⟩)) m.s W) → Calls Tryz.prog 21 #[.agg #[.int .i64 o.kd, .int .i64 o.lo, .int .i64 o.hi, .int .i64 o.lm, .string o.s]] W fun e W' => ∃ bb rb, e = .returned (.tuple #[.pointer (some ⟨bb, 0, none⟩), .pointer (some ⟨rb, 0, none⟩), .bool true]) ∧ Hid (Bm w m o W' ∧ Av w m (.pointer (some ⟨ba, 0, none⟩)) m.s W' ∧ Tl W' (.iface 46 (.pointer (some ⟨bb, 0, none⟩))) o.s)) := fun W ba hW => by
    refine ((made_any W (hE.below hW.out.1.bel) o ho).1 hb).mono ?_
    rintro e W' ⟨b, rb, q1, q2, _⟩
    exact ⟨b, rb, q1, hW.out.1.below q2.bel, hW.out.2.below q2.bel, tl_se q2⟩
  have CG : Hid (∀ W ba bb, Hid (Bm w m o W ∧ Av w m (.pointer (some ⟨ba, 0, none⟩)) m.s W ∧ Tl W (.iface 46 (.pointer (some ⟨bb, 0, none⟩))) o.s) → Calls Tryz.prog 33 #[.string m.s, .int .i64 1048576] W fun e W' => ∃ g, e = .returned (.tuple #[.pointer (some ⟨g, 0, none⟩), .int .i64 0]) ∧ Hid (Tq w m o (.pointer (some ⟨ba, 0, none⟩)) (.pointer (some ⟨bb, 0, none⟩)) m.s o.s (.pointer (some ⟨g, 0, none⟩)) W')) := fun W ba bb hW => by
    have hl : lim 1048576 = 1048576 := by decide
    have := Gap.new_any m.s 1048576 W
    have e : gNew m.s 1048576 = some ⟨m.s, m.s.size, 1048576⟩ := by unfold gNew; rw [hl, if_pos hz]
    rw [e] at this
    refine this.mono ?_
    rintro e W' ⟨q1, r, n, q2, q3, _⟩
    exact ⟨_, q1, hW.out.1.below q3, hW.out.2.1.below q3, hW.out.2.2.below q3, tl_gap (o := some (W.heap.size, r)) ⟨rfl, q2⟩⟩
  have S1 : Hid (∀ W ba bb g, Hid (Tq w m o (.pointer (some ⟨ba, 0, none⟩)) (.pointer (some ⟨bb, 0, none⟩)) m.s o.s (.pointer (some ⟨g, 0, none⟩)) W) → Calls Tryz.prog 32 #[.iface 46 (.pointer (some ⟨ba, 0, none⟩)), .iface 46 (.pointer (some ⟨bb, 0, none⟩))] W fun e W' => e = .returned (.bool (m.s.toList == o.s.toList)) ∧ Hid (Tq w m o (.pointer (some ⟨ba, 0, none⟩)) (.pointer (some ⟨bb, 0, none⟩)) m.s o.s (.pointer (some ⟨g, 0, none⟩)) W')) := fun W ba bb g hW => (tq_same hW.out (fun Z hZ => .inr ((hW.out.below hZ).av.1)) (fun Z hZ => .inr ((hW.out.below hZ).bv)))
  have S2 : Hid (∀ W ba bb g, Hid (Tq w m o (.pointer (some ⟨ba, 0, none⟩)) (.pointer (some ⟨bb, 0, none⟩)) m.s o.s (.pointer (some ⟨g, 0, none⟩)) W) → Calls Tryz.prog 32 #[.iface 46 (.pointer (some ⟨bb, 0, none⟩)), .iface 46 (.pointer (some ⟨ba, 0, none⟩))] W fun e W' => e = .returned (.bool (m.s.toList == o.s.toList)) ∧ Hid (Tq w m o (.pointer (some ⟨ba, 0, none⟩)) (.pointer (some ⟨bb, 0, none⟩)) m.s o.s (.pointer (some ⟨g, 0, none⟩)) W')) := fun W ba bb g hW => by rw [beq_comm m.s]; exact (tq_same hW.out (fun Z hZ => .inr ((hW.out.below hZ).bv)) (fun Z hZ => .inr ((hW.out.below hZ).av.1)))
  have S3 : Hid (∀ W ba bb g, Hid (Tq w m o (.pointer (some ⟨ba, 0, none⟩)) (.pointer (some ⟨bb, 0, none⟩)) m.s o.s (.pointer (some ⟨g, 0, none⟩)) W) → Calls Tryz.prog 32 #[.iface 46 (.pointer (some ⟨ba, 0, none⟩)), .iface 46 (.pointer (some ⟨ba, 0, none⟩))] W fun e W' => e = .returned (.bool (m.s.toList == m.s.toList)) ∧ Hid (Tq w m o (.pointer (some ⟨ba, 0, none⟩)) (.pointer (some ⟨bb, 0, none⟩)) m.s o.s (.pointer (some ⟨g, 0, none⟩)) W')) := fun W ba bb g hW => (tq_same hW.out (fun Z hZ => .inr ((hW.out.below hZ).av.1)) (fun Z hZ => .inr ((hW.out.below hZ).av.1)))
  have S4 : Hid (∀ W ba bb g, Hid (Tq w m o (.pointer (some ⟨ba, 0, none⟩)) (.pointer (some ⟨bb, 0, none⟩)) m.s o.s (.pointer (some ⟨g, 0, none⟩)) W) → Calls Tryz.prog 32 #[.iface 46 (.pointer (some ⟨ba, 0, none⟩)), .nilIface] W fun e W' => e = .returned (.bool (m.s.toList == (⟨#[]⟩ : ByteArray).toList)) ∧ Hid (Tq w m o (.pointer (some ⟨ba, 0, none⟩)) (.pointer (some ⟨bb, 0, none⟩)) m.s o.s (.pointer (some ⟨g, 0, none⟩)) W')) := fun W ba bb g hW => (tq_same hW.out (fun Z hZ => .inr ((hW.out.below hZ).av.1)) (fun Z hZ => .inl ⟨rfl, rfl⟩))
  have S5 : Hid (∀ W ba bb g, Hid (Tq w m o (.pointer (some ⟨ba, 0, none⟩)) (.pointer (some ⟨bb, 0, none⟩)) m.s o.s (.pointer (some ⟨g, 0, none⟩)) W) → Calls Tryz.prog 32 #[.nilIface, .iface 46 (.pointer (some ⟨bb, 0, none⟩))] W fun e W' => e = .returned (.bool (o.s.toList == (⟨#[]⟩ : ByteArray).toList)) ∧ Hid (Tq w m o (.pointer (some ⟨ba, 0, none⟩)) (.pointer (some ⟨bb, 0, none⟩)) m.s o.s (.pointer (some ⟨g, 0, none⟩)) W')) := fun W ba bb g hW => by rw [beq_comm o.s]; exact (tq_same hW.out (fun Z hZ => .inl ⟨rfl, rfl⟩) (fun Z hZ => .inr ((hW.out.below hZ).bv)))
  have S6 : Hid (∀ W ba bb g, Hid (Tq w m o (.pointer (some ⟨ba, 0, none⟩)) (.pointer (some ⟨bb, 0, none⟩)) m.s o.s (.pointer (some ⟨g, 0, none⟩)) W) → Calls Tryz.prog 32 #[.nilIface, .nilIface] W fun e W' => e = .returned (.bool ((⟨#[]⟩ : ByteArray).toList == (⟨#[]⟩ : ByteArray).toList)) ∧ Hid (Tq w m o (.pointer (some ⟨ba, 0, none⟩)) (.pointer (some ⟨bb, 0, none⟩)) m.s o.s (.pointer (some ⟨g, 0, none⟩)) W')) := fun W ba bb g hW => (tq_same hW.out (fun Z hZ => .inl ⟨rfl, rfl⟩) (fun Z hZ => .inl ⟨rfl, rfl⟩))
  have HQ : Hid (∀ W ba bb g, Hid (Tq w m o (.pointer (some ⟨ba, 0, none⟩)) (.pointer (some ⟨bb, 0, none⟩)) m.s o.s (.pointer (some ⟨g, 0, none⟩)) W) → (∀ dd os, Calls Tryz.prog 32 #[.iface 46 (.pointer (some ⟨ba, 0, none⟩)), .iface 76 (.pointer (some ⟨g, 0, none⟩))] (Go.Sort.grow (redrawn W dd) os) fun e w'' => e = .returned (.bool (m.s.toList == m.s.toList)) ∧ ∃ p : Regrown, w'' = Go.Sort.grow (redrawn W p.d) p.os) ∧ (∀ dd os, Calls Tryz.prog 32 #[.iface 76 (.pointer (some ⟨g, 0, none⟩)), .iface 46 (.pointer (some ⟨bb, 0, none⟩))] (Go.Sort.grow (redrawn W dd) os) fun e w'' => e = .returned (.bool (m.s.toList == o.s.toList)) ∧ ∃ p : Regrown, w'' = Go.Sort.grow (redrawn W p.d) p.os)) := fun W ba bb g hW =>
    ⟨regrown (fun Z hZ => same_any (.inr (hW.out.below hZ).av.1) (.inr (hW.out.below hZ).gv)), regrown (fun Z hZ => same_any (.inr (hW.out.below hZ).gv) (.inr (hW.out.below hZ).bv))⟩
  have HG : Hid (∀ W ba bb g dd os, Hid (Tq w m o (.pointer (some ⟨ba, 0, none⟩)) (.pointer (some ⟨bb, 0, none⟩)) m.s o.s (.pointer (some ⟨g, 0, none⟩)) W) → Hid (Tq w m o (.pointer (some ⟨ba, 0, none⟩)) (.pointer (some ⟨bb, 0, none⟩)) m.s o.s (.pointer (some ⟨g, 0, none⟩)) (Go.Sort.grow (redrawn W dd) os))) := fun W ba bb g dd os hW => hW.out.below (below_regrown W dd os)
  have HM : Hid (Tryz.prog.follows .mixedOrders = true) := by show _ = _; kernel_rfl
  have CR : Hid (∀ W ba bb g, Hid (Tq w m o (.pointer (some ⟨ba, 0, none⟩)) (.pointer (some ⟨bb, 0, none⟩)) m.s o.s (.pointer (some ⟨g, 0, none⟩)) W) → Calls Tryz.prog 34 #[.pointer (some ⟨ba, 0, none⟩), .string ⟨#[]⟩] W fun e W' => e = .returned (.int .i64 0) ∧ Hid (Below w.heap.size w W' ∧ Tl W' (.iface 46 (.pointer (some ⟨ba, 0, none⟩))) ⟨#[]⟩)) := fun W ba bb g hW => by
    rcases hW.out.av.2 with ⟨e, _⟩ | ⟨b2, e, _, hs⟩
    · cases e
    · cases e
      obtain ⟨ot, ht⟩ := reset_t m.s (nwK m.kd m.lo m.hi (lim m.lm)).limit.toNat
      have hsl := se_len hs
      refine (sreset_of (R := fun _ r X => r = 0 ∧ ∃ bk k, Se w ba ⟨#[]⟩ bk k X) hsl (fun Z hZ => (se_rep (hs.below hZ) hE ⟨hm.2.2.1.2, hm.2.2.1.1, hm.2.1.2, hm.2.1.1⟩ (fit_few _ _ _ _) 0 m.s.size ⟨#[]⟩ (by omega) (by omega) (by decide) _ ht _ rfl).mono fun e W' ⟨o2, r, q1, q2, q3, _⟩ => ⟨o2, r, q1, q2.2, _, _, q3⟩)).mono ?_
      rintro e W' ⟨o2, r, q1, q2, _, _, q3⟩
      exact ⟨by rw [q1, q2], q3.bel, tl_se q3⟩
  have CZ : Hid (∀ W ba, Hid (Below w.heap.size w W ∧ Tl W (.iface 46 (.pointer (some ⟨ba, 0, none⟩))) ⟨#[]⟩) → Calls Tryz.prog 32 #[.iface 46 (.pointer (some ⟨ba, 0, none⟩)), .nilIface] W fun e W' => e = .returned (.bool true) ∧ Hid (Below w.heap.size w W')) := fun W ba hW => by
    refine (same_any (.inr hW.out.2) (.inl ⟨rfl, rfl⟩)).mono ?_
    rintro e W' ⟨q1, q2⟩
    exact ⟨by rw [q1]; simp, Below.on hW.out.1 q2⟩
  have HE : Hid (∀ W ba bb g, Hid (Tq w m o (.pointer (some ⟨ba, 0, none⟩)) (.pointer (some ⟨bb, 0, none⟩)) m.s o.s (.pointer (some ⟨g, 0, none⟩)) W) → Below w.heap.size w W) := fun W ba bb g hW => hW.out.bm.bel
  have HBM : Hid (∀ W ba bb g, Tq w m o (.pointer (some ⟨ba, 0, none⟩)) (.pointer (some ⟨bb, 0, none⟩)) m.s o.s (.pointer (some ⟨g, 0, none⟩)) W → Bm w m o W) := fun W ba bb g h => h.bm
  obtain ⟨⟨x0, x1, x2, x3, x4⟩, y0, y1, y2, y3, y4⟩ := HC.out W0 hm0
  have hms : (m.s.size : Int) ≤ 1048576 := by omega
  unfold mkv at hW0 ⊢
  clear hm0 hE hm ho ha hb hz
  have T1 : True := trivial
  go_enter Tryz.func8, Tryz.ntmps8
  go_upto_region 15 with (first
    | (go_at_call 20; refine CF.out.mono ?_; clear CF hW0 x0 x1 x2 x3 x4 y0 y1 y2 y3 y4; rintro e w1 ⟨rfl, H1⟩; obtain ⟨⟨x0, x1, x2, x3, x4⟩, y0, y1, y2, y3, y4⟩ := HC.out _ H1.out)
    | (go_at_call 21; clear T1; refine (CA.out _ H1).mono ?_; clear CA H1 x0 x1 x2 x3 x4 y0 y1 y2 y3 y4; rintro e w2 ⟨ba, rb, rfl, H2⟩; obtain ⟨⟨x0, x1, x2, x3, x4⟩, y0, y1, y2, y3, y4⟩ := HC.out _ H2.out.1; have T2 : True := trivial)
    | (go_at_call 21; clear T2; refine (CB.out _ _ H2).mono ?_; clear CB H2 x0 x1 x2 x3 x4 y0 y1 y2 y3 y4; rintro e w3 ⟨bb, rb2, rfl, H3⟩; obtain ⟨⟨x0, x1, x2, x3, x4⟩, y0, y1, y2, y3, y4⟩ := HC.out _ H3.out.1)
    | (go_at_call 33; refine (CG.out _ _ _ H3).mono ?_; clear CG H3 x0 x1 x2 x3 x4 y0 y1 y2 y3 y4; rintro e w4 ⟨g, rfl, Q1⟩; obtain ⟨⟨x0, x1, x2, x3, x4⟩, y0, y1, y2, y3, y4⟩ := HC.out _ (HBM.out _ _ _ _ Q1.out); have K1 : True := trivial)
    | (go_at_call 32; clear K1; refine (S1.out _ _ _ _ Q1).mono ?_; clear S1 Q1 x0 x1 x2 x3 x4 y0 y1 y2 y3 y4; rintro e z1 ⟨rfl, Q2⟩; obtain ⟨⟨x0, x1, x2, x3, x4⟩, y0, y1, y2, y3, y4⟩ := HC.out _ (HBM.out _ _ _ _ Q2.out); have K2 : True := trivial)
    | (go_at_call 32; clear K2; refine (S2.out _ _ _ _ Q2).mono ?_; clear S2 Q2 x0 x1 x2 x3 x4 y0 y1 y2 y3 y4; rintro e z2 ⟨rfl, Q3⟩; obtain ⟨⟨x0, x1, x2, x3, x4⟩, y0, y1, y2, y3, y4⟩ := HC.out _ (HBM.out _ _ _ _ Q3.out); have K3 : True := trivial)
    | (go_at_call 32; clear K3; refine (S3.out _ _ _ _ Q3).mono ?_; clear S3 Q3 x0 x1 x2 x3 x4 y0 y1 y2 y3 y4; rintro e z3 ⟨rfl, Q4⟩; obtain ⟨⟨x0, x1, x2, x3, x4⟩, y0, y1, y2, y3, y4⟩ := HC.out _ (HBM.out _ _ _ _ Q4.out); have K4 : True := trivial)
    | (go_at_call 32; clear K4; refine (S4.out _ _ _ _ Q4).mono ?_; clear S4 Q4 x0 x1 x2 x3 x4 y0 y1 y2 y3 y4; rintro e z4 ⟨rfl, Q5⟩; obtain ⟨⟨x0, x1, x2, x3, x4⟩, y0, y1, y2, y3, y4⟩ := HC.out _ (HBM.out _ _ _ _ Q5.out); have K5 : True := trivial)
    | (go_at_call 32; clear K5; refine (S5.out _ _ _ _ Q5).mono ?_; clear S5 Q5 x0 x1 x2 x3 x4 y0 y1 y2 y3 y4; rintro e z5 ⟨rfl, Q6⟩; obtain ⟨⟨x0, x1, x2, x3, x4⟩, y0, y1, y2, y3, y4⟩ := HC.out _ (HBM.out _ _ _ _ Q6.out); have K6 : True := trivial)
    | (go_at_call 32; clear K6; refine (S6.out _ _ _ _ Q6).mono ?_; clear S6 Q6 x0 x1 x2 x3 x4 y0 y1 y2 y3 y4; rintro e z6 ⟨rfl, Q7⟩; obtain ⟨⟨x0, x1, x2, x3, x4⟩, y0, y1, y2, y3, y4⟩ := HC.out _ (HBM.out _ _ _ _ Q7.out); have K7 : True := trivial))
  obtain ⟨q1, q2⟩ := HQ.out _ _ _ _ Q7
  have r4 := fun dd os => cell_regrown x4 dd os
  refine wp_region_quiet_below HM.out (by kernel_rfl) ?_
  repeat (go_big_quiet_step (fail))
  go_big_quiet_step (exact q1 _ _)
  repeat (go_big_quiet_step (fail))
  go_big_quiet_step (exact q2 _ _)
  repeat (go_big_quiet_step (fail))
  refine wpQuiet_nil ?_
  intro _ hw'
  obtain ⟨⟨dq, osq⟩, hw''⟩ := hw'
  subst hw''
  dsimp only
  have Q8 := HG.out _ _ _ _ dq osq Q7
  clear Q7 q1 q2 r4 x0 x1 x2 x3 x4 y0 y1 y2 y3 y4
  cases em with
  | false =>
    go_wp2
    go_ret
    exact ⟨rfl, HE.out _ _ _ _ Q8⟩
  | true =>
    go_wp2_with (first
      | (go_at_call 34; refine (CR.out _ _ _ _ Q8).mono ?_; clear CR Q8; rintro e w5 ⟨rfl, H5⟩)
      | (go_at_call 32; refine (CZ.out _ _ H5).mono ?_; clear CZ H5; rintro e w6 ⟨rfl, H6⟩))
    go_ret
    exact ⟨rfl, H6.out⟩
end Go.Proofs.YtkmihnjmchfopaaGreatDoor.Sto
namespace Go.Proofs.YtkmihnjmchfopaaGreatDoor.storeTexts
open Go.RowKit Go.Shelf Sto
open Gap (lim)
theorem walk_of {H : Type} {d0 d1 d2 : DataW H} (m o : Sto.Mk) (em : Bool) (w : World) (hT : Lib.Utf8Tabs 1 2 w) (hlo0 : 1 < w.heap.size) (hlo1 : 2 < w.heap.size) (hm : m.fit ∧ m.s.size + 5 ≤ Rows.uptoBulk d0) (ho : o.fit ∧ o.s.size + 5 ≤ Rows.uptoBulk d1) (hk : Rows.uptoSmall H ([d0, d1, d2] ++ []) = true) :
    Calls Tryz.prog 8 #[.agg (mkv m), .agg (mkv o), .bool em] w fun e W' => e = .returned (.bool true) ∧ Below w.heap.size w W' := by
  have h : Rows.uptoBulkAll ([d0, d1, d2] ++ []) ≤ 1048576 := of_decide_eq_true hk
  simp only [List.append_nil, Rows.uptoBulkAll] at h
  have hz : m.s.size ≤ 1048576 := by have := hm.2; omega
  have hE : Ev w := ⟨hT, hlo0, hlo1⟩
  by_cases ha : m.s.size ≤ lim m.lm
  · by_cases hb : o.s.size ≤ lim o.lm
    · exact walk_ss m o em hm.1 ho.1 hz w hE ha hb
    · exact walk_sn m o em hm.1 ho.1 hz w hE ha hb
  · by_cases hb : o.s.size ≤ lim o.lm
    · exact walk_ns m o em hm.1 ho.1 hz w hE ha hb
    · exact walk_nn m o em hm.1 ho.1 hz w hE ha hb
end Go.Proofs.YtkmihnjmchfopaaGreatDoor.storeTexts

