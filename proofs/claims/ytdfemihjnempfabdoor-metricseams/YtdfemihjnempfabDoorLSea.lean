/-
  The law MetricSeams returns true: what a seam changes is seen by the sixteen bytes at each side of it. Conditions: the two tables of unicode/utf8 lie as their text lays them.
-/
import Derived.Test.YtdfemihjnempfabDoorMLaw
import Derived.Test.YtdfemihjnempfabDoorURegInv
import Derived.Deep.RegionHeld3
import Derived.Deep.DeepCutAuto
namespace Go.Proofs.YtdfemihjnempfabDoor.metricSeams
open Go.RowKit Bod Wid

theorem tl_more (m a : ByteArray) (h : 16 ≤ a.size) : tl (m ++ tl a) = tl a := by
  have hz := tl_size a
  rw [tl_app, tl_tl, if_neg (by omega)]
theorem hd_far (b f : ByteArray) (h : 16 ≤ b.size) : hd (hd b ++ f) = hd b := by
  have hz := hd_size b
  rw [hd_app, hd_hd, if_neg (by omega)]
/-- the same ends, the same seam -/
theorem seam_same (k : Cnt) {a b u v : ByteArray} (hu : tl u = tl a) (hv : hd v = hd b) : k.of (a ++ b) - k.of a - k.of b = k.of (u ++ v) - k.of u - k.of v := by
  have h1 := seam_tl k a b
  have h2 := seam_hd k (tl a) b
  have h3 := seam_tl k u v
  have h4 := seam_hd k (tl u) v
  rw [hu, hv] at h4
  rw [hu] at h3
  unfold Cnt.seam at h1 h2 h3 h4
  omega
/-- two summaries lie there -/
structure S2 (w : World) (p : Nat) (X Y : Sum) (W : World) : Prop where
  x : W.heap[p]? = some (.cells (scs X) 24 (0, 0))
  y : W.heap[p + 1]? = some (.cells (scs Y) 24 (0, 0))
  bel : Below w.heap.size w W
theorem S2.below {w : World} {p : Nat} {X Y : Sum} {W W' : World} (h : S2 w p X Y W) (hb : Below W.heap.size W W') : S2 w p X Y W' := by
  have kp : ∀ {k : Nat} {o : Obj}, W.heap[k]? = some o → W'.heap[k]? = some o := fun ho => (hb.block _ (Array.getElem?_eq_some_iff.1 ho).1).trans ho
  exact ⟨kp h.x, kp h.y, h.bel.trans (hb.mono h.bel.size)⟩
theorem S2.alloc {w : World} {p : Nat} {X Y : Sum} {W : World} (h : S2 w p X Y W) (o : Obj) : S2 w p X Y (W.alloc o) := h.below ((Below.refl _ W).alloc (Nat.le_refl _) o)
theorem S2.push {w w3 : World} {X Y : Sum} (h : Below w.heap.size w w3) : S2 w w3.heap.size X Y ((w3.alloc (.cells (scs X) 24)).alloc (.cells (scs Y) 24)) := by
  obtain ⟨p0, p1⟩ := push2' w3.heap (.cells (scs X) 24) (.cells (scs Y) 24)
  exact ⟨p0, p1, (h.alloc h.size _).alloc (by have := h.size; simp; omega) _⟩
/-- and a third -/
structure S3 (w : World) (p q : Nat) (X Y J : Sum) (W : World) : Prop where
  s : S2 w p X Y W
  j : W.heap[q]? = some (.cells (scs J) 24 (0, 0))
theorem S3.below {w : World} {p q : Nat} {X Y J : Sum} {W W' : World} (h : S3 w p q X Y J W) (hb : Below W.heap.size W W') : S3 w p q X Y J W' := ⟨h.s.below hb, (hb.block _ (Array.getElem?_eq_some_iff.1 h.j).1).trans h.j⟩
theorem S3.alloc {w : World} {p q : Nat} {X Y J : Sum} {W : World} (h : S3 w p q X Y J W) (o : Obj) : S3 w p q X Y J (W.alloc o) := h.below ((Below.refl _ W).alloc (Nat.le_refl _) o)
theorem S3.drew {w : World} {p q : Nat} {X Y J : Sum} {W : World} (h : S3 w p q X Y J W) : S3 w p q X Y J W.drew := ⟨⟨h.s.x, h.s.y, ⟨h.s.bel.os, h.s.bel.tape, h.s.bel.output, h.s.bel.size, h.s.bel.block⟩⟩, h.j⟩
theorem S3.ends {w : World} {p q : Nat} {X Y J : Sum} {W : World} (h : S3 w p q X Y J W) : W.cell? ⟨p, 6, none⟩ = some (.string X.tl) ∧ W.cell? ⟨p + 1, 5, none⟩ = some (.string Y.hd) := by
  obtain ⟨⟨-, -, -, -, -, -, x6⟩, -⟩ := box7 h.s.x
  obtain ⟨⟨-, -, -, -, -, y5, -⟩, -⟩ := box7 h.s.y
  exact ⟨x6, y5⟩
theorem hid_mk {p : Prop} (h : p) : Hid p := h
/-- and others, each at a place of its own -/
structure SG (w : World) (p q : Nat) (X Y J : Sum) (l : List (Nat × Sum)) (W : World) : Prop where
  s : S3 w p q X Y J W
  o : ∀ e ∈ l, W.heap[e.1]? = some (.cells (scs e.2) 24 (0, 0)) ∧ e.1 ≠ p ∧ e.1 ≠ p + 1 ∧ e.1 ≠ q ∧ w.heap.size ≤ e.1
  d : (l.map Prod.fst).Nodup
theorem SG.nil {w : World} {p q : Nat} {X Y J : Sum} {W : World} (h : S3 w p q X Y J W) : SG w p q X Y J [] W := ⟨h, fun e h => (by cases h), List.nodup_nil⟩
theorem SG.below {w : World} {p q : Nat} {X Y J : Sum} {l : List (Nat × Sum)} {W W' : World} (h : SG w p q X Y J l W) (hb : Below W.heap.size W W') : SG w p q X Y J l W' :=
  ⟨h.s.below hb, fun e he => ⟨(hb.block _ (Array.getElem?_eq_some_iff.1 (h.o e he).1).1).trans (h.o e he).1, (h.o e he).2⟩, h.d⟩
theorem SG.drew {w : World} {p q : Nat} {X Y J : Sum} {l : List (Nat × Sum)} {W : World} (h : SG w p q X Y J l W) : SG w p q X Y J l W.drew := ⟨h.s.drew, h.o, h.d⟩
theorem SG.push {w : World} {p q : Nat} {X Y J : Sum} {l : List (Nat × Sum)} {W : World} (h : SG w p q X Y J l W) (m : Sum) : SG w p q X Y J ((W.heap.size, m) :: l) (W.alloc (.cells (scs m) 24)) := by
  have hb := h.below ((Below.refl _ W).alloc (Nat.le_refl _) (.cells (scs m) 24))
  have h1 := (Array.getElem?_eq_some_iff.1 h.s.s.x).1
  have h2 := (Array.getElem?_eq_some_iff.1 h.s.s.y).1
  have h3 := (Array.getElem?_eq_some_iff.1 h.s.j).1
  refine ⟨hb.s, fun e he => ?_, ?_⟩
  · rcases List.mem_cons.1 he with rfl | he
    · exact ⟨World.alloc_heap_new W _, by show W.heap.size ≠ p; omega, by show W.heap.size ≠ p + 1; omega, by show W.heap.size ≠ q; omega, h.s.s.bel.size⟩
    · exact hb.o e he
  · rw [List.map_cons, List.nodup_cons]
    refine ⟨fun hm => ?_, h.d⟩
    obtain ⟨e, he, h4⟩ := List.mem_map.1 hm
    have := (Array.getElem?_eq_some_iff.1 (h.o e he).1).1
    have h4 : e.1 = W.heap.size := h4
    omega
theorem SG.two {w : World} {p q : Nat} {X Y J : Sum} {l : List (Nat × Sum)} {W : World} (h : SG w p q X Y J l W) (m m' : Sum) : SG w p q X Y J ((W.heap.size + 1, m') :: (W.heap.size, m) :: l) ((W.alloc (.cells (scs m) 24)).alloc (.cells (scs m') 24)) := by
  have := (h.push m).push m'
  have e : (W.alloc (.cells (scs m) 24)).heap.size = W.heap.size + 1 := by simp
  rw [e] at this
  exact this
/-- one of them is written over -/
theorem SG.set {w : World} {p q : Nat} {X Y J : Sum} {l1 l2 : List (Nat × Sum)} {k : Nat} {m : Sum} {W : World} (h : SG w p q X Y J (l1 ++ (k, m) :: l2) W) (x : Sum) : SG w p q X Y J (l1 ++ (k, x) :: l2) (((((((W.setCell ⟨k, 0, none⟩ (.int .i64 x.by')).setCell ⟨k, 1, none⟩ (.int .i64 x.un)).setCell ⟨k, 2, none⟩ (.int .i64 x.cl)).setCell ⟨k, 3, none⟩ (.int .i64 x.ce)).setCell ⟨k, 4, none⟩ (.int .i64 x.nl)).setCell ⟨k, 5, none⟩ (.string x.hd)).setCell ⟨k, 6, none⟩ (.string x.tl)) := by
  have g := set7_grown W k (.int .i64 x.by') (.int .i64 x.un) (.int .i64 x.cl) (.int .i64 x.ce) (.int .i64 x.nl) (.string x.hd) (.string x.tl)
  obtain ⟨hk, k1, k2, k3, k4⟩ := h.o (k, m) (by simp)
  have kp : ∀ {i : Nat} {o : Obj}, i ≠ k → W.heap[i]? = some o → _ := fun hi ho => (g.block _ (Array.getElem?_eq_some_iff.1 ho).1 (fun e => hi (Option.some.inj e))).trans ho
  have hd := h.d
  simp only [List.map_append, List.map_cons] at hd
  rw [List.nodup_append] at hd
  obtain ⟨d1, d2, d3⟩ := hd
  rw [List.nodup_cons] at d2
  refine ⟨⟨⟨kp (fun e => k1 e.symm) h.s.s.x, kp (fun e => k2 e.symm) h.s.s.y, set7_at h.s.s.bel k4 _ _ _ _ _ _ _⟩, kp (fun e => k3 e.symm) h.s.j⟩, fun e he => ?_, ?_⟩
  · rcases List.mem_append.1 he with he | he
    · have ho := h.o e (by simp [he])
      exact ⟨kp (fun e' => d3 e.1 (List.mem_map.2 ⟨e, he, rfl⟩) k (by simp) e') ho.1, ho.2⟩
    · rcases List.mem_cons.1 he with rfl | he
      · exact ⟨set7_box hk _ _ _ _ _ _ _, k1, k2, k3, k4⟩
      · have ho := h.o e (by simp [he])
        exact ⟨kp (fun e' => d2.1 (List.mem_map.2 ⟨e, he, e'⟩)) ho.1, ho.2⟩
  · have := h.d
    simpa using this
theorem SG.swap {w : World} {p q : Nat} {X Y J : Sum} {a b : Nat × Sum} {W : World} (h : SG w p q X Y J [a, b] W) : SG w p q X Y J [b, a] W :=
  ⟨h.s, fun e he => h.o e (by simp at he ⊢; exact he.symm), by have := h.d; simp at this ⊢; exact fun e => this e.symm⟩
/-- the ten slots that the line reckons with, and its two variables -/
def fr (ts : Array Value) (x25 x26 x27 x28 x29 x30 x31 x32 x33 x34 x12 x13 : Value) : Array Value :=
  (((((((((((ts.setIfInBounds 25 x25).setIfInBounds 26 x26).setIfInBounds 27 x27).setIfInBounds 28 x28).setIfInBounds 29 x29).setIfInBounds 30 x30).setIfInBounds 31 x31).setIfInBounds 32 x32).setIfInBounds 33 x33).setIfInBounds 34 x34).setIfInBounds 12 x12).setIfInBounds 13 x13
theorem act_name2 {c : Code} {P : Program} {Q : Exit → Act → World → Prop} {a : Act} {w : World} (h : ∀ A, A = a → c.wp P Q A w) : c.wp P Q a w := h a rfl
/-- a box of its own -/
def Bk (w : World) (p q k : Nat) (m : Sum) (W : World) : Prop := W.heap[k]? = some (.cells (scs m) 24 (0, 0)) ∧ k ≠ p ∧ k ≠ p + 1 ∧ k ≠ q ∧ w.heap.size ≤ k
/-- what holds while the line runs, by which of its operations have run -/
structure IN (w : World) (p q : Nat) (X Y J U V : Sum) (more far : ByteArray) (v : List Bool) (x25 x26 x27 x28 x29 x30 x31 x32 x33 x34 x12 x13 : Value) (r t : Nat) (W : World) : Prop where
  s : S3 w p q X Y J W
  h0 : v.getD 0 false = true → x25 = .string more
  h1 : v.getD 1 false = true → x26 = .pointer (some ⟨p, 6, none⟩)
  h2 : v.getD 2 false = true → x27 = .string X.tl
  h3 : v.getD 3 false = true → x28 = .string (more ++ X.tl)
  h4 : v.getD 4 false = true → x29 = sv U
  h5 : v.getD 5 false = true → x30 = .pointer (some ⟨p + 1, 5, none⟩)
  h6 : v.getD 6 false = true → x31 = .string Y.hd
  h7 : v.getD 7 false = true → x32 = .string far
  h8 : v.getD 8 false = true → x33 = .string (Y.hd ++ far)
  h9 : v.getD 9 false = true → x34 = sv V
  h10 : v.getD 10 false = true → x12 = .pointer (some ⟨r, 0, none⟩) ∧ Bk w p q r (if v.getD 12 false then U else sm0) W
  h11 : v.getD 11 false = true → x13 = .pointer (some ⟨t, 0, none⟩) ∧ Bk w p q t (if v.getD 13 false then V else sm0) W
  ne : v.getD 10 false = true → v.getD 11 false = true → r ≠ t
  c12 : v.getD 12 false = true → v.getD 10 false = true
  c13 : v.getD 13 false = true → v.getD 11 false = true
theorem gset {v : List Bool} {i j : Nat} (h : i ≠ j) : (v.set i true).getD j false = v.getD j false := by
  rw [List.getD_eq_getElem?_getD, List.getD_eq_getElem?_getD, List.getElem?_set, if_neg h]
theorem Bk.below {w : World} {p q k : Nat} {m : Sum} {W W' : World} (h : Bk w p q k m W) (hb : Below W.heap.size W W') : Bk w p q k m W' := ⟨(hb.block _ (Array.getElem?_eq_some_iff.1 h.1).1).trans h.1, h.2⟩
theorem IN.below {w : World} {p q : Nat} {X Y J U V : Sum} {more far : ByteArray} {v : List Bool} {x25 x26 x27 x28 x29 x30 x31 x32 x33 x34 x12 x13 : Value} {r t : Nat} {W : World} {W' : World} (h : IN w p q X Y J U V more far v x25 x26 x27 x28 x29 x30 x31 x32 x33 x34 x12 x13 r t W) (hb : Below W.heap.size W W') : IN w p q X Y J U V more far v x25 x26 x27 x28 x29 x30 x31 x32 x33 x34 x12 x13 r t W' :=
  ⟨h.s.below hb, h.h0, h.h1, h.h2, h.h3, h.h4, h.h5, h.h6, h.h7, h.h8, h.h9, fun e => ⟨(h.h10 e).1, (h.h10 e).2.below hb⟩, fun e => ⟨(h.h11 e).1, (h.h11 e).2.below hb⟩, h.ne, h.c12, h.c13⟩
theorem IN.start {w : World} {p q : Nat} {X Y J U V : Sum} {more far : ByteArray} {x25 x26 x27 x28 x29 x30 x31 x32 x33 x34 x12 x13 : Value} {r t : Nat} {W : World} {n : Nat} (h : S3 w p q X Y J W) : IN w p q X Y J U V more far (List.replicate n false) x25 x26 x27 x28 x29 x30 x31 x32 x33 x34 x12 x13 r t W := by
  have no : ∀ {i : Nat} {P : Prop}, (List.replicate n false).getD i false = true → P := fun {i P} e => by
    rw [List.getD_eq_getElem?_getD, List.getElem?_replicate] at e
    split at e <;> simp at e
  exact ⟨h, no, no, no, no, no, no, no, no, no, no, no, no, no, no, no⟩
theorem IN.set0 {w : World} {p q : Nat} {X Y J U V : Sum} {more far : ByteArray} {v : List Bool} {x25 x26 x27 x28 x29 x30 x31 x32 x33 x34 x12 x13 : Value} {r t : Nat} {W : World} {y : Value} (h : IN w p q X Y J U V more far v x25 x26 x27 x28 x29 x30 x31 x32 x33 x34 x12 x13 r t W) (hy : y = .string more) : IN w p q X Y J U V more far (v.set 0 true) y x26 x27 x28 x29 x30 x31 x32 x33 x34 x12 x13 r t W :=
  ⟨h.s, fun _ => hy, fun e => h.h1 (by rw [gset (by decide)] at e; exact e), fun e => h.h2 (by rw [gset (by decide)] at e; exact e), fun e => h.h3 (by rw [gset (by decide)] at e; exact e), fun e => h.h4 (by rw [gset (by decide)] at e; exact e), fun e => h.h5 (by rw [gset (by decide)] at e; exact e), fun e => h.h6 (by rw [gset (by decide)] at e; exact e), fun e => h.h7 (by rw [gset (by decide)] at e; exact e), fun e => h.h8 (by rw [gset (by decide)] at e; exact e), fun e => h.h9 (by rw [gset (by decide)] at e; exact e), fun e => (by have := h.h10 (by rw [gset (by decide)] at e; exact e); rw [gset (i := 0) (j := 12) (by decide)]; exact this), fun e => (by have := h.h11 (by rw [gset (by decide)] at e; exact e); rw [gset (i := 0) (j := 13) (by decide)]; exact this), fun e e' => h.ne (by rw [gset (by decide)] at e; exact e) (by rw [gset (by decide)] at e'; exact e'), fun e => (by rw [gset (by decide)] at e ⊢; exact h.c12 e), fun e => (by rw [gset (by decide)] at e ⊢; exact h.c13 e)⟩
theorem IN.set1 {w : World} {p q : Nat} {X Y J U V : Sum} {more far : ByteArray} {v : List Bool} {x25 x26 x27 x28 x29 x30 x31 x32 x33 x34 x12 x13 : Value} {r t : Nat} {W : World} {y : Value} (h : IN w p q X Y J U V more far v x25 x26 x27 x28 x29 x30 x31 x32 x33 x34 x12 x13 r t W) (hy : y = .pointer (some ⟨p, 6, none⟩)) : IN w p q X Y J U V more far (v.set 1 true) x25 y x27 x28 x29 x30 x31 x32 x33 x34 x12 x13 r t W :=
  ⟨h.s, fun e => h.h0 (by rw [gset (by decide)] at e; exact e), fun _ => hy, fun e => h.h2 (by rw [gset (by decide)] at e; exact e), fun e => h.h3 (by rw [gset (by decide)] at e; exact e), fun e => h.h4 (by rw [gset (by decide)] at e; exact e), fun e => h.h5 (by rw [gset (by decide)] at e; exact e), fun e => h.h6 (by rw [gset (by decide)] at e; exact e), fun e => h.h7 (by rw [gset (by decide)] at e; exact e), fun e => h.h8 (by rw [gset (by decide)] at e; exact e), fun e => h.h9 (by rw [gset (by decide)] at e; exact e), fun e => (by have := h.h10 (by rw [gset (by decide)] at e; exact e); rw [gset (i := 1) (j := 12) (by decide)]; exact this), fun e => (by have := h.h11 (by rw [gset (by decide)] at e; exact e); rw [gset (i := 1) (j := 13) (by decide)]; exact this), fun e e' => h.ne (by rw [gset (by decide)] at e; exact e) (by rw [gset (by decide)] at e'; exact e'), fun e => (by rw [gset (by decide)] at e ⊢; exact h.c12 e), fun e => (by rw [gset (by decide)] at e ⊢; exact h.c13 e)⟩
theorem IN.set2 {w : World} {p q : Nat} {X Y J U V : Sum} {more far : ByteArray} {v : List Bool} {x25 x26 x27 x28 x29 x30 x31 x32 x33 x34 x12 x13 : Value} {r t : Nat} {W : World} {y : Value} (h : IN w p q X Y J U V more far v x25 x26 x27 x28 x29 x30 x31 x32 x33 x34 x12 x13 r t W) (hy : y = .string X.tl) : IN w p q X Y J U V more far (v.set 2 true) x25 x26 y x28 x29 x30 x31 x32 x33 x34 x12 x13 r t W :=
  ⟨h.s, fun e => h.h0 (by rw [gset (by decide)] at e; exact e), fun e => h.h1 (by rw [gset (by decide)] at e; exact e), fun _ => hy, fun e => h.h3 (by rw [gset (by decide)] at e; exact e), fun e => h.h4 (by rw [gset (by decide)] at e; exact e), fun e => h.h5 (by rw [gset (by decide)] at e; exact e), fun e => h.h6 (by rw [gset (by decide)] at e; exact e), fun e => h.h7 (by rw [gset (by decide)] at e; exact e), fun e => h.h8 (by rw [gset (by decide)] at e; exact e), fun e => h.h9 (by rw [gset (by decide)] at e; exact e), fun e => (by have := h.h10 (by rw [gset (by decide)] at e; exact e); rw [gset (i := 2) (j := 12) (by decide)]; exact this), fun e => (by have := h.h11 (by rw [gset (by decide)] at e; exact e); rw [gset (i := 2) (j := 13) (by decide)]; exact this), fun e e' => h.ne (by rw [gset (by decide)] at e; exact e) (by rw [gset (by decide)] at e'; exact e'), fun e => (by rw [gset (by decide)] at e ⊢; exact h.c12 e), fun e => (by rw [gset (by decide)] at e ⊢; exact h.c13 e)⟩
theorem IN.set3 {w : World} {p q : Nat} {X Y J U V : Sum} {more far : ByteArray} {v : List Bool} {x25 x26 x27 x28 x29 x30 x31 x32 x33 x34 x12 x13 : Value} {r t : Nat} {W : World} {y : Value} (h : IN w p q X Y J U V more far v x25 x26 x27 x28 x29 x30 x31 x32 x33 x34 x12 x13 r t W) (hy : y = .string (more ++ X.tl)) : IN w p q X Y J U V more far (v.set 3 true) x25 x26 x27 y x29 x30 x31 x32 x33 x34 x12 x13 r t W :=
  ⟨h.s, fun e => h.h0 (by rw [gset (by decide)] at e; exact e), fun e => h.h1 (by rw [gset (by decide)] at e; exact e), fun e => h.h2 (by rw [gset (by decide)] at e; exact e), fun _ => hy, fun e => h.h4 (by rw [gset (by decide)] at e; exact e), fun e => h.h5 (by rw [gset (by decide)] at e; exact e), fun e => h.h6 (by rw [gset (by decide)] at e; exact e), fun e => h.h7 (by rw [gset (by decide)] at e; exact e), fun e => h.h8 (by rw [gset (by decide)] at e; exact e), fun e => h.h9 (by rw [gset (by decide)] at e; exact e), fun e => (by have := h.h10 (by rw [gset (by decide)] at e; exact e); rw [gset (i := 3) (j := 12) (by decide)]; exact this), fun e => (by have := h.h11 (by rw [gset (by decide)] at e; exact e); rw [gset (i := 3) (j := 13) (by decide)]; exact this), fun e e' => h.ne (by rw [gset (by decide)] at e; exact e) (by rw [gset (by decide)] at e'; exact e'), fun e => (by rw [gset (by decide)] at e ⊢; exact h.c12 e), fun e => (by rw [gset (by decide)] at e ⊢; exact h.c13 e)⟩
theorem IN.set4 {w : World} {p q : Nat} {X Y J U V : Sum} {more far : ByteArray} {v : List Bool} {x25 x26 x27 x28 x29 x30 x31 x32 x33 x34 x12 x13 : Value} {r t : Nat} {W : World} {y : Value} (h : IN w p q X Y J U V more far v x25 x26 x27 x28 x29 x30 x31 x32 x33 x34 x12 x13 r t W) (hy : y = sv U) : IN w p q X Y J U V more far (v.set 4 true) x25 x26 x27 x28 y x30 x31 x32 x33 x34 x12 x13 r t W :=
  ⟨h.s, fun e => h.h0 (by rw [gset (by decide)] at e; exact e), fun e => h.h1 (by rw [gset (by decide)] at e; exact e), fun e => h.h2 (by rw [gset (by decide)] at e; exact e), fun e => h.h3 (by rw [gset (by decide)] at e; exact e), fun _ => hy, fun e => h.h5 (by rw [gset (by decide)] at e; exact e), fun e => h.h6 (by rw [gset (by decide)] at e; exact e), fun e => h.h7 (by rw [gset (by decide)] at e; exact e), fun e => h.h8 (by rw [gset (by decide)] at e; exact e), fun e => h.h9 (by rw [gset (by decide)] at e; exact e), fun e => (by have := h.h10 (by rw [gset (by decide)] at e; exact e); rw [gset (i := 4) (j := 12) (by decide)]; exact this), fun e => (by have := h.h11 (by rw [gset (by decide)] at e; exact e); rw [gset (i := 4) (j := 13) (by decide)]; exact this), fun e e' => h.ne (by rw [gset (by decide)] at e; exact e) (by rw [gset (by decide)] at e'; exact e'), fun e => (by rw [gset (by decide)] at e ⊢; exact h.c12 e), fun e => (by rw [gset (by decide)] at e ⊢; exact h.c13 e)⟩
theorem IN.set5 {w : World} {p q : Nat} {X Y J U V : Sum} {more far : ByteArray} {v : List Bool} {x25 x26 x27 x28 x29 x30 x31 x32 x33 x34 x12 x13 : Value} {r t : Nat} {W : World} {y : Value} (h : IN w p q X Y J U V more far v x25 x26 x27 x28 x29 x30 x31 x32 x33 x34 x12 x13 r t W) (hy : y = .pointer (some ⟨p + 1, 5, none⟩)) : IN w p q X Y J U V more far (v.set 5 true) x25 x26 x27 x28 x29 y x31 x32 x33 x34 x12 x13 r t W :=
  ⟨h.s, fun e => h.h0 (by rw [gset (by decide)] at e; exact e), fun e => h.h1 (by rw [gset (by decide)] at e; exact e), fun e => h.h2 (by rw [gset (by decide)] at e; exact e), fun e => h.h3 (by rw [gset (by decide)] at e; exact e), fun e => h.h4 (by rw [gset (by decide)] at e; exact e), fun _ => hy, fun e => h.h6 (by rw [gset (by decide)] at e; exact e), fun e => h.h7 (by rw [gset (by decide)] at e; exact e), fun e => h.h8 (by rw [gset (by decide)] at e; exact e), fun e => h.h9 (by rw [gset (by decide)] at e; exact e), fun e => (by have := h.h10 (by rw [gset (by decide)] at e; exact e); rw [gset (i := 5) (j := 12) (by decide)]; exact this), fun e => (by have := h.h11 (by rw [gset (by decide)] at e; exact e); rw [gset (i := 5) (j := 13) (by decide)]; exact this), fun e e' => h.ne (by rw [gset (by decide)] at e; exact e) (by rw [gset (by decide)] at e'; exact e'), fun e => (by rw [gset (by decide)] at e ⊢; exact h.c12 e), fun e => (by rw [gset (by decide)] at e ⊢; exact h.c13 e)⟩
theorem IN.set6 {w : World} {p q : Nat} {X Y J U V : Sum} {more far : ByteArray} {v : List Bool} {x25 x26 x27 x28 x29 x30 x31 x32 x33 x34 x12 x13 : Value} {r t : Nat} {W : World} {y : Value} (h : IN w p q X Y J U V more far v x25 x26 x27 x28 x29 x30 x31 x32 x33 x34 x12 x13 r t W) (hy : y = .string Y.hd) : IN w p q X Y J U V more far (v.set 6 true) x25 x26 x27 x28 x29 x30 y x32 x33 x34 x12 x13 r t W :=
  ⟨h.s, fun e => h.h0 (by rw [gset (by decide)] at e; exact e), fun e => h.h1 (by rw [gset (by decide)] at e; exact e), fun e => h.h2 (by rw [gset (by decide)] at e; exact e), fun e => h.h3 (by rw [gset (by decide)] at e; exact e), fun e => h.h4 (by rw [gset (by decide)] at e; exact e), fun e => h.h5 (by rw [gset (by decide)] at e; exact e), fun _ => hy, fun e => h.h7 (by rw [gset (by decide)] at e; exact e), fun e => h.h8 (by rw [gset (by decide)] at e; exact e), fun e => h.h9 (by rw [gset (by decide)] at e; exact e), fun e => (by have := h.h10 (by rw [gset (by decide)] at e; exact e); rw [gset (i := 6) (j := 12) (by decide)]; exact this), fun e => (by have := h.h11 (by rw [gset (by decide)] at e; exact e); rw [gset (i := 6) (j := 13) (by decide)]; exact this), fun e e' => h.ne (by rw [gset (by decide)] at e; exact e) (by rw [gset (by decide)] at e'; exact e'), fun e => (by rw [gset (by decide)] at e ⊢; exact h.c12 e), fun e => (by rw [gset (by decide)] at e ⊢; exact h.c13 e)⟩
theorem IN.set7 {w : World} {p q : Nat} {X Y J U V : Sum} {more far : ByteArray} {v : List Bool} {x25 x26 x27 x28 x29 x30 x31 x32 x33 x34 x12 x13 : Value} {r t : Nat} {W : World} {y : Value} (h : IN w p q X Y J U V more far v x25 x26 x27 x28 x29 x30 x31 x32 x33 x34 x12 x13 r t W) (hy : y = .string far) : IN w p q X Y J U V more far (v.set 7 true) x25 x26 x27 x28 x29 x30 x31 y x33 x34 x12 x13 r t W :=
  ⟨h.s, fun e => h.h0 (by rw [gset (by decide)] at e; exact e), fun e => h.h1 (by rw [gset (by decide)] at e; exact e), fun e => h.h2 (by rw [gset (by decide)] at e; exact e), fun e => h.h3 (by rw [gset (by decide)] at e; exact e), fun e => h.h4 (by rw [gset (by decide)] at e; exact e), fun e => h.h5 (by rw [gset (by decide)] at e; exact e), fun e => h.h6 (by rw [gset (by decide)] at e; exact e), fun _ => hy, fun e => h.h8 (by rw [gset (by decide)] at e; exact e), fun e => h.h9 (by rw [gset (by decide)] at e; exact e), fun e => (by have := h.h10 (by rw [gset (by decide)] at e; exact e); rw [gset (i := 7) (j := 12) (by decide)]; exact this), fun e => (by have := h.h11 (by rw [gset (by decide)] at e; exact e); rw [gset (i := 7) (j := 13) (by decide)]; exact this), fun e e' => h.ne (by rw [gset (by decide)] at e; exact e) (by rw [gset (by decide)] at e'; exact e'), fun e => (by rw [gset (by decide)] at e ⊢; exact h.c12 e), fun e => (by rw [gset (by decide)] at e ⊢; exact h.c13 e)⟩
theorem IN.set8 {w : World} {p q : Nat} {X Y J U V : Sum} {more far : ByteArray} {v : List Bool} {x25 x26 x27 x28 x29 x30 x31 x32 x33 x34 x12 x13 : Value} {r t : Nat} {W : World} {y : Value} (h : IN w p q X Y J U V more far v x25 x26 x27 x28 x29 x30 x31 x32 x33 x34 x12 x13 r t W) (hy : y = .string (Y.hd ++ far)) : IN w p q X Y J U V more far (v.set 8 true) x25 x26 x27 x28 x29 x30 x31 x32 y x34 x12 x13 r t W :=
  ⟨h.s, fun e => h.h0 (by rw [gset (by decide)] at e; exact e), fun e => h.h1 (by rw [gset (by decide)] at e; exact e), fun e => h.h2 (by rw [gset (by decide)] at e; exact e), fun e => h.h3 (by rw [gset (by decide)] at e; exact e), fun e => h.h4 (by rw [gset (by decide)] at e; exact e), fun e => h.h5 (by rw [gset (by decide)] at e; exact e), fun e => h.h6 (by rw [gset (by decide)] at e; exact e), fun e => h.h7 (by rw [gset (by decide)] at e; exact e), fun _ => hy, fun e => h.h9 (by rw [gset (by decide)] at e; exact e), fun e => (by have := h.h10 (by rw [gset (by decide)] at e; exact e); rw [gset (i := 8) (j := 12) (by decide)]; exact this), fun e => (by have := h.h11 (by rw [gset (by decide)] at e; exact e); rw [gset (i := 8) (j := 13) (by decide)]; exact this), fun e e' => h.ne (by rw [gset (by decide)] at e; exact e) (by rw [gset (by decide)] at e'; exact e'), fun e => (by rw [gset (by decide)] at e ⊢; exact h.c12 e), fun e => (by rw [gset (by decide)] at e ⊢; exact h.c13 e)⟩
theorem IN.set9 {w : World} {p q : Nat} {X Y J U V : Sum} {more far : ByteArray} {v : List Bool} {x25 x26 x27 x28 x29 x30 x31 x32 x33 x34 x12 x13 : Value} {r t : Nat} {W : World} {y : Value} (h : IN w p q X Y J U V more far v x25 x26 x27 x28 x29 x30 x31 x32 x33 x34 x12 x13 r t W) (hy : y = sv V) : IN w p q X Y J U V more far (v.set 9 true) x25 x26 x27 x28 x29 x30 x31 x32 x33 y x12 x13 r t W :=
  ⟨h.s, fun e => h.h0 (by rw [gset (by decide)] at e; exact e), fun e => h.h1 (by rw [gset (by decide)] at e; exact e), fun e => h.h2 (by rw [gset (by decide)] at e; exact e), fun e => h.h3 (by rw [gset (by decide)] at e; exact e), fun e => h.h4 (by rw [gset (by decide)] at e; exact e), fun e => h.h5 (by rw [gset (by decide)] at e; exact e), fun e => h.h6 (by rw [gset (by decide)] at e; exact e), fun e => h.h7 (by rw [gset (by decide)] at e; exact e), fun e => h.h8 (by rw [gset (by decide)] at e; exact e), fun _ => hy, fun e => (by have := h.h10 (by rw [gset (by decide)] at e; exact e); rw [gset (i := 9) (j := 12) (by decide)]; exact this), fun e => (by have := h.h11 (by rw [gset (by decide)] at e; exact e); rw [gset (i := 9) (j := 13) (by decide)]; exact this), fun e e' => h.ne (by rw [gset (by decide)] at e; exact e) (by rw [gset (by decide)] at e'; exact e'), fun e => (by rw [gset (by decide)] at e ⊢; exact h.c12 e), fun e => (by rw [gset (by decide)] at e ⊢; exact h.c13 e)⟩
theorem IN.set10 {w : World} {p q : Nat} {X Y J U V : Sum} {more far : ByteArray} {v : List Bool} {x25 x26 x27 x28 x29 x30 x31 x32 x33 x34 x12 x13 : Value} {r t : Nat} {W : World} (h : IN w p q X Y J U V more far v x25 x26 x27 x28 x29 x30 x31 x32 x33 x34 x12 x13 r t W) (hn : v.getD 10 false = false) : IN w p q X Y J U V more far (v.set 10 true) x25 x26 x27 x28 x29 x30 x31 x32 x33 x34 (.pointer (some ⟨W.heap.size, 0, none⟩)) x13 W.heap.size t (W.alloc (.cells (scs sm0) 24)) := by
  have hb : Below W.heap.size W (W.alloc (.cells (scs sm0) 24)) := (Below.refl _ W).alloc (Nat.le_refl _) _
  have hc : v.getD 12 false = false := by
    cases e : v.getD 12 false with
    | false => rfl
    | true => have := h.c12 e; rw [hn] at this; cases this
  have q1 := (Array.getElem?_eq_some_iff.1 h.s.s.x).1
  have q2 := (Array.getElem?_eq_some_iff.1 h.s.s.y).1
  have q3 := (Array.getElem?_eq_some_iff.1 h.s.j).1
  exact ⟨h.s.below hb, fun e => h.h0 (by rw [gset (by decide)] at e; exact e), fun e => h.h1 (by rw [gset (by decide)] at e; exact e), fun e => h.h2 (by rw [gset (by decide)] at e; exact e), fun e => h.h3 (by rw [gset (by decide)] at e; exact e), fun e => h.h4 (by rw [gset (by decide)] at e; exact e), fun e => h.h5 (by rw [gset (by decide)] at e; exact e), fun e => h.h6 (by rw [gset (by decide)] at e; exact e), fun e => h.h7 (by rw [gset (by decide)] at e; exact e), fun e => h.h8 (by rw [gset (by decide)] at e; exact e), fun e => h.h9 (by rw [gset (by decide)] at e; exact e), fun _ => ⟨rfl, by rw [gset (i := 10) (j := 12) (by decide), if_neg (by rw [hc]; simp)]; exact ⟨World.alloc_heap_new W _, by omega, by omega, by omega, h.s.s.bel.size⟩⟩, fun e => (by have := h.h11 (by rw [gset (by decide)] at e; exact e); rw [gset (i := 10) (j := 13) (by decide)]; exact ⟨this.1, this.2.below hb⟩), fun _ e => (by have := (Array.getElem?_eq_some_iff.1 (h.h11 (by rw [gset (by decide)] at e; exact e)).2.1).1; omega), fun e => (by rw [gset (by decide)] at e; exact absurd (h.c12 e) (by rw [hn]; simp)), fun e => (by rw [gset (by decide)] at e ⊢; exact h.c13 e)⟩
theorem IN.set11 {w : World} {p q : Nat} {X Y J U V : Sum} {more far : ByteArray} {v : List Bool} {x25 x26 x27 x28 x29 x30 x31 x32 x33 x34 x12 x13 : Value} {r t : Nat} {W : World} (h : IN w p q X Y J U V more far v x25 x26 x27 x28 x29 x30 x31 x32 x33 x34 x12 x13 r t W) (hn : v.getD 11 false = false) : IN w p q X Y J U V more far (v.set 11 true) x25 x26 x27 x28 x29 x30 x31 x32 x33 x34 x12 (.pointer (some ⟨W.heap.size, 0, none⟩)) r W.heap.size (W.alloc (.cells (scs sm0) 24)) := by
  have hb : Below W.heap.size W (W.alloc (.cells (scs sm0) 24)) := (Below.refl _ W).alloc (Nat.le_refl _) _
  have hc : v.getD 13 false = false := by
    cases e : v.getD 13 false with
    | false => rfl
    | true => have := h.c13 e; rw [hn] at this; cases this
  have q1 := (Array.getElem?_eq_some_iff.1 h.s.s.x).1
  have q2 := (Array.getElem?_eq_some_iff.1 h.s.s.y).1
  have q3 := (Array.getElem?_eq_some_iff.1 h.s.j).1
  exact ⟨h.s.below hb, fun e => h.h0 (by rw [gset (by decide)] at e; exact e), fun e => h.h1 (by rw [gset (by decide)] at e; exact e), fun e => h.h2 (by rw [gset (by decide)] at e; exact e), fun e => h.h3 (by rw [gset (by decide)] at e; exact e), fun e => h.h4 (by rw [gset (by decide)] at e; exact e), fun e => h.h5 (by rw [gset (by decide)] at e; exact e), fun e => h.h6 (by rw [gset (by decide)] at e; exact e), fun e => h.h7 (by rw [gset (by decide)] at e; exact e), fun e => h.h8 (by rw [gset (by decide)] at e; exact e), fun e => h.h9 (by rw [gset (by decide)] at e; exact e), fun e => (by have := h.h10 (by rw [gset (by decide)] at e; exact e); rw [gset (i := 11) (j := 12) (by decide)]; exact ⟨this.1, this.2.below hb⟩), fun _ => ⟨rfl, by rw [gset (i := 11) (j := 13) (by decide), if_neg (by rw [hc]; simp)]; exact ⟨World.alloc_heap_new W _, by omega, by omega, by omega, h.s.s.bel.size⟩⟩, fun e _ => (by have := (Array.getElem?_eq_some_iff.1 (h.h10 (by rw [gset (by decide)] at e; exact e)).2.1).1; omega), fun e => (by rw [gset (by decide)] at e ⊢; exact h.c12 e), fun e => (by rw [gset (by decide)] at e; exact absurd (h.c13 e) (by rw [hn]; simp))⟩
theorem IN.set12 {w : World} {p q : Nat} {X Y J U V : Sum} {more far : ByteArray} {v : List Bool} {x25 x26 x27 x28 x29 x30 x31 x32 x33 x34 x12 x13 : Value} {r t : Nat} {W : World} (h : IN w p q X Y J U V more far v x25 x26 x27 x28 x29 x30 x31 x32 x33 x34 x12 x13 r t W) (hd' : v.getD 10 false = true) (hl : 12 < v.length) : IN w p q X Y J U V more far (v.set 12 true) x25 x26 x27 x28 x29 x30 x31 x32 x33 x34 x12 x13 r t (((((((W.setCell ⟨r, 0, none⟩ (.int .i64 U.by')).setCell ⟨r, 1, none⟩ (.int .i64 U.un)).setCell ⟨r, 2, none⟩ (.int .i64 U.cl)).setCell ⟨r, 3, none⟩ (.int .i64 U.ce)).setCell ⟨r, 4, none⟩ (.int .i64 U.nl)).setCell ⟨r, 5, none⟩ (.string U.hd)).setCell ⟨r, 6, none⟩ (.string U.tl)) := by
  have g := set7_grown W r (.int .i64 U.by') (.int .i64 U.un) (.int .i64 U.cl) (.int .i64 U.ce) (.int .i64 U.nl) (.string U.hd) (.string U.tl)
  obtain ⟨-, bx⟩ := h.h10 hd'
  have kp : ∀ {i : Nat} {o : Obj}, i ≠ r → W.heap[i]? = some o → _ := fun hi ho => (g.block _ (Array.getElem?_eq_some_iff.1 ho).1 (fun e => hi (Option.some.inj e))).trans ho
  exact ⟨⟨⟨kp (fun e => bx.2.1 e.symm) h.s.s.x, kp (fun e => bx.2.2.1 e.symm) h.s.s.y, set7_at h.s.s.bel bx.2.2.2.2 _ _ _ _ _ _ _⟩, kp (fun e => bx.2.2.2.1 e.symm) h.s.j⟩, fun e => h.h0 (by rw [gset (by decide)] at e; exact e), fun e => h.h1 (by rw [gset (by decide)] at e; exact e), fun e => h.h2 (by rw [gset (by decide)] at e; exact e), fun e => h.h3 (by rw [gset (by decide)] at e; exact e), fun e => h.h4 (by rw [gset (by decide)] at e; exact e), fun e => h.h5 (by rw [gset (by decide)] at e; exact e), fun e => h.h6 (by rw [gset (by decide)] at e; exact e), fun e => h.h7 (by rw [gset (by decide)] at e; exact e), fun e => h.h8 (by rw [gset (by decide)] at e; exact e), fun e => h.h9 (by rw [gset (by decide)] at e; exact e), fun e => ⟨(h.h10 hd').1, by rw [if_pos (by rw [List.getD_eq_getElem?_getD, List.getElem?_set, if_pos rfl, if_pos hl]; rfl)]; exact ⟨set7_box bx.1 _ _ _ _ _ _ _, bx.2⟩⟩, fun e => (by have e' : v.getD 11 false = true := (by rw [gset (by decide)] at e; exact e); have := h.h11 e'; rw [gset (i := 12) (j := 13) (by decide)]; exact ⟨this.1, kp (fun e3 => h.ne hd' e' e3.symm) this.2.1, this.2.2⟩), fun e e' => h.ne (by rw [gset (by decide)] at e; exact e) (by rw [gset (by decide)] at e'; exact e'), fun _ => (by rw [gset (by decide)]; exact hd'), fun e => (by rw [gset (by decide)] at e ⊢; exact h.c13 e)⟩
theorem IN.set13 {w : World} {p q : Nat} {X Y J U V : Sum} {more far : ByteArray} {v : List Bool} {x25 x26 x27 x28 x29 x30 x31 x32 x33 x34 x12 x13 : Value} {r t : Nat} {W : World} (h : IN w p q X Y J U V more far v x25 x26 x27 x28 x29 x30 x31 x32 x33 x34 x12 x13 r t W) (hd' : v.getD 11 false = true) (hl : 13 < v.length) : IN w p q X Y J U V more far (v.set 13 true) x25 x26 x27 x28 x29 x30 x31 x32 x33 x34 x12 x13 r t (((((((W.setCell ⟨t, 0, none⟩ (.int .i64 V.by')).setCell ⟨t, 1, none⟩ (.int .i64 V.un)).setCell ⟨t, 2, none⟩ (.int .i64 V.cl)).setCell ⟨t, 3, none⟩ (.int .i64 V.ce)).setCell ⟨t, 4, none⟩ (.int .i64 V.nl)).setCell ⟨t, 5, none⟩ (.string V.hd)).setCell ⟨t, 6, none⟩ (.string V.tl)) := by
  have g := set7_grown W t (.int .i64 V.by') (.int .i64 V.un) (.int .i64 V.cl) (.int .i64 V.ce) (.int .i64 V.nl) (.string V.hd) (.string V.tl)
  obtain ⟨-, bx⟩ := h.h11 hd'
  have kp : ∀ {i : Nat} {o : Obj}, i ≠ t → W.heap[i]? = some o → _ := fun hi ho => (g.block _ (Array.getElem?_eq_some_iff.1 ho).1 (fun e => hi (Option.some.inj e))).trans ho
  exact ⟨⟨⟨kp (fun e => bx.2.1 e.symm) h.s.s.x, kp (fun e => bx.2.2.1 e.symm) h.s.s.y, set7_at h.s.s.bel bx.2.2.2.2 _ _ _ _ _ _ _⟩, kp (fun e => bx.2.2.2.1 e.symm) h.s.j⟩, fun e => h.h0 (by rw [gset (by decide)] at e; exact e), fun e => h.h1 (by rw [gset (by decide)] at e; exact e), fun e => h.h2 (by rw [gset (by decide)] at e; exact e), fun e => h.h3 (by rw [gset (by decide)] at e; exact e), fun e => h.h4 (by rw [gset (by decide)] at e; exact e), fun e => h.h5 (by rw [gset (by decide)] at e; exact e), fun e => h.h6 (by rw [gset (by decide)] at e; exact e), fun e => h.h7 (by rw [gset (by decide)] at e; exact e), fun e => h.h8 (by rw [gset (by decide)] at e; exact e), fun e => h.h9 (by rw [gset (by decide)] at e; exact e), fun e => (by have e' : v.getD 10 false = true := (by rw [gset (by decide)] at e; exact e); have := h.h10 e'; rw [gset (i := 13) (j := 12) (by decide)]; exact ⟨this.1, kp (fun e3 => (h.ne e' hd') e3) this.2.1, this.2.2⟩), fun e => ⟨(h.h11 hd').1, by rw [if_pos (by rw [List.getD_eq_getElem?_getD, List.getElem?_set, if_pos rfl, if_pos hl]; rfl)]; exact ⟨set7_box bx.1 _ _ _ _ _ _ _, bx.2⟩⟩, fun e e' => h.ne (by rw [gset (by decide)] at e; exact e) (by rw [gset (by decide)] at e'; exact e'), fun e => (by rw [gset (by decide)] at e ⊢; exact h.c12 e), fun _ => (by rw [gset (by decide)]; exact hd')⟩
theorem IN.fin {w : World} {p q : Nat} {X Y J U V : Sum} {more far : ByteArray} {v : List Bool} {x25 x26 x27 x28 x29 x30 x31 x32 x33 x34 x12 x13 : Value} {r t : Nat} {W : World} (h : IN w p q X Y J U V more far v x25 x26 x27 x28 x29 x30 x31 x32 x33 x34 x12 x13 r t W) (hv : v.length = 14) (ha : v.all id = true) : (x12 = .pointer (some ⟨r, 0, none⟩) ∧ x13 = .pointer (some ⟨t, 0, none⟩)) ∧ SG w p q X Y J [(r, U), (t, V)] W := by
  have d : ∀ i, i < 14 → v.getD i false = true := fun i hi => of_all ha (by omega)
  obtain ⟨a1, a2⟩ := h.h10 (d 10 (by omega))
  obtain ⟨b1, b2⟩ := h.h11 (d 11 (by omega))
  rw [if_pos (d 12 (by omega))] at a2
  rw [if_pos (d 13 (by omega))] at b2
  have hne := h.ne (d 10 (by omega)) (d 11 (by omega))
  refine ⟨⟨a1, b1⟩, h.s, fun e he => ?_, by simp [hne]⟩
  simp at he
  rcases he with rfl | rfl
  · exact a2
  · exact b2
/-- two summaries of texts as a new block's cells -/
theorem rds2 {W : World} {g : Nat} {a b : ByteArray} (h : W.heap[g]? = some (.cells #[.int .i64 (smr a).by', .int .i64 (smr a).un, .int .i64 (smr a).cl, .int .i64 (smr a).ce, .int .i64 (smr a).nl, .string (smr a).hd, .string (smr a).tl, .int .i64 (smr b).by', .int .i64 (smr b).un, .int .i64 (smr b).cl, .int .i64 (smr b).ce, .int .i64 (smr b).nl, .string (smr b).hd, .string (smr b).tl] 24 (0, 0))) : RdS W (.slice (some ⟨g, 0, none⟩) 2 2) [a, b] := rds_block rfl h rfl

set_option maxRecDepth 100000 in
set_option maxHeartbeats 8000000 in
theorem walk (a b more far : ByteArray) (hs : a.size + b.size + more.size + far.size ≤ 562949953421312) (w : World) (hT : Lib.Utf8Tabs 1 2 w) (hlo0 : 1 < w.heap.size) (hlo1 : 2 < w.heap.size) :
    Calls Tryd.prog 3 #[.string a, .string b, .string more, .string far] w fun e w' => e = .returned (.bool true) ∧ Below w.heap.size w w' := by
  have cC := counts_any w hT hlo0 hlo1
  have TT : ∀ W, Below w.heap.size w W → Lib.Utf8Tabs 1 2 W ∧ 1 < W.heap.size ∧ 2 < W.heap.size := fun W hb => ⟨tabs_below hT hb, Nat.lt_of_lt_of_le hlo0 hb.size, Nat.lt_of_lt_of_le hlo1 hb.size⟩
  have CM : ∀ s, s.size ≤ 562949953421344 → ∀ W, Below w.heap.size w W → Calls Tryd.prog 6 #[.string s] W fun e W' => e = .returned (sv (smr s)) ∧ Below W.heap.size W W' := fun s hz W hb => by
    obtain ⟨t1, t2, t3⟩ := TT W hb
    exact measure_any s (by omega) W t1 t2 t3
  have CJ : ∀ s t, s.size + t.size ≤ 2251799813685248 → ∀ W (g : Nat), W.heap[g]? = some (.cells #[.int .i64 (smr s).by', .int .i64 (smr s).un, .int .i64 (smr s).cl, .int .i64 (smr s).ce, .int .i64 (smr s).nl, .string (smr s).hd, .string (smr s).tl, .int .i64 (smr t).by', .int .i64 (smr t).un, .int .i64 (smr t).cl, .int .i64 (smr t).ce, .int .i64 (smr t).nl, .string (smr t).hd, .string (smr t).tl] 24 (0, 0)) → Below w.heap.size w W →
      Calls Tryd.prog 7 #[.slice (some ⟨g, 0, none⟩) 2 2] W fun e W' => e = .returned (sv (smr (s ++ t))) ∧ Below W.heap.size W W' := fun s t hz W g hg hb => by
    obtain ⟨t1, t2, t3⟩ := TT W hb
    have e : cat [s, t] = s ++ t := by simp [cat]
    rw [← e]
    exact mjoin_any [s, t] _ W (rds2 hg) (by rw [e, size_app]; omega) (by simp) t1 t2 t3
  have za := tl_size a
  have zb := hd_size b
  have zm : (more ++ tl a).size ≤ 562949953421328 := by rw [size_app]; omega
  have zf : (hd b ++ far).size ≤ 562949953421328 := by rw [size_app]; omega
  have CX := CM a (by omega)
  have CY := CM b (by omega)
  have CU := CM (more ++ tl a) (by omega)
  have CV := CM (hd b ++ far) (by omega)
  have JXY := CJ a b (by omega)
  have sX := smr_smallB (s := a) (by omega)
  have sY := smr_smallB (s := b) (by omega)
  have sJ := smr_smallB (s := a ++ b) (by rw [size_app]; omega)
  -- the texts that u and v are of
  have FIN : ∀ s t, s.size + t.size ≤ 2251799813685248 → tl s = tl a → hd t = hd b → ∃ K : Sum, Small (smr s) ∧ Small (smr t) ∧ Small K ∧ ((smr (a ++ b)).un - (smr a).un - (smr b).un = K.un - (smr s).un - (smr t).un ∧ (smr (a ++ b)).cl - (smr a).cl - (smr b).cl = K.cl - (smr s).cl - (smr t).cl ∧ (smr (a ++ b)).ce - (smr a).ce - (smr b).ce = K.ce - (smr s).ce - (smr t).ce) ∧
      ∀ W (g : Nat), W.heap[g]? = some (.cells #[.int .i64 (smr s).by', .int .i64 (smr s).un, .int .i64 (smr s).cl, .int .i64 (smr s).ce, .int .i64 (smr s).nl, .string (smr s).hd, .string (smr s).tl, .int .i64 (smr t).by', .int .i64 (smr t).un, .int .i64 (smr t).cl, .int .i64 (smr t).ce, .int .i64 (smr t).nl, .string (smr t).hd, .string (smr t).tl] 24 (0, 0)) → Below w.heap.size w W →
      Calls Tryd.prog 7 #[.slice (some ⟨g, 0, none⟩) 2 2] W fun e W' => e = .returned (sv K) ∧ Below W.heap.size W W' := fun s t hz h1 h2 =>
    ⟨smr (s ++ t), smr_smallB (by omega), smr_smallB (by omega), smr_smallB (by rw [size_app]; omega), ⟨seam_same kU h1 h2, seam_same kC h1 h2, seam_same kN h1 h2⟩, CJ s t hz⟩
  have F00 : 16 ≤ a.size → 16 ≤ b.size → _ := fun h1 h2 => FIN (more ++ tl a) (hd b ++ far) (by omega) (tl_more _ _ h1) (hd_far _ _ h2)
  have F01 : 16 ≤ a.size → _ := fun h1 => FIN (more ++ tl a) b (by omega) (tl_more _ _ h1) rfl
  have F10 : 16 ≤ b.size → _ := fun h2 => FIN a (hd b ++ far) (by omega) rfl (hd_far _ _ h2)
  have F11 := FIN a b (by omega) rfl rfl
  have eT : (smr a).tl = tl a := rfl
  have eH : (smr b).hd = hd b := rfl
  rw [← eT] at CU F00 F01 za
  rw [← eH] at CV F00 F10 zb
  clear FIN CM CJ TT hT hlo0 hlo1 eT eH zm zf
  generalize hU0 : smr (more ++ (smr a).tl) = U0 at CU F00 F01
  generalize hV0 : smr ((smr b).hd ++ far) = V0 at CV F00 F10
  generalize hJ0 : smr (a ++ b) = J at JXY F00 F01 F10 F11 sJ
  generalize hX0 : smr a = X at CX CU JXY F00 F01 F10 F11 sX za
  generalize hY0 : smr b = Y at CY CV JXY F00 F01 F10 F11 sY zb
  clear hU0 hV0 hJ0 hX0 hY0
  have c1 : Hid _ := CX
  have c2 : Hid _ := CY
  have c3 : Hid _ := CU
  have c4 : Hid _ := CV
  have cJ : Hid _ := JXY
  clear CX CY CU CV JXY
  have MAIN : ∀ (U V : Sum), (U = if a.size < 16 then X else U0) → (V = if b.size < 16 then Y else V0) → (∃ K : Sum, Small U ∧ Small V ∧ Small K ∧ (J.un - X.un - Y.un = K.un - U.un - V.un ∧ J.cl - X.cl - Y.cl = K.cl - U.cl - V.cl ∧ J.ce - X.ce - Y.ce = K.ce - U.ce - V.ce) ∧
      ∀ W (g : Nat), W.heap[g]? = some (.cells #[.int .i64 U.by', .int .i64 U.un, .int .i64 U.cl, .int .i64 U.ce, .int .i64 U.nl, .string U.hd, .string U.tl, .int .i64 V.by', .int .i64 V.un, .int .i64 V.cl, .int .i64 V.ce, .int .i64 V.nl, .string V.hd, .string V.tl] 24 (0, 0)) → Below w.heap.size w W →
      Calls Tryd.prog 7 #[.slice (some ⟨g, 0, none⟩) 2 2] W fun e W' => e = .returned (sv K) ∧ Below W.heap.size W W') → Calls Tryd.prog 3 #[.string a, .string b, .string more, .string far] w fun e w' => e = .returned (.bool true) ∧ Below w.heap.size w w' := by
    intro U V hU hV hF
    obtain ⟨K, sU, sV, sK, ⟨eq1, eq2, eq3⟩, CK⟩ := hF
    have cK : Hid _ := CK
    clear CK F00 F01 F10 F11
    have zt : X.tl.size ≤ 16 := by omega
    have zh : Y.hd.size ≤ 16 := by omega
    have hMa : more.size ≤ 562949953421312 := by omega
    have hFa : far.size ≤ 562949953421312 := by omega
    have s1 : ¬ 9223372036854775807 < more.size + X.tl.size := by omega
    have s2 : ¬ 9223372036854775807 < Y.hd.size + far.size := by omega
    clear za zb hs
    go_enter Tryd.func3, Tryd.ntmps3
    go_upto_region 5 with (first | (go_at_call 5; refine cC.mono ?_; clear cC; rintro e w1 ⟨rfl, hb1⟩; have HB : Hid (Below w.heap.size w w1) := hb1; clear hb1) | (go_at_call 6; refine (c1.out _ HB.out).mono ?_; clear c1; rintro e w2 ⟨rfl, hb2⟩; have HB2 : Hid (Below w.heap.size w w2) := HB.out.trans (hb2.mono HB.out.size); clear hb2 HB) | (go_at_call 6; refine (c2.out _ HB2.out).mono ?_; clear c2; rintro e w3 ⟨rfl, hb3⟩; have HB3 : Hid (Below w.heap.size w w3) := HB2.out.trans (hb3.mono HB2.out.size); clear hb3 HB2; obtain ⟨W3, hW3⟩ : ∃ W3, (w3.alloc (.cells #[.int .i64 X.by', .int .i64 X.un, .int .i64 X.cl, .int .i64 X.ce, .int .i64 X.nl, .string X.hd, .string X.tl] 24)).alloc (.cells #[.int .i64 Y.by', .int .i64 Y.un, .int .i64 Y.cl, .int .i64 Y.ce, .int .i64 Y.nl, .string Y.hd, .string Y.tl] 24) = W3 := ⟨_, rfl⟩; have H2 : Hid (S2 w w3.heap.size X Y W3) := (by show S2 _ _ _ _ _; rw [← hW3]; exact S2.push HB3.out); clear HB3; obtain ⟨⟨x0, x1, x2, x3, x4, x5, x6⟩, -⟩ := box7 H2.out.x; obtain ⟨⟨y0, y1, y2, y3, y4, y5, y6⟩, -⟩ := box7 H2.out.y) | (go_at_call 7; refine (cJ.out _ _ (World.alloc_heap_new _ _) (H2.out.alloc _).bel).mono ?_; clear cJ x0 x1 x2 x3 x4 x5 x6 y0 y1 y2 y3 y4 y5 y6 hW3; rintro e w4 ⟨rfl, hb4⟩; obtain ⟨W4, hW4⟩ : ∃ W4, w4.alloc (.cells #[.int .i64 J.by', .int .i64 J.un, .int .i64 J.cl, .int .i64 J.ce, .int .i64 J.nl, .string J.hd, .string J.tl] 24) = W4 := ⟨_, rfl⟩; have H3 : Hid (S3 w w3.heap.size w4.heap.size X Y J W4) := (by show S3 _ _ _ _ _ _ _; rw [← hW4]; exact ⟨((H2.out.alloc _).below hb4).alloc _, World.alloc_heap_new w4 _⟩); clear hb4 H2))
    clear hW4
    go_cut [12, 13] (fun v12 v13 wx => ∃ r t, v12 = .pointer (some ⟨r, 0, none⟩) ∧ v13 = .pointer (some ⟨t, 0, none⟩) ∧ Hid (SG w w3.heap.size w4.heap.size X Y J [(r, U0), (t, V0)] wx))
    case first =>
      clear sX sY sJ sU sV sK eq1 eq2 eq3 cK hU hV hMa hFa zt zh
      refine act_name2 fun A hA => ?_
      refine region_inv (by kernel_rfl) (by kernel_rfl) (fun v a' w' => ∃ x25 x26 x27 x28 x29 x30 x31 x32 x33 x34 x12 x13 : Value, ∃ r t : Nat, a' = ⟨fr A.tmps x25 x26 x27 x28 x29 x30 x31 x32 x33 x34 x12 x13, []⟩ ∧ Hid (IN w w3.heap.size w4.heap.size X Y J U0 V0 more far v x25 x26 x27 x28 x29 x30 x31 x32 x33 x34 x12 x13 r t w')) ?start ?step ?fin
      case start =>
        refine ⟨undef, undef, undef, undef, undef, undef, undef, undef, undef, undef, undef, undef, 0, 0, ?_, IN.start H3.out.drew⟩
        subst hA
        simp [fr]
      case step =>
        intro i o v a' w' ho hv hni hop hI
        obtain ⟨x25, x26, x27, x28, x29, x30, x31, x32, x33, x34, x12, x13, r, t, rfl, HI⟩ := hI
        clear H3
        rcases i with _ | _ | _ | _ | _ | _ | _ | _ | _ | _ | _ | _ | _ | _ | i
        · obtain rfl := Option.some.inj ho
          subst hA
          simp only [fr, List.setIfInBounds_toArray, List.set_cons_succ, List.set_cons_zero]
          go_wp2
          exact ⟨_, x26, x27, x28, x29, x30, x31, x32, x33, x34, x12, x13, r, t, by simp, HI.out.set0 rfl⟩
        · obtain rfl := Option.some.inj ho
          subst hA
          simp only [fr, List.setIfInBounds_toArray, List.set_cons_succ, List.set_cons_zero]
          go_wp2
          exact ⟨x25, _, x27, x28, x29, x30, x31, x32, x33, x34, x12, x13, r, t, by simp, HI.out.set1 rfl⟩
        · obtain rfl := Option.some.inj ho
          obtain rfl := HI.out.h1 (open_waits hop (by kernel_rfl))
          obtain ⟨c5, -⟩ := HI.out.s.ends
          subst hA
          simp only [fr, List.setIfInBounds_toArray, List.set_cons_succ, List.set_cons_zero]
          go_wp2
          exact ⟨x25, _, _, x28, x29, x30, x31, x32, x33, x34, x12, x13, r, t, by simp, HI.out.set2 rfl⟩
        · obtain rfl := Option.some.inj ho
          obtain rfl := HI.out.h0 (open_waits hop (by kernel_rfl))
          obtain rfl := HI.out.h2 (open_waits hop (by kernel_rfl))
          subst hA
          simp only [fr, List.setIfInBounds_toArray, List.set_cons_succ, List.set_cons_zero]
          go_wp2
          exact ⟨_, x26, _, _, x29, x30, x31, x32, x33, x34, x12, x13, r, t, by simp, HI.out.set3 rfl⟩
        · obtain rfl := Option.some.inj ho
          obtain rfl := HI.out.h3 (open_waits hop (by kernel_rfl))
          subst hA
          simp only [fr, List.setIfInBounds_toArray, List.set_cons_succ, List.set_cons_zero]
          go_wp2_with (go_at_call 6; refine (c3.out _ HI.out.s.s.bel).mono ?_; rintro e w5 ⟨rfl, hb5⟩)
          exact ⟨x25, x26, x27, _, _, x30, x31, x32, x33, x34, x12, x13, r, t, by simp, (HI.out.below hb5).set4 rfl⟩
        · obtain rfl := Option.some.inj ho
          subst hA
          simp only [fr, List.setIfInBounds_toArray, List.set_cons_succ, List.set_cons_zero]
          go_wp2
          exact ⟨x25, x26, x27, x28, x29, _, x31, x32, x33, x34, x12, x13, r, t, by simp, HI.out.set5 rfl⟩
        · obtain rfl := Option.some.inj ho
          obtain rfl := HI.out.h5 (open_waits hop (by kernel_rfl))
          obtain ⟨-, c5⟩ := HI.out.s.ends
          subst hA
          simp only [fr, List.setIfInBounds_toArray, List.set_cons_succ, List.set_cons_zero]
          go_wp2
          exact ⟨x25, x26, x27, x28, x29, _, _, x32, x33, x34, x12, x13, r, t, by simp, HI.out.set6 rfl⟩
        · obtain rfl := Option.some.inj ho
          subst hA
          simp only [fr, List.setIfInBounds_toArray, List.set_cons_succ, List.set_cons_zero]
          go_wp2
          exact ⟨x25, x26, x27, x28, x29, x30, x31, _, x33, x34, x12, x13, r, t, by simp, HI.out.set7 rfl⟩
        · obtain rfl := Option.some.inj ho
          obtain rfl := HI.out.h6 (open_waits hop (by kernel_rfl))
          obtain rfl := HI.out.h7 (open_waits hop (by kernel_rfl))
          subst hA
          simp only [fr, List.setIfInBounds_toArray, List.set_cons_succ, List.set_cons_zero]
          go_wp2
          exact ⟨x25, x26, x27, x28, x29, x30, _, _, _, x34, x12, x13, r, t, by simp, HI.out.set8 rfl⟩
        · obtain rfl := Option.some.inj ho
          obtain rfl := HI.out.h8 (open_waits hop (by kernel_rfl))
          subst hA
          simp only [fr, List.setIfInBounds_toArray, List.set_cons_succ, List.set_cons_zero]
          go_wp2_with (go_at_call 6; refine (c4.out _ HI.out.s.s.bel).mono ?_; rintro e w5 ⟨rfl, hb5⟩)
          exact ⟨x25, x26, x27, x28, x29, x30, x31, x32, _, _, x12, x13, r, t, by simp, (HI.out.below hb5).set9 rfl⟩
        · obtain rfl := Option.some.inj ho
          subst hA
          simp only [fr, List.setIfInBounds_toArray, List.set_cons_succ, List.set_cons_zero]
          go_wp2
          exact ⟨x25, x26, x27, x28, x29, x30, x31, x32, x33, x34, _, x13, _, t, by simp, HI.out.set10 (by rw [← gd_tf (by rw [hv]; decide)]; exact hni)⟩
        · obtain rfl := Option.some.inj ho
          subst hA
          simp only [fr, List.setIfInBounds_toArray, List.set_cons_succ, List.set_cons_zero]
          go_wp2
          exact ⟨x25, x26, x27, x28, x29, x30, x31, x32, x33, x34, x12, _, r, _, by simp, HI.out.set11 (by rw [← gd_tf (by rw [hv]; decide)]; exact hni)⟩
        · obtain rfl := Option.some.inj ho
          obtain rfl := HI.out.h4 (open_waits hop (by kernel_rfl))
          have d10 := open_waits (i := 10) hop (by kernel_rfl); obtain ⟨rfl, bx⟩ := HI.out.h10 d10; obtain ⟨⟨z0, z1, z2, z3, z4, z5, z6⟩, f0, f1, f2, f3, f4, f5, f6⟩ := box7 bx.1; have hlr : r < w'.heap.size := (Array.getElem?_eq_some_iff.1 bx.1).1; clear bx
          subst hA
          simp only [fr, List.setIfInBounds_toArray, List.set_cons_succ, List.set_cons_zero]
          go_wp2
          exact ⟨x25, x26, x27, x28, _, x30, x31, x32, x33, x34, _, x13, r, t, by simp, HI.out.set12 d10 (by rw [hv]; decide)⟩
        · obtain rfl := Option.some.inj ho
          obtain rfl := HI.out.h9 (open_waits hop (by kernel_rfl))
          have d10 := open_waits (i := 11) hop (by kernel_rfl); obtain ⟨rfl, bx⟩ := HI.out.h11 d10; obtain ⟨⟨z0, z1, z2, z3, z4, z5, z6⟩, f0, f1, f2, f3, f4, f5, f6⟩ := box7 bx.1; have hlr : t < w'.heap.size := (Array.getElem?_eq_some_iff.1 bx.1).1; clear bx
          subst hA
          simp only [fr, List.setIfInBounds_toArray, List.set_cons_succ, List.set_cons_zero]
          go_wp2
          exact ⟨x25, x26, x27, x28, x29, x30, x31, x32, x33, _, x12, _, r, t, by simp, HI.out.set13 d10 (by rw [hv]; decide)⟩
        · simp at ho
      case fin =>
        intro v a' w' hv hall hI
        obtain ⟨x25, x26, x27, x28, x29, x30, x31, x32, x33, x34, x12, x13, r, t, rfl, HI⟩ := hI
        obtain ⟨⟨rfl, rfl⟩, hsg⟩ := HI.out.fin hv hall
        have HSG : Hid _ := hsg
        clear HI H3
        subst hA
        simp only [fr, List.setIfInBounds_toArray, List.set_cons_succ, List.set_cons_zero]
        go_wp2_with fail
        go_meet
        exact ⟨r, t, rfl, rfl, HSG⟩
    case rest =>
      obtain ⟨r, t, rfl, rfl, HG⟩ := hcut
      clear c3 c4 s1 s2 H3 hMa hFa zt zh
      obtain ⟨-, jx1, jx2, jx3, -, -, -⟩ := sX
      obtain ⟨-, jy1, jy2, jy3, -, -, -⟩ := sY
      obtain ⟨-, jj1, jj2, jj3, -, -, -⟩ := sJ
      obtain ⟨-, ju1, ju2, ju3, -, -, -⟩ := sU
      obtain ⟨-, jv1, jv2, jv3, -, -, -⟩ := sV
      obtain ⟨-, jk1, jk2, jk3, -, -, -⟩ := sK
      rcases Nat.lt_or_ge a.size 16 with ha | ha
      · rcases Nat.lt_or_ge b.size 16 with hb | hb
        · obtain ⟨⟨x0, x1, x2, x3, x4, x5, x6⟩, -⟩ := box7 HG.out.s.s.x
          obtain ⟨⟨y0, y1, y2, y3, y4, y5, y6⟩, -⟩ := box7 HG.out.s.s.y
          obtain ⟨⟨m0, m1, m2, m3, m4, m5, m6⟩, f0, f1, f2, f3, f4, f5, f6⟩ := box7 (HG.out.o (r, U0) (by simp)).1
          have hlr : r < wc.heap.size := (Array.getElem?_eq_some_iff.1 (HG.out.o (r, U0) (by simp)).1).1
          go_upto_region 8 with fail
          obtain ⟨W7, hW7⟩ : ∃ W7, (((((((wc.setCell ⟨r, 0, none⟩ (.int .i64 X.by')).setCell ⟨r, 1, none⟩ (.int .i64 X.un)).setCell ⟨r, 2, none⟩ (.int .i64 X.cl)).setCell ⟨r, 3, none⟩ (.int .i64 X.ce)).setCell ⟨r, 4, none⟩ (.int .i64 X.nl)).setCell ⟨r, 5, none⟩ (.string X.hd)).setCell ⟨r, 6, none⟩ (.string X.tl)) = W7 := ⟨_, rfl⟩
          have HG7 : Hid (SG w w3.heap.size w4.heap.size X Y J [(r, U), (t, V0)] W7) := (by show SG w w3.heap.size w4.heap.size X Y J _ _; rw [← hW7, hU, if_pos ha]; exact SG.set (l1 := []) HG.out X)
          rw [hW7]
          clear hW7 x0 x1 x2 x3 x4 x5 x6 y0 y1 y2 y3 y4 y5 y6 m0 m1 m2 m3 m4 m5 m6 f0 f1 f2 f3 f4 f5 f6 hlr HG hU
          obtain ⟨⟨y0, y1, y2, y3, y4, y5, y6⟩, -⟩ := box7 HG7.out.s.s.y
          obtain ⟨⟨m0, m1, m2, m3, m4, m5, m6⟩, f0, f1, f2, f3, f4, f5, f6⟩ := box7 (HG7.out.o (t, V0) (by simp)).1
          have hlr : t < W7.heap.size := (Array.getElem?_eq_some_iff.1 (HG7.out.o (t, V0) (by simp)).1).1
          go_upto_region 10 with fail
          obtain ⟨W8, hW8⟩ : ∃ W8, (((((((W7.setCell ⟨t, 0, none⟩ (.int .i64 Y.by')).setCell ⟨t, 1, none⟩ (.int .i64 Y.un)).setCell ⟨t, 2, none⟩ (.int .i64 Y.cl)).setCell ⟨t, 3, none⟩ (.int .i64 Y.ce)).setCell ⟨t, 4, none⟩ (.int .i64 Y.nl)).setCell ⟨t, 5, none⟩ (.string Y.hd)).setCell ⟨t, 6, none⟩ (.string Y.tl)) = W8 := ⟨_, rfl⟩
          have HG8 : Hid (SG w w3.heap.size w4.heap.size X Y J [(r, U), (t, V)] W8) := (by show SG w w3.heap.size w4.heap.size X Y J _ _; rw [← hW8, hV, if_pos hb]; exact SG.set (l1 := [_]) HG7.out Y)
          rw [hW8]
          clear hW8 y0 y1 y2 y3 y4 y5 y6 m0 m1 m2 m3 m4 m5 m6 f0 f1 f2 f3 f4 f5 f6 hlr HG7 hV
          obtain ⟨⟨m0, m1, m2, m3, m4, m5, m6⟩, -⟩ := box7 (HG8.out.o (r, U) (by simp)).1
          obtain ⟨⟨n0, n1, n2, n3, n4, n5, n6⟩, -⟩ := box7 (HG8.out.o (t, V) (by simp)).1
          go_wp2_with (go_at_call 7; refine (cK.out _ _ (World.alloc_heap_new _ _) (HG8.out.below ((Below.refl _ _).alloc (Nat.le_refl _) _)).s.s.bel).mono ?_; clear cK m0 m1 m2 m3 m4 m5 m6 n0 n1 n2 n3 n4 n5 n6; rintro e w9 ⟨rfl, hb9⟩; obtain ⟨W9, hW9⟩ : ∃ W9, w9.alloc (.cells #[.int .i64 K.by', .int .i64 K.un, .int .i64 K.cl, .int .i64 K.ce, .int .i64 K.nl, .string K.hd, .string K.tl] 24) = W9 := ⟨_, rfl⟩; have HG9 : Hid (SG w w3.heap.size w4.heap.size X Y J [(w9.heap.size, K), (r, U), (t, V)] W9) := (by show SG w w3.heap.size w4.heap.size X Y J _ _; rw [← hW9]; exact ((HG8.out.below ((Below.refl _ _).alloc (Nat.le_refl _) _)).below hb9).push K); clear hb9 HG8; obtain ⟨⟨-, j1, j2, j3, -, -, -⟩, -⟩ := box7 HG9.out.s.j; obtain ⟨⟨-, x1, x2, x3, -, -, -⟩, -⟩ := box7 HG9.out.s.s.x; obtain ⟨⟨-, y1, y2, y3, -, -, -⟩, -⟩ := box7 HG9.out.s.s.y; obtain ⟨⟨-, k1, k2, k3, -, -, -⟩, -⟩ := box7 (HG9.out.o (w9.heap.size, K) (by simp)).1; obtain ⟨⟨-, m1, m2, m3, -, -, -⟩, -⟩ := box7 (HG9.out.o (r, U) (by simp)).1; obtain ⟨⟨-, n1, n2, n3, -, -, -⟩, -⟩ := box7 (HG9.out.o (t, V) (by simp)).1)
          go_ret
          exact ⟨rfl, HG9.out.s.s.bel⟩
        · obtain ⟨⟨x0, x1, x2, x3, x4, x5, x6⟩, -⟩ := box7 HG.out.s.s.x
          obtain ⟨⟨y0, y1, y2, y3, y4, y5, y6⟩, -⟩ := box7 HG.out.s.s.y
          obtain ⟨⟨m0, m1, m2, m3, m4, m5, m6⟩, f0, f1, f2, f3, f4, f5, f6⟩ := box7 (HG.out.o (r, U0) (by simp)).1
          have hlr : r < wc.heap.size := (Array.getElem?_eq_some_iff.1 (HG.out.o (r, U0) (by simp)).1).1
          go_upto_region 8 with fail
          obtain ⟨W7, hW7⟩ : ∃ W7, (((((((wc.setCell ⟨r, 0, none⟩ (.int .i64 X.by')).setCell ⟨r, 1, none⟩ (.int .i64 X.un)).setCell ⟨r, 2, none⟩ (.int .i64 X.cl)).setCell ⟨r, 3, none⟩ (.int .i64 X.ce)).setCell ⟨r, 4, none⟩ (.int .i64 X.nl)).setCell ⟨r, 5, none⟩ (.string X.hd)).setCell ⟨r, 6, none⟩ (.string X.tl)) = W7 := ⟨_, rfl⟩
          have HG7 : Hid (SG w w3.heap.size w4.heap.size X Y J [(r, U), (t, V0)] W7) := (by show SG w w3.heap.size w4.heap.size X Y J _ _; rw [← hW7, hU, if_pos ha]; exact SG.set (l1 := []) HG.out X)
          rw [hW7]
          clear hW7 x0 x1 x2 x3 x4 x5 x6 y0 y1 y2 y3 y4 y5 y6 m0 m1 m2 m3 m4 m5 m6 f0 f1 f2 f3 f4 f5 f6 hlr HG hU
          obtain ⟨⟨y0, y1, y2, y3, y4, y5, y6⟩, -⟩ := box7 HG7.out.s.s.y
          obtain ⟨⟨m0, m1, m2, m3, m4, m5, m6⟩, f0, f1, f2, f3, f4, f5, f6⟩ := box7 (HG7.out.o (t, V0) (by simp)).1
          have hlr : t < W7.heap.size := (Array.getElem?_eq_some_iff.1 (HG7.out.o (t, V0) (by simp)).1).1
          go_upto_region 10 with fail
          have HG8 : Hid (SG w w3.heap.size w4.heap.size X Y J [(r, U), (t, V)] W7) := (by show SG w w3.heap.size w4.heap.size X Y J _ _; rw [hV, if_neg (by omega)]; exact HG7.out)
          clear y0 y1 y2 y3 y4 y5 y6 m0 m1 m2 m3 m4 m5 m6 f0 f1 f2 f3 f4 f5 f6 hlr HG7 hV
          obtain ⟨⟨m0, m1, m2, m3, m4, m5, m6⟩, -⟩ := box7 (HG8.out.o (r, U) (by simp)).1
          obtain ⟨⟨n0, n1, n2, n3, n4, n5, n6⟩, -⟩ := box7 (HG8.out.o (t, V) (by simp)).1
          go_wp2_with (go_at_call 7; refine (cK.out _ _ (World.alloc_heap_new _ _) (HG8.out.below ((Below.refl _ _).alloc (Nat.le_refl _) _)).s.s.bel).mono ?_; clear cK m0 m1 m2 m3 m4 m5 m6 n0 n1 n2 n3 n4 n5 n6; rintro e w9 ⟨rfl, hb9⟩; obtain ⟨W9, hW9⟩ : ∃ W9, w9.alloc (.cells #[.int .i64 K.by', .int .i64 K.un, .int .i64 K.cl, .int .i64 K.ce, .int .i64 K.nl, .string K.hd, .string K.tl] 24) = W9 := ⟨_, rfl⟩; have HG9 : Hid (SG w w3.heap.size w4.heap.size X Y J [(w9.heap.size, K), (r, U), (t, V)] W9) := (by show SG w w3.heap.size w4.heap.size X Y J _ _; rw [← hW9]; exact ((HG8.out.below ((Below.refl _ _).alloc (Nat.le_refl _) _)).below hb9).push K); clear hb9 HG8; obtain ⟨⟨-, j1, j2, j3, -, -, -⟩, -⟩ := box7 HG9.out.s.j; obtain ⟨⟨-, x1, x2, x3, -, -, -⟩, -⟩ := box7 HG9.out.s.s.x; obtain ⟨⟨-, y1, y2, y3, -, -, -⟩, -⟩ := box7 HG9.out.s.s.y; obtain ⟨⟨-, k1, k2, k3, -, -, -⟩, -⟩ := box7 (HG9.out.o (w9.heap.size, K) (by simp)).1; obtain ⟨⟨-, m1, m2, m3, -, -, -⟩, -⟩ := box7 (HG9.out.o (r, U) (by simp)).1; obtain ⟨⟨-, n1, n2, n3, -, -, -⟩, -⟩ := box7 (HG9.out.o (t, V) (by simp)).1)
          go_ret
          exact ⟨rfl, HG9.out.s.s.bel⟩
      · rcases Nat.lt_or_ge b.size 16 with hb | hb
        · obtain ⟨⟨x0, x1, x2, x3, x4, x5, x6⟩, -⟩ := box7 HG.out.s.s.x
          obtain ⟨⟨y0, y1, y2, y3, y4, y5, y6⟩, -⟩ := box7 HG.out.s.s.y
          obtain ⟨⟨m0, m1, m2, m3, m4, m5, m6⟩, f0, f1, f2, f3, f4, f5, f6⟩ := box7 (HG.out.o (r, U0) (by simp)).1
          have hlr : r < wc.heap.size := (Array.getElem?_eq_some_iff.1 (HG.out.o (r, U0) (by simp)).1).1
          go_upto_region 8 with fail
          have HG7 : Hid (SG w w3.heap.size w4.heap.size X Y J [(r, U), (t, V0)] wc) := (by show SG w w3.heap.size w4.heap.size X Y J _ _; rw [hU, if_neg (by omega)]; exact HG.out)
          clear x0 x1 x2 x3 x4 x5 x6 y0 y1 y2 y3 y4 y5 y6 m0 m1 m2 m3 m4 m5 m6 f0 f1 f2 f3 f4 f5 f6 hlr HG hU
          obtain ⟨⟨y0, y1, y2, y3, y4, y5, y6⟩, -⟩ := box7 HG7.out.s.s.y
          obtain ⟨⟨m0, m1, m2, m3, m4, m5, m6⟩, f0, f1, f2, f3, f4, f5, f6⟩ := box7 (HG7.out.o (t, V0) (by simp)).1
          have hlr : t < wc.heap.size := (Array.getElem?_eq_some_iff.1 (HG7.out.o (t, V0) (by simp)).1).1
          go_upto_region 10 with fail
          obtain ⟨W8, hW8⟩ : ∃ W8, (((((((wc.setCell ⟨t, 0, none⟩ (.int .i64 Y.by')).setCell ⟨t, 1, none⟩ (.int .i64 Y.un)).setCell ⟨t, 2, none⟩ (.int .i64 Y.cl)).setCell ⟨t, 3, none⟩ (.int .i64 Y.ce)).setCell ⟨t, 4, none⟩ (.int .i64 Y.nl)).setCell ⟨t, 5, none⟩ (.string Y.hd)).setCell ⟨t, 6, none⟩ (.string Y.tl)) = W8 := ⟨_, rfl⟩
          have HG8 : Hid (SG w w3.heap.size w4.heap.size X Y J [(r, U), (t, V)] W8) := (by show SG w w3.heap.size w4.heap.size X Y J _ _; rw [← hW8, hV, if_pos hb]; exact SG.set (l1 := [_]) HG7.out Y)
          rw [hW8]
          clear hW8 y0 y1 y2 y3 y4 y5 y6 m0 m1 m2 m3 m4 m5 m6 f0 f1 f2 f3 f4 f5 f6 hlr HG7 hV
          obtain ⟨⟨m0, m1, m2, m3, m4, m5, m6⟩, -⟩ := box7 (HG8.out.o (r, U) (by simp)).1
          obtain ⟨⟨n0, n1, n2, n3, n4, n5, n6⟩, -⟩ := box7 (HG8.out.o (t, V) (by simp)).1
          go_wp2_with (go_at_call 7; refine (cK.out _ _ (World.alloc_heap_new _ _) (HG8.out.below ((Below.refl _ _).alloc (Nat.le_refl _) _)).s.s.bel).mono ?_; clear cK m0 m1 m2 m3 m4 m5 m6 n0 n1 n2 n3 n4 n5 n6; rintro e w9 ⟨rfl, hb9⟩; obtain ⟨W9, hW9⟩ : ∃ W9, w9.alloc (.cells #[.int .i64 K.by', .int .i64 K.un, .int .i64 K.cl, .int .i64 K.ce, .int .i64 K.nl, .string K.hd, .string K.tl] 24) = W9 := ⟨_, rfl⟩; have HG9 : Hid (SG w w3.heap.size w4.heap.size X Y J [(w9.heap.size, K), (r, U), (t, V)] W9) := (by show SG w w3.heap.size w4.heap.size X Y J _ _; rw [← hW9]; exact ((HG8.out.below ((Below.refl _ _).alloc (Nat.le_refl _) _)).below hb9).push K); clear hb9 HG8; obtain ⟨⟨-, j1, j2, j3, -, -, -⟩, -⟩ := box7 HG9.out.s.j; obtain ⟨⟨-, x1, x2, x3, -, -, -⟩, -⟩ := box7 HG9.out.s.s.x; obtain ⟨⟨-, y1, y2, y3, -, -, -⟩, -⟩ := box7 HG9.out.s.s.y; obtain ⟨⟨-, k1, k2, k3, -, -, -⟩, -⟩ := box7 (HG9.out.o (w9.heap.size, K) (by simp)).1; obtain ⟨⟨-, m1, m2, m3, -, -, -⟩, -⟩ := box7 (HG9.out.o (r, U) (by simp)).1; obtain ⟨⟨-, n1, n2, n3, -, -, -⟩, -⟩ := box7 (HG9.out.o (t, V) (by simp)).1)
          go_ret
          exact ⟨rfl, HG9.out.s.s.bel⟩
        · obtain ⟨⟨x0, x1, x2, x3, x4, x5, x6⟩, -⟩ := box7 HG.out.s.s.x
          obtain ⟨⟨y0, y1, y2, y3, y4, y5, y6⟩, -⟩ := box7 HG.out.s.s.y
          obtain ⟨⟨m0, m1, m2, m3, m4, m5, m6⟩, f0, f1, f2, f3, f4, f5, f6⟩ := box7 (HG.out.o (r, U0) (by simp)).1
          have hlr : r < wc.heap.size := (Array.getElem?_eq_some_iff.1 (HG.out.o (r, U0) (by simp)).1).1
          go_upto_region 8 with fail
          have HG7 : Hid (SG w w3.heap.size w4.heap.size X Y J [(r, U), (t, V0)] wc) := (by show SG w w3.heap.size w4.heap.size X Y J _ _; rw [hU, if_neg (by omega)]; exact HG.out)
          clear x0 x1 x2 x3 x4 x5 x6 y0 y1 y2 y3 y4 y5 y6 m0 m1 m2 m3 m4 m5 m6 f0 f1 f2 f3 f4 f5 f6 hlr HG hU
          obtain ⟨⟨y0, y1, y2, y3, y4, y5, y6⟩, -⟩ := box7 HG7.out.s.s.y
          obtain ⟨⟨m0, m1, m2, m3, m4, m5, m6⟩, f0, f1, f2, f3, f4, f5, f6⟩ := box7 (HG7.out.o (t, V0) (by simp)).1
          have hlr : t < wc.heap.size := (Array.getElem?_eq_some_iff.1 (HG7.out.o (t, V0) (by simp)).1).1
          go_upto_region 10 with fail
          have HG8 : Hid (SG w w3.heap.size w4.heap.size X Y J [(r, U), (t, V)] wc) := (by show SG w w3.heap.size w4.heap.size X Y J _ _; rw [hV, if_neg (by omega)]; exact HG7.out)
          clear y0 y1 y2 y3 y4 y5 y6 m0 m1 m2 m3 m4 m5 m6 f0 f1 f2 f3 f4 f5 f6 hlr HG7 hV
          obtain ⟨⟨m0, m1, m2, m3, m4, m5, m6⟩, -⟩ := box7 (HG8.out.o (r, U) (by simp)).1
          obtain ⟨⟨n0, n1, n2, n3, n4, n5, n6⟩, -⟩ := box7 (HG8.out.o (t, V) (by simp)).1
          go_wp2_with (go_at_call 7; refine (cK.out _ _ (World.alloc_heap_new _ _) (HG8.out.below ((Below.refl _ _).alloc (Nat.le_refl _) _)).s.s.bel).mono ?_; clear cK m0 m1 m2 m3 m4 m5 m6 n0 n1 n2 n3 n4 n5 n6; rintro e w9 ⟨rfl, hb9⟩; obtain ⟨W9, hW9⟩ : ∃ W9, w9.alloc (.cells #[.int .i64 K.by', .int .i64 K.un, .int .i64 K.cl, .int .i64 K.ce, .int .i64 K.nl, .string K.hd, .string K.tl] 24) = W9 := ⟨_, rfl⟩; have HG9 : Hid (SG w w3.heap.size w4.heap.size X Y J [(w9.heap.size, K), (r, U), (t, V)] W9) := (by show SG w w3.heap.size w4.heap.size X Y J _ _; rw [← hW9]; exact ((HG8.out.below ((Below.refl _ _).alloc (Nat.le_refl _) _)).below hb9).push K); clear hb9 HG8; obtain ⟨⟨-, j1, j2, j3, -, -, -⟩, -⟩ := box7 HG9.out.s.j; obtain ⟨⟨-, x1, x2, x3, -, -, -⟩, -⟩ := box7 HG9.out.s.s.x; obtain ⟨⟨-, y1, y2, y3, -, -, -⟩, -⟩ := box7 HG9.out.s.s.y; obtain ⟨⟨-, k1, k2, k3, -, -, -⟩, -⟩ := box7 (HG9.out.o (w9.heap.size, K) (by simp)).1; obtain ⟨⟨-, m1, m2, m3, -, -, -⟩, -⟩ := box7 (HG9.out.o (r, U) (by simp)).1; obtain ⟨⟨-, n1, n2, n3, -, -, -⟩, -⟩ := box7 (HG9.out.o (t, V) (by simp)).1)
          go_ret
          exact ⟨rfl, HG9.out.s.s.bel⟩
  rcases Nat.lt_or_ge a.size 16 with ha | ha
  · rcases Nat.lt_or_ge b.size 16 with hb | hb
    · exact MAIN X Y (by rw [if_pos ha]) (by rw [if_pos hb]) F11
    · exact MAIN X V0 (by rw [if_pos ha]) (by rw [if_neg (by omega)]) (F10 hb)
  · rcases Nat.lt_or_ge b.size 16 with hb | hb
    · exact MAIN U0 Y (by rw [if_neg (by omega)]) (by rw [if_pos hb]) (F01 ha)
    · exact MAIN U0 V0 (by rw [if_neg (by omega)]) (by rw [if_neg (by omega)]) (F00 ha hb)

theorem walk_of (a b more far : ByteArray) (w : World) (hT : Lib.Utf8Tabs 1 2 w) (hlo0 : 1 < w.heap.size) (hlo1 : 2 < w.heap.size) (ha : a.size ≤ 140737488351232) (hb : b.size ≤ 140737488351232) (hc : more.size ≤ 140737488351232) (hd' : far.size ≤ 140737488351232) :
    Calls Tryd.prog 3 #[.string a, .string b, .string more, .string far] w fun e w' => e = .returned (.bool true) ∧ Below w.heap.size w w' := walk a b more far (by omega) w hT hlo0 hlo1
end Go.Proofs.YtdfemihjnempfabDoor.metricSeams
