/-
  A change as it lies in memory; package change's put, swap, cutTo and killTo. Conditions: those of each theorem.
-/
import Derived.Test.YtdggbnkhbmffoaaGreatDoorPkFA
import Derived.Test.YtdggbnkhbmffoaaGreatDoorCPlaces
import Derived.Deep.Cut
import Derived.Deep.RegionHeld3
import Derived.Test.YtdggbnkhbmffoaaGreatDoorShelf
namespace Go.Proofs.YtdggbnkhbmffoaaGreatDoor
open Go.RowKit Go.Shelf Bod Wid Go.Lib

/-- the two tables of unicode/utf8 -/
structure Tw (w : World) : Prop where
  t : Lib.Utf8Tabs 1 2 w
  lo0 : 1 < w.heap.size
  lo1 : 2 < w.heap.size
theorem Tw.below {w W : World} (h : Tw w) (hb : Below w.heap.size w W) : Tw W := ⟨tabs_below h.t hb, Nat.lt_of_lt_of_le h.lo0 hb.size, Nat.lt_of_lt_of_le h.lo1 hb.size⟩
theorem below_on {w W W' : World} (h : Below w.heap.size w W) (k : Below W.heap.size W W') : Below w.heap.size w W' := h.trans (k.mono h.size)
/-- a change as cells -/
def chc (c : Chg) : Array Value := #[.int .i64 c.at', .int .i64 c.cut, .string c.put, .int .i64 c.cur, .string c.kill, .bool c.ahead]
/-- what a maker answers -/
def rsv (r : Chg × Int) : Value := .tuple #[.agg (chc r.1), .int .i64 r.2]
/-- a scene as a value -/
def scv (s : ByteArray) (a : Nat) (r : Int) (n : Nat) : Value := .agg #[.string s, .int .i64 a, .int .i64 r, .int .i64 n]
theorem cbox {W : World} {b : Nat} {v0 v1 v2 v3 v4 v5 : Value} {t : TypeId} (h : W.heap[b]? = some (.cells #[v0, v1, v2, v3, v4, v5] t (0, 0))) :
    (W.cell? ⟨b, 0, none⟩ = some v0 ∧ W.cell? ⟨b, 1, none⟩ = some v1 ∧ W.cell? ⟨b, 2, none⟩ = some v2 ∧ W.cell? ⟨b, 3, none⟩ = some v3 ∧ W.cell? ⟨b, 4, none⟩ = some v4 ∧ W.cell? ⟨b, 5, none⟩ = some v5) ∧
    W.frozen? ⟨b, 0, none⟩ = false ∧ W.frozen? ⟨b, 1, none⟩ = false ∧ W.frozen? ⟨b, 2, none⟩ = false ∧ W.frozen? ⟨b, 3, none⟩ = false ∧ W.frozen? ⟨b, 4, none⟩ = false ∧ W.frozen? ⟨b, 5, none⟩ = false ∧ b < W.heap.size :=
  ⟨by simp [World.cell?, h], by simp [World.frozen?, h], by simp [World.frozen?, h], by simp [World.frozen?, h], by simp [World.frozen?, h], by simp [World.frozen?, h], by simp [World.frozen?, h], (Array.getElem?_eq_some_iff.1 h).1⟩
theorem cset {w W : World} {b : Nat} {v0 v1 v2 v3 v4 v5 : Value} {t : TypeId} (u0 u1 u2 u3 u4 u5 : Value) (hW : Below w.heap.size w W) (hb : w.heap.size ≤ b) (h : W.heap[b]? = some (.cells #[v0, v1, v2, v3, v4, v5] t (0, 0))) :
    Below w.heap.size w ((((((W.setCell ⟨b, 0, none⟩ u0).setCell ⟨b, 1, none⟩ u1).setCell ⟨b, 2, none⟩ u2).setCell ⟨b, 3, none⟩ u3).setCell ⟨b, 4, none⟩ u4).setCell ⟨b, 5, none⟩ u5) ∧
    ((((((W.setCell ⟨b, 0, none⟩ u0).setCell ⟨b, 1, none⟩ u1).setCell ⟨b, 2, none⟩ u2).setCell ⟨b, 3, none⟩ u3).setCell ⟨b, 4, none⟩ u4).setCell ⟨b, 5, none⟩ u5).heap[b]? = some (.cells #[u0, u1, u2, u3, u4, u5] t (0, 0)) :=
  ⟨(((((hW.setCell hb _).setCell hb _).setCell hb _).setCell hb _).setCell hb _).setCell hb _, set1 u5 (set1 u4 (set1 u3 (set1 u2 (set1 u1 (set1 u0 h)))))⟩
set_option maxRecDepth 100000 in
set_option maxHeartbeats 1000000 in
theorem put_any (w : World) (a b : Nat) (x : ByteArray) (h : a ≤ b) (hb : b ≤ 1099511627776) (hx : x.size ≤ 1099511627776) :
    Calls Tryz.prog 83 #[.int .i64 a, .int .i64 b, .string x] w fun e W' => e = .returned (.agg (chc ⟨a, b - a, x, a + x.size, ⟨#[]⟩, false⟩)) ∧ Below w.heap.size w W' := by
  have e1 : ((b - a : Nat) : Int) = (b : Int) - a := by omega
  go_enter Tryz.func83, Tryz.ntmps83
  go_wp2
  refine bodyPost_ret (v := .agg (chc ⟨a, b - a, x, a + x.size, ⟨#[]⟩, false⟩)) (by simp [results, Tryz.results83, go_sem, chc]; omega) rfl ⟨rfl, (Below.refl _ w).alloc (Nat.le_refl _) _⟩
/-- a call with a scene: its box, and the answer's, still zero -/
structure Fb (w : World) (s : ByteArray) (a : Nat) (r : Int) (n : Nat) (W : World) : Prop where
  bel : Below w.heap.size w W
  sc : W.heap[w.heap.size]? = some (.cells #[.string s, .int .i64 a, .int .i64 r, .int .i64 n] 50 (0, 0))
  rs : W.heap[w.heap.size + 1]? = some (.cells #[.int .i64 0, .int .i64 0, .string ⟨#[]⟩, .int .i64 0, .string ⟨#[]⟩, .bool false] 29 (0, 0))
section
variable {w W X : World} {s : ByteArray} {a n : Nat} {r : Int}
theorem Fb.below (h : Fb w s a r n W) (hb : Below W.heap.size W X) : Fb w s a r n X :=
  ⟨below_on h.bel hb, (hb.block _ (Array.getElem?_eq_some_iff.1 h.sc).1).trans h.sc, (hb.block _ (Array.getElem?_eq_some_iff.1 h.rs).1).trans h.rs⟩
theorem fb0 (w : World) (s : ByteArray) (a : Nat) (r : Int) (n : Nat) : Fb w s a r n ((w.alloc (.cells #[.string s, .int .i64 a, .int .i64 r, .int .i64 n] 50)).alloc (.cells #[.int .i64 0, .int .i64 0, .string ⟨#[]⟩, .int .i64 0, .string ⟨#[]⟩, .bool false] 29)) := by
  refine ⟨((Below.refl _ w).alloc (Nat.le_refl _) _).alloc (by simp) _, ?_, ?_⟩
  · rw [Below.heap_alloc _ _ _ (by simp)]; exact World.alloc_heap_new _ _
  · have := World.alloc_heap_new (w.alloc (.cells #[.string s, .int .i64 a, .int .i64 r, .int .i64 n] 50)) (.cells #[.int .i64 0, .int .i64 0, .string ⟨#[]⟩, .int .i64 0, .string ⟨#[]⟩, .bool false] 29)
    rwa [show (w.alloc (.cells #[.string s, .int .i64 a, .int .i64 r, .int .i64 n] 50)).heap.size = w.heap.size + 1 by simp] at this
theorem Fb.sz (h : Fb w s a r n W) : w.heap.size + 1 < W.heap.size := (Array.getElem?_eq_some_iff.1 h.rs).1
theorem Fb.get (h : Fb w s a r n W) : (W.cell? ⟨w.heap.size, 0, none⟩ = some (.string s) ∧ W.cell? ⟨w.heap.size, 1, none⟩ = some (.int .i64 a) ∧ W.cell? ⟨w.heap.size, 2, none⟩ = some (.int .i64 r) ∧ W.cell? ⟨w.heap.size, 3, none⟩ = some (.int .i64 n)) ∧
    (W.frozen? ⟨w.heap.size + 1, 0, none⟩ = false ∧ W.frozen? ⟨w.heap.size + 1, 1, none⟩ = false ∧ W.frozen? ⟨w.heap.size + 1, 2, none⟩ = false ∧ W.frozen? ⟨w.heap.size + 1, 3, none⟩ = false ∧ W.frozen? ⟨w.heap.size + 1, 4, none⟩ = false ∧ W.frozen? ⟨w.heap.size + 1, 5, none⟩ = false) ∧
    (W.cell? ⟨w.heap.size + 1, 0, none⟩ = some (.int .i64 0) ∧ W.cell? ⟨w.heap.size + 1, 1, none⟩ = some (.int .i64 0) ∧ W.cell? ⟨w.heap.size + 1, 2, none⟩ = some (.string ⟨#[]⟩) ∧ W.cell? ⟨w.heap.size + 1, 3, none⟩ = some (.int .i64 0) ∧ W.cell? ⟨w.heap.size + 1, 4, none⟩ = some (.string ⟨#[]⟩) ∧ W.cell? ⟨w.heap.size + 1, 5, none⟩ = some (.bool false)) := by
  obtain ⟨c, f⟩ := cbox h.rs
  obtain ⟨d, -⟩ := box4 h.sc
  exact ⟨d, ⟨f.1, f.2.1, f.2.2.1, f.2.2.2.1, f.2.2.2.2.1, f.2.2.2.2.2.1⟩, c⟩
theorem Fb.fin (h : Fb w s a r n W) (u0 u1 u2 u3 u4 u5 : Value) : let W' := (((((W.setCell ⟨w.heap.size + 1, 0, none⟩ u0).setCell ⟨w.heap.size + 1, 1, none⟩ u1).setCell ⟨w.heap.size + 1, 2, none⟩ u2).setCell ⟨w.heap.size + 1, 3, none⟩ u3).setCell ⟨w.heap.size + 1, 4, none⟩ u4).setCell ⟨w.heap.size + 1, 5, none⟩ u5
    Below w.heap.size w W' ∧ (W'.cell? ⟨w.heap.size + 1, 0, none⟩ = some u0 ∧ W'.cell? ⟨w.heap.size + 1, 1, none⟩ = some u1 ∧ W'.cell? ⟨w.heap.size + 1, 2, none⟩ = some u2 ∧ W'.cell? ⟨w.heap.size + 1, 3, none⟩ = some u3 ∧ W'.cell? ⟨w.heap.size + 1, 4, none⟩ = some u4 ∧ W'.cell? ⟨w.heap.size + 1, 5, none⟩ = some u5) := by
  obtain ⟨q1, q2⟩ := cset u0 u1 u2 u3 u4 u5 h.bel (Nat.le_succ _) h.rs
  exact ⟨q1, (cbox q2).1⟩
end
set_option maxRecDepth 100000 in
set_option maxHeartbeats 1000000 in
theorem cutTo_any (w : World) (s : ByteArray) (a : Nat) (r : Int) (n to' : Nat) (ha : a ≤ 1099511627776) (hx : to' ≤ 1099511627776) :
    Calls Tryz.prog 72 #[scv s a r n, .int .i64 to'] w fun e W' => e = .returned (rsv (cutP a to')) ∧ Below w.heap.size w W' := by
  have HF : Hid (Fb w s a r n ((w.alloc (.cells #[.string s, .int .i64 a, .int .i64 r, .int .i64 n] 50)).alloc (.cells #[.int .i64 0, .int .i64 0, .string ⟨#[]⟩, .int .i64 0, .string ⟨#[]⟩, .bool false] 29))) := fb0 w s a r n
  unfold scv cutP
  by_cases h0 : to' = a
  · subst h0
    rw [if_pos rfl]
    go_enter Tryz.func72, Tryz.ntmps72
    go_wp2
    exact bodyPost_ret (v := rsv (chz, 8)) (by simp [results, Tryz.results72, go_sem, rsv, chc, chz]) rfl ⟨rfl, HF.out.bel⟩
  · rw [if_neg h0]
    have h1 : ¬ ((to' : Int) = a) := by omega
    have h2 : ((to' : Int) == a) = false := by simp; omega
    obtain ⟨x, y, hxy, hmn, hmx⟩ : ∃ x y : Nat, x ≤ y ∧ min a to' = x ∧ max a to' = y := ⟨_, _, by omega, rfl, rfl⟩
    have e1 : min (a : Int) to' = x := by omega
    have e2 : max (a : Int) to' = y := by omega
    have CP : Hid (∀ W, Fb w s a r n W → Calls Tryz.prog 83 #[.int .i64 x, .int .i64 y, .string ⟨#[]⟩] W fun e W' => e = .returned (.agg #[.int .i64 x, .int .i64 (y - x : Nat), .string ⟨#[]⟩, .int .i64 x, .string ⟨#[]⟩, .bool false]) ∧ Fb w s a r n W') := fun W hW => (put_any W x y ⟨#[]⟩ hxy (by omega) (by decide)).mono fun e W' ⟨q1, q2⟩ => ⟨q1, hW.below q2⟩
    rw [hmn, hmx]
    clear h0 hmn hmx
    go_enter Tryz.func72, Tryz.ntmps72
    go_wp2_with (go_at_call 83; refine (CP.out _ HF.out).mono ?_; clear CP HF; rintro e w1 ⟨rfl, HF⟩; obtain ⟨-, ⟨f0, f1, f2, f3, f4, f5⟩, ⟨z0, z1, z2, z3, z4, z5⟩⟩ := HF.get)
    obtain ⟨k1, k2, k3, k4, k5, k6, k7⟩ := HF.fin (.int .i64 x) (.int .i64 (y - x : Nat)) (.string ⟨#[]⟩) (.int .i64 x) (.string ⟨#[]⟩) (.bool false)
    exact bodyPost_ret (v := rsv (⟨x, y - x, ⟨#[]⟩, x, ⟨#[]⟩, false⟩, 0)) (by simp [results, Tryz.results72, go_sem, rsv, chc, k2, k3, k4, k5, k6, k7]) rfl ⟨rfl, k1⟩
set_option maxRecDepth 100000 in
theorem sclone_any (s : ByteArray) (h : s.size ≤ 281474976710656) (w : World) : Calls Tryz.prog 103 #[.string s] w fun e w' => e = .returned (.string s) ∧ Below w.heap.size w w' := by
  have C1 := Tryz.stringslite_Clone s w h
  go_enter Tryz.func103, Tryz.ntmps103
  go_wp2_with (go_at_call 126; refine C1.mono ?_; rintro e w1 ⟨rfl, hb⟩)
  go_ret
  exact ⟨rfl, hb⟩
/-- .. and the box of a change under way -/
structure Fc (w : World) (s : ByteArray) (a : Nat) (r : Int) (n : Nat) (b : Nat) (c : Chg) (W : World) : Prop where
  f : Fb w s a r n W
  bx : W.heap[b]? = some (.cells (chc c) 29 (0, 0))
  hb : w.heap.size + 1 < b
theorem Fc.below {w W X : World} {s : ByteArray} {a n b : Nat} {r : Int} {c : Chg} (h : Fc w s a r n b c W) (hb : Below W.heap.size W X) : Fc w s a r n b c X :=
  ⟨h.f.below hb, (hb.block _ (Array.getElem?_eq_some_iff.1 h.bx).1).trans h.bx, h.hb⟩
theorem Fb.new {w W : World} {s : ByteArray} {a n : Nat} {r : Int} (h : Fb w s a r n W) (c : Chg) : Fc w s a r n W.heap.size c (W.alloc (.cells (chc c) 29)) :=
  ⟨h.below ((Below.refl _ W).alloc (Nat.le_refl _) _), World.alloc_heap_new _ _, h.sz⟩
theorem Fc.get {w W : World} {s : ByteArray} {a n b : Nat} {r : Int} {c : Chg} (h : Fc w s a r n b c W) : (W.cell? ⟨b, 0, none⟩ = some (.int .i64 c.at') ∧ W.cell? ⟨b, 1, none⟩ = some (.int .i64 c.cut) ∧ W.cell? ⟨b, 2, none⟩ = some (.string c.put) ∧ W.cell? ⟨b, 3, none⟩ = some (.int .i64 c.cur) ∧ W.cell? ⟨b, 4, none⟩ = some (.string c.kill) ∧ W.cell? ⟨b, 5, none⟩ = some (.bool c.ahead)) ∧ W.frozen? ⟨b, 4, none⟩ = false ∧ W.frozen? ⟨b, 5, none⟩ = false ∧ b < W.heap.size := by
  have := cbox h.bx
  exact ⟨this.1, this.2.2.2.2.2.1, this.2.2.2.2.2.2.1, this.2.2.2.2.2.2.2⟩
theorem set_ne {W : World} {b k i : Nat} (u : Value) (h : k ≠ b) : (W.setCell ⟨b, i, none⟩ u).heap[k]? = W.heap[k]? := by
  unfold World.setCell
  show (W.heap.modify b _)[k]? = _
  rw [Array.getElem?_modify, if_neg (fun e => h e.symm)]
theorem Fc.set {w W : World} {s : ByteArray} {a n b : Nat} {r : Int} {c : Chg} (h : Fc w s a r n b c W) (x : ByteArray) (y : Bool) : Fc w s a r n b { c with kill := x, ahead := y } ((W.setCell ⟨b, 4, none⟩ (.string x)).setCell ⟨b, 5, none⟩ (.bool y)) := by
  have hb := h.hb
  refine ⟨⟨(h.f.bel.setCell (by show w.heap.size ≤ b; omega) _).setCell (by show w.heap.size ≤ b; omega) _, ?_, ?_⟩, set1 _ (set1 _ h.bx), h.hb⟩
  · rw [set_ne _ (by omega), set_ne _ (by omega)]; exact h.f.sc
  · rw [set_ne _ (by omega), set_ne _ (by omega)]; exact h.f.rs
set_option maxRecDepth 100000 in
set_option maxHeartbeats 1000000 in
theorem killTo_any (w : World) (s : ByteArray) (a : Nat) (r : Int) (n to' : Nat) (hs : s.size ≤ 1099511627776) (ha : a ≤ s.size) (hx : to' ≤ s.size) :
    Calls Tryz.prog 75 #[scv s a r n, .int .i64 to'] w fun e W' => e = .returned (rsv (killP s a to')) ∧ Below w.heap.size w W' := by
  have HF : Hid (Fb w s a r n ((w.alloc (.cells #[.string s, .int .i64 a, .int .i64 r, .int .i64 n] 50)).alloc (.cells #[.int .i64 0, .int .i64 0, .string ⟨#[]⟩, .int .i64 0, .string ⟨#[]⟩, .bool false] 29))) := fb0 w s a r n
  have CC : ∀ W, Fb w s a r n W → Calls Tryz.prog 72 #[scv s a r n, .int .i64 to'] W fun e W' => e = .returned (rsv (cutP a to')) ∧ Fb w s a r n W' := fun W hW => (cutTo_any W s a r n to' (by omega) (by omega)).mono fun e W' ⟨q1, q2⟩ => ⟨q1, hW.below q2⟩
  unfold scv at CC ⊢
  unfold killP
  unfold cutP at CC
  by_cases h0 : to' = a
  · subst h0
    rw [if_pos rfl] at CC ⊢
    have C1 : Hid (∀ W, Fb w s to' r n W → Calls Tryz.prog 72 #[.agg #[.string s, .int .i64 to', .int .i64 r, .int .i64 n], .int .i64 to'] W fun e W' => e = .returned (.tuple #[.agg #[.int .i64 0, .int .i64 0, .string ⟨#[]⟩, .int .i64 0, .string ⟨#[]⟩, .bool false], .int .i64 8]) ∧ Hid (Fb w s to' r n W')) := CC
    clear CC
    go_enter Tryz.func75, Tryz.ntmps75
    go_upto_region 2 with (go_at_call 72; refine (C1.out _ HF.out).mono ?_; clear C1 HF; rintro e w1 ⟨rfl, HF⟩)
    have HG : Hid (Fb w s to' r n (w1.alloc (.cells #[.int .i64 0, .int .i64 0, .string ⟨#[]⟩, .int .i64 0, .string ⟨#[]⟩, .bool false] 29))) := HF.out.below ((Below.refl _ w1).alloc (Nat.le_refl _) _)
    generalize w1.alloc (.cells #[.int .i64 0, .int .i64 0, .string ⟨#[]⟩, .int .i64 0, .string ⟨#[]⟩, .bool false] 29) = w2 at HG ⊢
    clear HF
    obtain ⟨-, ⟨f0, f1, f2, f3, f4, f5⟩, ⟨z0, z1, z2, z3, z4, z5⟩⟩ := HG.out.get
    go_wp2
    obtain ⟨k1, k2, k3, k4, k5, k6, k7⟩ := HG.out.fin (.int .i64 0) (.int .i64 0) (.string ⟨#[]⟩) (.int .i64 0) (.string ⟨#[]⟩) (.bool false)
    exact bodyPost_ret (v := rsv (chz, 8)) (by simp [results, Tryz.results75, go_sem, rsv, chc, chz, k2, k3, k4, k5, k6, k7]) rfl ⟨rfl, k1⟩
  · rw [if_neg h0] at CC ⊢
    obtain ⟨x, y, hxy, hmn, hmx⟩ : ∃ x y : Nat, x ≤ y ∧ min a to' = x ∧ max a to' = y := ⟨_, _, by omega, rfl, rfl⟩
    rw [hmn, hmx] at CC ⊢
    have hy : y ≤ s.size := by omega
    have e1 : (x : Int) + (y - x : Nat) = y := by omega
    have C1 : Hid (∀ W, Fb w s a r n W → Calls Tryz.prog 72 #[.agg #[.string s, .int .i64 a, .int .i64 r, .int .i64 n], .int .i64 to'] W fun e W' => e = .returned (.tuple #[.agg #[.int .i64 x, .int .i64 (y - x : Nat), .string ⟨#[]⟩, .int .i64 x, .string ⟨#[]⟩, .bool false], .int .i64 0]) ∧ Hid (Fb w s a r n W')) := CC
    have CK : Hid (∀ W b, Fc w s a r n b ⟨x, y - x, ⟨#[]⟩, x, ⟨#[]⟩, false⟩ W → Calls Tryz.prog 103 #[.string (s.extract x y)] W fun e W' => e = .returned (.string (s.extract x y)) ∧ Hid (Fc w s a r n b ⟨x, y - x, ⟨#[]⟩, x, ⟨#[]⟩, false⟩ W')) := fun W b hW => (sclone_any _ (by rw [size_extract s x y hy]; omega) W).mono fun e W' ⟨q1, q2⟩ => ⟨q1, hW.below q2⟩
    have HS : Hid (∀ W b, Fc w s a r n b ⟨x, y - x, ⟨#[]⟩, x, ⟨#[]⟩, false⟩ W → (W.cell? ⟨b, 0, none⟩ = some (.int .i64 x) ∧ W.cell? ⟨b, 1, none⟩ = some (.int .i64 (y - x : Nat)) ∧ W.cell? ⟨b, 2, none⟩ = some (.string ⟨#[]⟩) ∧ W.cell? ⟨b, 3, none⟩ = some (.int .i64 x) ∧ W.cell? ⟨b, 4, none⟩ = some (.string ⟨#[]⟩) ∧ W.cell? ⟨b, 5, none⟩ = some (.bool false)) ∧ W.frozen? ⟨b, 4, none⟩ = false ∧ W.frozen? ⟨b, 5, none⟩ = false ∧ b < W.heap.size) := fun W b hW => hW.get
    have HE : Hid (∀ W b p q, Fc w s a r n b ⟨x, y - x, ⟨#[]⟩, x, ⟨#[]⟩, false⟩ W → Fc w s a r n b ⟨x, y - x, ⟨#[]⟩, x, p, q⟩ ((W.setCell ⟨b, 4, none⟩ (.string p)).setCell ⟨b, 5, none⟩ (.bool q))) := fun W b p q hW => hW.set p q
    clear CC h0 hmn hmx
    go_enter Tryz.func75, Tryz.ntmps75
    go_upto_region 2 with (go_at_call 72; refine (C1.out _ HF.out).mono ?_; clear C1 HF; rintro e w1 ⟨rfl, HF⟩)
    have HG : Hid (Fc w s a r n w1.heap.size ⟨x, y - x, ⟨#[]⟩, x, ⟨#[]⟩, false⟩ (w1.alloc (.cells #[.int .i64 x, .int .i64 (y - x : Nat), .string ⟨#[]⟩, .int .i64 x, .string ⟨#[]⟩, .bool false] 29))) := HF.out.new _
    generalize w1.alloc (.cells #[.int .i64 x, .int .i64 (y - x : Nat), .string ⟨#[]⟩, .int .i64 x, .string ⟨#[]⟩, .bool false] 29) = w2 at HG ⊢
    generalize w1.heap.size = b at HG ⊢
    clear HF
    obtain ⟨⟨y0, y1, y2, y3, y4, y5⟩, g4, g5, hl⟩ := HS.out _ _ HG.out
    obtain ⟨⟨c0, c1, c2, c3⟩, -⟩ := HG.out.f.get
    go_upto_region 5 with (go_at_call 103; refine (CK.out _ _ HG.out).mono ?_; clear CK HG y0 y1 y2 y3 y4 y5 g4 g5 hl c0 c1 c2 c3; rintro e w3 ⟨rfl, HG⟩; obtain ⟨⟨y0, y1, y2, y3, y4, y5⟩, g4, g5, hl⟩ := HS.out _ _ HG.out; obtain ⟨⟨c0, c1, c2, c3⟩, -⟩ := HG.out.f.get)
    go_upto_region 6 with fail
    have HZ : Hid (Fc w s a r n b ⟨x, y - x, ⟨#[]⟩, x, s.extract x y, decide (to' < a)⟩ ((w3.setCell ⟨b, 4, none⟩ (.string (s.extract x y))).setCell ⟨b, 5, none⟩ (.bool (decide (to' < a))))) := HE.out _ _ _ _ HG.out
    generalize (w3.setCell ⟨b, 4, none⟩ (.string (s.extract x y))).setCell ⟨b, 5, none⟩ (.bool (decide (to' < a))) = w4 at HZ ⊢
    clear HG y0 y1 y2 y3 y4 y5 g4 g5 hl c0 c1 c2 c3
    obtain ⟨⟨y0, y1, y2, y3, y4, y5⟩, -⟩ := HZ.out.get
    obtain ⟨-, ⟨f0, f1, f2, f3, f4, f5⟩, ⟨z0, z1, z2, z3, z4, z5⟩⟩ := HZ.out.f.get
    simp only at y0 y1 y2 y3 y4 y5
    go_wp2
    obtain ⟨k1, k2, k3, k4, k5, k6, k7⟩ := HZ.out.f.fin (.int .i64 x) (.int .i64 (y - x : Nat)) (.string ⟨#[]⟩) (.int .i64 x) (.string (s.extract x y)) (.bool (decide (to' < a)))
    exact bodyPost_ret (v := rsv (⟨x, y - x, ⟨#[]⟩, x, s.extract x y, decide (to' < a)⟩, 0)) (by simp [results, Tryz.results75, go_sem, rsv, chc, k2, k3, k4, k5, k6, k7]) rfl ⟨rfl, k1⟩
end Go.Proofs.YtdggbnkhbmffoaaGreatDoor
