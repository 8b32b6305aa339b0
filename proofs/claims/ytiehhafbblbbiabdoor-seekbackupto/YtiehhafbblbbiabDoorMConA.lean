/-
  What package metric's first, last, held and owned answer. Conditions: the ends' texts can be copied.
-/
import Derived.Test.YtiehhafbblbbiabDoorNRef
import Derived.Test.YtiehhafbblbbiabDoorShelf
import Derived.Deep.RegionWith
import Derived.Deep.RegionHeld3
namespace Go.Proofs.YtiehhafbblbbiabDoor
open Go.RowKit Bod Wid

theorem countByte_nls (s : ByteArray) : Lib.countByte s.data.toList 10 = nls s := by
  unfold nls
  have h : ∀ l : List UInt8, Lib.countByte l 10 = l.countP (· == 10) := fun l => by
    rfl
  exact h _
theorem scount_any (s : ByteArray) (w : World) : Calls Tryd.prog 63 #[.string s, .string ⟨#[10]⟩] w fun e w' => e = .returned (.int .i64 (nls s)) ∧ w = w' :=
  (Tryd.strings_Count_one s 10 w).mono fun _ _ ⟨h1, h2⟩ => ⟨by rw [h1, countByte_nls], h2.symm⟩
theorem hd_min (s : ByteArray) : s.extract 0 (min (s.size : Int) 16).toNat = hd s := by
  unfold hd
  split
  · rw [show (min (s.size : Int) 16).toNat = 16 by omega]
  · rw [show (min (s.size : Int) 16).toNat = s.size by omega]; simp
theorem tl_max (s : ByteArray) : s.extract (max 0 ((s.size : Int) - 16)).toNat s.size = tl s := by
  unfold tl
  split
  · rw [show (max 0 ((s.size : Int) - 16)).toNat = s.size - 16 by omega]
  · rw [show (max 0 ((s.size : Int) - 16)).toNat = 0 by omega]; simp

set_option maxHeartbeats 1000000 in
theorem first_any (s : ByteArray) (w : World) : Calls Tryd.prog 50 #[.string s] w fun e w' => e = .returned (.string (hd s)) ∧ w = w' := by
  rw [← hd_min]
  go_enter Tryd.func50, Tryd.ntmps50
  go_wp2
  go_ret
  exact ⟨rfl, rfl⟩
set_option maxHeartbeats 1000000 in
theorem last_any (s : ByteArray) (hs : s.size ≤ maxLen) (w : World) : Calls Tryd.prog 51 #[.string s] w fun e w' => e = .returned (.string (tl s)) ∧ w = w' := by
  unfold maxLen at hs
  rw [← tl_max]
  go_enter Tryd.func51, Tryd.ntmps51
  go_wp2
  go_ret
  exact ⟨rfl, rfl⟩
/-- the nearest offset -/
def heldOf (s : ByteArray) (i : Int) : Nat := (min (max i 0) s.size).toNat
theorem sclone_any (s : ByteArray) (hs : s.size ≤ 281474976710656) (w : World) : Calls Tryd.prog 30 #[.string s] w fun e w' => e = .returned (.string s) ∧ Below w.heap.size w w' := by
  have C := Tryd.stringslite_Clone s w hs
  go_enter Tryd.func30, Tryd.ntmps30
  go_wp2_with (go_at_call 48; refine C.mono ?_; clear C; rintro e w1 ⟨rfl, hb⟩)
  go_ret
  exact ⟨rfl, hb⟩

theorem set7_at {w W : World} {b : Nat} (h : Below w.heap.size w W) (hb : w.heap.size ≤ b) (u0 u1 u2 u3 u4 u5 u6 : Value) : Below w.heap.size w (((((((W.setCell ⟨b, 0, none⟩ u0).setCell ⟨b, 1, none⟩ u1).setCell ⟨b, 2, none⟩ u2).setCell ⟨b, 3, none⟩ u3).setCell ⟨b, 4, none⟩ u4).setCell ⟨b, 5, none⟩ u5).setCell ⟨b, 6, none⟩ u6) :=
  ((((((h.setCell (p := ⟨b, 0, none⟩) hb _).setCell (p := ⟨b, 1, none⟩) hb _).setCell (p := ⟨b, 2, none⟩) hb _).setCell (p := ⟨b, 3, none⟩) hb _).setCell (p := ⟨b, 4, none⟩) hb _).setCell (p := ⟨b, 5, none⟩) hb _).setCell (p := ⟨b, 6, none⟩) hb _
/-- what lies where in owned: the summary and the result -/
structure OW (w : World) (x : Sum) (W : World) : Prop where
  a : W.heap[w.heap.size]? = some (.cells (scs x) 42 (0, 0))
  r : W.heap[w.heap.size + 1]? = some (.cells (scs sm0) 42 (0, 0))
  bel : Below w.heap.size w W
theorem OW.below {w : World} {x : Sum} {W W' : World} (h : OW w x W) (hb : Below W.heap.size W W') : OW w x W' := by
  have kp : ∀ {k : Nat} {o : Obj}, W.heap[k]? = some o → W'.heap[k]? = some o := fun ho => (hb.block _ (Array.getElem?_eq_some_iff.1 ho).1).trans ho
  exact ⟨kp h.a, kp h.r, h.bel.trans (hb.mono h.bel.size)⟩
theorem OW.drew {w : World} {x : Sum} {W : World} (h : OW w x W) : OW w x W.drew := ⟨h.a, h.r, ⟨h.bel.os, h.bel.tape, h.bel.output, h.bel.size, h.bel.block⟩⟩
theorem OW.drawn {w : World} {x : Sum} {W : World} (h : OW w x W.drew) : OW w x W := ⟨h.a, h.r, ⟨h.bel.os, h.bel.tape, h.bel.output, h.bel.size, h.bel.block⟩⟩
theorem OW.cells {w : World} {x : Sum} {W : World} (h : OW w x W) : W.cell? ⟨w.heap.size, 5, none⟩ = some (.string x.hd) ∧ W.cell? ⟨w.heap.size, 6, none⟩ = some (.string x.tl) := by
  obtain ⟨⟨-, -, -, -, -, x5, x6⟩, -⟩ := box7 h.a
  exact ⟨x5, x6⟩
theorem OW.set {w : World} {x : Sum} {W : World} (h : OW w x W) (i : Nat) (v : Value) (hv : (scs x).setIfInBounds i v = scs x) : OW w x (W.setCell ⟨w.heap.size, i, none⟩ v) := by
  have hg := gcell W w.heap.size i v
  exact ⟨by rw [← hv]; exact set1 v h.a, (hg.block _ (Array.getElem?_eq_some_iff.1 h.r).1 (fun e => by have := Option.some.inj e; omega)).trans h.r, h.bel.setCell (p := ⟨w.heap.size, i, none⟩) (Nat.le_refl _) _⟩
theorem OW.set5 {w : World} {x : Sum} {W : World} (h : OW w x W) : OW w x (W.setCell ⟨w.heap.size, 5, none⟩ (.string x.hd)) := h.set 5 _ rfl
theorem OW.set6 {w : World} {x : Sum} {W : World} (h : OW w x W) : OW w x (W.setCell ⟨w.heap.size, 6, none⟩ (.string x.tl)) := h.set 6 _ rfl
set_option maxRecDepth 100000 in
set_option maxHeartbeats 2000000 in
theorem owned_any (x : Sum) (h1 : x.hd.size ≤ 281474976710656) (h2 : x.tl.size ≤ 281474976710656) (w : World) : Calls Tryd.prog 52 #[sv x] w fun e w' => e = .returned (sv x) ∧ Below w.heap.size w w' := by
  have C1 : Hid (∀ W, OW w x W → Calls Tryd.prog 30 #[.string x.hd] W fun e w' => e = .returned (.string x.hd) ∧ OW w x w') := fun W h => (sclone_any x.hd h1 W).mono fun _ _ ⟨e, hb⟩ => ⟨e, h.below hb⟩
  have C2 : Hid (∀ W, OW w x W → Calls Tryd.prog 30 #[.string x.tl] W fun e w' => e = .returned (.string x.tl) ∧ OW w x w') := fun W h => (sclone_any x.tl h2 W).mono fun _ _ ⟨e, hb⟩ => ⟨e, h.below hb⟩
  obtain ⟨W0, hW0⟩ : ∃ W0, (w.alloc (.cells (scs x) 42)).alloc (.cells #[.int .i64 0, .int .i64 0, .int .i64 0, .int .i64 0, .int .i64 0, .string ⟨#[]⟩, .string ⟨#[]⟩] 42) = W0 := ⟨_, rfl⟩
  have HO : Hid (OW w x W0) := by
    obtain ⟨p0, p1⟩ := push2' w.heap (.cells (scs x) 42) (.cells (scs sm0) 42)
    show OW w x W0
    rw [← hW0]
    exact ⟨p0, p1, ((Below.refl _ w).alloc (Nat.le_refl _) _).alloc (by simp) _⟩
  clear h1 h2
  go_enter Tryd.func52, Tryd.ntmps52
  go_wp2
  go_region_held3 (fun w' => w'.cell? ⟨w.heap.size, 5, none⟩ = some (.string x.hd) ∧ w'.cell? ⟨w.heap.size, 6, none⟩ = some (.string x.tl)) (first | exact HO.out.cells | exact HO.out.drew.cells | exact HO.out.set5.cells | exact HO.out.set6.cells | exact HO.out.set5.set6.cells | exact HO.out.set6.set5.cells) (first | (go_at_call 30; refine (C1.out _ HO.out.drew).mono ?_; clear C1; rintro e w1 ⟨rfl, h⟩; have HO1 : Hid (OW w x w1) := h; clear h HO; have HO := HO1; clear HO1) | (go_at_call 30; refine (C1.out _ HO.out).mono ?_; clear C1; rintro e w1 ⟨rfl, h⟩; have HO1 : Hid (OW w x w1) := h; clear h HO; have HO := HO1; clear HO1) | (go_at_call 30; refine (C2.out _ HO.out).mono ?_; clear C2; rintro e w2 ⟨rfl, h⟩; have HO1 : Hid (OW w x w2) := h; clear h HO; have HO := HO1; clear HO1; obtain ⟨⟨x0, x1, x2, x3, x4, x5, x6⟩, g0, g1, g2, g3, g4, g5, g6⟩ := box7 HO.out.a; obtain ⟨⟨z0, z1, z2, z3, z4, z5, z6⟩, f0, f1, f2, f3, f4, f5, f6⟩ := box7 HO.out.r))
  obtain ⟨W3, hW3⟩ : ∃ W3, (w2.setCell ⟨w.heap.size, 5, none⟩ (.string x.hd)).setCell ⟨w.heap.size, 6, none⟩ (.string x.tl) = W3 := ⟨_, rfl⟩
  have HO3 : Hid (OW w x W3) := by show OW _ _ _; rw [← hW3]; exact HO.out.set5.set6
  clear x0 x1 x2 x3 x4 x5 x6 g0 g1 g2 g3 g4 g5 g6 z0 z1 z2 z3 z4 z5 z6 f0 f1 f2 f3 f4 f5 f6 HO hW0
  rw [hW3]
  clear hW3
  obtain ⟨⟨x0, x1, x2, x3, x4, x5, x6⟩, -⟩ := box7 HO3.out.a
  obtain ⟨⟨z0, z1, z2, z3, z4, z5, z6⟩, f0, f1, f2, f3, f4, f5, f6⟩ := box7 HO3.out.r
  have hl : w.heap.size + 1 < W3.heap.size := (Array.getElem?_eq_some_iff.1 HO3.out.r).1
  go_wp2
  exact bodyPost_ret (v := sv x) (by simp [results, Tryd.results52, go_sem, z0, z1, z2, z3, z4, z5, z6]) rfl ⟨rfl, set7_at HO3.out.bel (by omega) _ _ _ _ _ _ _⟩

end Go.Proofs.YtiehhafbblbbiabDoor
