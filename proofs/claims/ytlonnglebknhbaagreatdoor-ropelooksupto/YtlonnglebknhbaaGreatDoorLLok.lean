/-
  The law RopeLooks returns true for every text and all numbers: Slice, Measure and Split answer what the document says. Its conditions: the text holds at most 1048576 letters; the two tables of unicode/utf8 start as the program's text lays them (the card ties that).
-/
import Derived.Test.YtlonnglebknhbaaGreatDoorRRight
import Derived.Test.YtlonnglebknhbaaGreatDoorRLaw
import Derived.Test.YtlonnglebknhbaaGreatDoorRRefR
namespace Go.Proofs.YtlonnglebknhbaaGreatDoor.ropeLooks
open Go.RowKit Go.Shelf Bod Wid

abbrev ptr (b : Nat) : Value := .pointer (some ⟨b, 0, none⟩)
abbrev prs (i j n : Int) : Array Value := #[.int .i64 i, .int .i64 j, .int .i64 j, .int .i64 i, .int .i64 0, .int .i64 n, .int .i64 i, .int .i64 n, .int .i64 0, .int .i64 j]
abbrev nbs (i j n : Int) : Array Value := #[.int .i64 i, .int .i64 j, .int .i64 0, .int .i64 n, .int .i64 (n + 1), .int .i64 (-1)]
/-- the rope, the document's, and what else lies in memory -/
structure St (w : World) (s : ByteArray) (b f : Nat) (W : World) : Prop where
  r : Rp W (tof s) (ptr b)
  f : W.heap[f]? = some (.cells #[.string s] 28 (0, 0))
  b : Below w.heap.size w W
theorem kp {X Y : World} {k : Nat} {o : Obj} (hb : Below X.heap.size X Y) (ho : X.heap[k]? = some o) : Y.heap[k]? = some o := (hb.block _ (Array.getElem?_eq_some_iff.1 ho).1).trans ho
theorem St.below {w W X : World} {s : ByteArray} {b f : Nat} (h : St w s b f W) (hb : Below W.heap.size W X) : St w s b f X := ⟨h.r.below hb, kp hb h.f, Below.on h.b hb⟩
theorem lt_of {W : World} {k : Nat} {o : Obj} (h : W.heap[k]? = some o) : k < W.heap.size := (Array.getElem?_eq_some_iff.1 h).1
theorem c1 {W : World} {k : Nat} {v : Value} {t : TypeId} (h : W.heap[k]? = some (.cells #[v] t (0, 0))) : W.cell? ⟨k, 0, none⟩ = some v := by unfold World.cell?; rw [h]; rfl
theorem c2 {W : World} {k : Nat} {v u : Value} {t : TypeId} (h : W.heap[k]? = some (.cells #[v, u] t (0, 0))) : W.cell? ⟨k, 0, none⟩ = some v ∧ W.cell? ⟨k, 1, none⟩ = some u := by unfold World.cell?; rw [h]; exact ⟨rfl, rfl⟩
theorem pr_cell {W : World} {g k : Nat} {i j n : Int} {t : TypeId} (h : W.heap[g]? = some (.cells (prs i j n) t (0, 0))) (hk : k < 5) : ∃ x y : Int, W.cell? ⟨g, k * 2, none⟩ = some (.int .i64 x) ∧ W.cell? ⟨g, k * 2 + 1, none⟩ = some (.int .i64 y) ∧ (x = i ∨ x = j ∨ x = 0 ∨ x = n) ∧ (y = i ∨ y = j ∨ y = 0 ∨ y = n) := by
  unfold World.cell?
  rw [h]
  match k, hk with
  | 0, _ => exact ⟨i, j, rfl, rfl, by simp, by simp⟩
  | 1, _ => exact ⟨j, i, rfl, rfl, by simp, by simp⟩
  | 2, _ => exact ⟨0, n, rfl, rfl, by simp, by simp⟩
  | 3, _ => exact ⟨i, n, rfl, rfl, by simp, by simp⟩
  | 4, _ => exact ⟨0, j, rfl, rfl, by simp, by simp⟩
theorem nb_cell {W : World} {g k : Nat} {i j n : Int} {t : TypeId} (h : W.heap[g]? = some (.cells (nbs i j n) t (0, 0))) (hk : k < 6) : ∃ a : Int, W.cell? ⟨g, k, none⟩ = some (.int .i64 a) ∧ (a = i ∨ a = j ∨ a = 0 ∨ a = n ∨ a = n + 1 ∨ a = -1) := by
  unfold World.cell?
  rw [h]
  match k, hk with
  | 0, _ => exact ⟨i, rfl, by simp⟩
  | 1, _ => exact ⟨j, rfl, by simp⟩
  | 2, _ => exact ⟨0, rfl, by simp⟩
  | 3, _ => exact ⟨n, rfl, by simp⟩
  | 4, _ => exact ⟨n + 1, rfl, by simp⟩
  | 5, _ => exact ⟨-1, rfl, by simp⟩
/-- the box of a pair -/
def Pb (W : World) (bx : Nat) (x y : Int) : Prop := W.heap[bx]? = some (.cells #[.int .i64 x, .int .i64 y] 40 (0, 0))
/-- .. and the row of pairs, the row of numbers -/
def Sl (w : World) (s : ByteArray) (i j : Int) (b f g : Nat) (W : World) : Prop := St w s b f W ∧ W.heap[g]? = some (.cells (prs i j s.size) 40 (0, 0))
def Sn (w : World) (s : ByteArray) (i j : Int) (b f g : Nat) (W : World) : Prop := St w s b f W ∧ W.heap[g]? = some (.cells (nbs i j s.size) 3 (0, 0))
theorem Sl.below {w W X : World} {s : ByteArray} {i j : Int} {b f g : Nat} (h : Sl w s i j b f g W) (hb : Below W.heap.size W X) : Sl w s i j b f g X := ⟨h.1.below hb, kp hb h.2⟩
theorem Sn.below {w W X : World} {s : ByteArray} {i j : Int} {b f g : Nat} (h : Sn w s i j b f g W) (hb : Below W.heap.size W X) : Sn w s i j b f g X := ⟨h.1.below hb, kp hb h.2⟩
set_option maxRecDepth 100000 in
set_option maxHeartbeats 2000000 in
theorem walk (s : ByteArray) (i j : Int) (hs : s.size ≤ 1048576) (_hi : -9223372036854775808 ≤ i ∧ i ≤ 9223372036854775807) (_hj : -9223372036854775808 ≤ j ∧ j ≤ 9223372036854775807) (w : World) (hE : Ev w) :
    Calls Tryz.prog 4 #[.string s, .int .i64 i, .int .i64 j] w fun e w' => e = .returned (.bool true) ∧ Below w.heap.size w w' := by
  have tT := tof_text s
  have hB : (tof s).text.size ≤ B40 := by rw [tT]; unfold B40; omega
  have C0 : Hid (Calls Tryz.prog 9 #[] w fun e W' => e = .returned (.bool true) ∧ Hid (Below w.heap.size w W')) := (holds_any w hE).mono fun e W' ⟨h1, h2⟩ => ⟨h1, h2⟩
  have C1 : Hid (∀ W, Hid (Below w.heap.size w W) → Calls Tryz.prog 10 #[.string s] W fun e W' => ∃ b, e = .returned (ptr b) ∧ Hid (Rp W' (tof s) (ptr b) ∧ Below w.heap.size w W')) := fun W hW => (rnew_any s (by unfold B40; omega) W (hE.below hW)).mono fun e W' h => by
    obtain ⟨b, h1, h2, h3⟩ := MkR.rp h
    exact ⟨b, h1, h2, Below.on hW h3⟩
  have C2 : Hid (∀ W b, Hid (Rp W (tof s) (ptr b) ∧ Below w.heap.size w W) → Calls Tryz.prog 11 #[.string s] W fun e W' => e = .returned (vr s) ∧ Hid (St w s b W'.heap.size (W'.alloc (.cells #[.string s] 28)))) := fun W b ⟨h1, hW⟩ => (fnew_any s W).mono fun e W' ⟨k1, k2⟩ => by
    have hb := (Below.refl _ W').alloc (Nat.le_refl _) (.cells #[.string s] 28)
    exact ⟨k1, (h1.below k2).below hb, World.alloc_heap_new W' _, Below.on (Below.on hW k2) hb⟩
  have D1 : Hid (∀ (W : World) b f g bx x y, Hid (Pb W bx x y ∧ Sl w s i j b f g W) → Calls Tryz.prog 15 #[ptr b, .int .i64 x, .int .i64 y] W fun e W' => e = .returned (.tuple #[.string (slR s x y).1, .int .i64 (slR s x y).2]) ∧ Hid (Pb W' bx x y ∧ Sl w s i j b f g W')) := fun W b f g bx x y ⟨h0, h1⟩ => (rslice_any h1.1.r hB x y).mono fun e W' ⟨k1, k2⟩ => ⟨by rw [k1, tT], kp k2 h0, h1.below k2⟩
  have D2 : Hid (∀ (W : World) b f g bx x y, Hid (Pb W bx x y ∧ Sl w s i j b f g W) → Calls Tryz.prog 16 #[vr s, .int .i64 x, .int .i64 y] W fun e W' => e = .returned (.tuple #[.string (slR s x y).1, .int .i64 (slR s x y).2]) ∧ Hid (Pb W' bx x y ∧ Sl w s i j b f g W')) := fun W b f g bx x y ⟨h0, h1⟩ => (fslice_any s x y W).mono fun e W' ⟨k1, k2⟩ => ⟨k1, kp k2 h0, h1.below k2⟩
  have D3 : Hid (∀ (W : World) b f g bx x y, Hid (Pb W bx x y ∧ Sl w s i j b f g W) → Calls Tryz.prog 17 #[ptr b, .int .i64 x, .int .i64 y] W fun e W' => e = .returned (.tuple #[sv (msR s x y).1, .int .i64 (msR s x y).2]) ∧ Hid (Pb W' bx x y ∧ Sl w s i j b f g W' ∧ Hid (Sl w s i j b f g (W'.alloc (.cells (scs (msR s x y).1) 45))))) := fun W b f g bx x y ⟨h0, h1⟩ => (rmeas_any h1.1.r hB x y (hE.below h1.1.b)).mono fun e W' ⟨k1, k2⟩ => ⟨by rw [k1, tT], kp k2 h0, h1.below k2, (h1.below k2).below ((Below.refl _ W').alloc (Nat.le_refl _) _)⟩
  have D4 : Hid (∀ (W : World) b f g x y (m : Sum), Hid (Sl w s i j b f g (W.alloc (.cells (scs m) 45))) → Calls Tryz.prog 18 #[vr s, .int .i64 x, .int .i64 y] (W.alloc (.cells (scs m) 45)) fun e W' => e = .returned (.tuple #[sv (msR s x y).1, .int .i64 (msR s x y).2]) ∧ Hid (W'.heap[W.heap.size]? = some (.cells (scs m) 45 (0, 0)) ∧ Sl w s i j b f g W')) := fun W b f g x y m h1 => (fmeas_any s (by omega) x y _).mono fun e W' ⟨k1, k2⟩ => ⟨k1, kp k2 (World.alloc_heap_new W _), h1.out.below k2⟩
  have E1 : Hid (∀ (W : World) b f g m, m ≤ s.size → Hid (Sn w s i j b f g W) → Calls Tryz.prog 19 #[ptr b, .int .i64 (m : Nat)] W fun e W' => ∃ x y, e = .returned (.tuple #[ptr x, ptr y, .int .i64 0]) ∧ Hid (Rp W' (spl (tof s) m).1 (ptr x) ∧ Rp W' (spl (tof s) m).2 (ptr y) ∧ Sn w s i j b f g W')) := fun W b f g m hm h1 => (rsplit_ok h1.out.1.r (tof_good s) m hB (by rw [tT]; exact hm) (hE.below h1.out.1.b)).mono fun e W' ⟨x, y, k1, k2, k3, k4⟩ => ⟨x, y, k1, k2, k3, h1.out.below k4⟩
  have E2 : Hid (∀ (W : World) b f g m x y, m ≤ s.size → Hid (Rp W (spl (tof s) m).1 (ptr x) ∧ Rp W (spl (tof s) m).2 (ptr y) ∧ Sn w s i j b f g W) → Calls Tryz.prog 20 #[vr s, .int .i64 (m : Nat)] W fun e W' => e = .returned (.tuple #[vr (s.extract 0 m), vr (s.extract m s.size), .int .i64 0]) ∧ Hid (Rp ((W'.alloc (.cells #[.string (s.extract 0 m)] 28)).alloc (.cells #[.string (s.extract m s.size)] 28)) (spl (tof s) m).1 (ptr x) ∧ Rp ((W'.alloc (.cells #[.string (s.extract 0 m)] 28)).alloc (.cells #[.string (s.extract m s.size)] 28)) (spl (tof s) m).2 (ptr y) ∧ ((W'.alloc (.cells #[.string (s.extract 0 m)] 28)).alloc (.cells #[.string (s.extract m s.size)] 28)).heap[W'.heap.size + 1]? = some (.cells #[.string (s.extract m s.size)] 28 (0, 0)) ∧ Sn w s i j b f g ((W'.alloc (.cells #[.string (s.extract 0 m)] 28)).alloc (.cells #[.string (s.extract m s.size)] 28)))) := fun W b f g m x y hm ⟨h1, h2, h3⟩ => (fsplit_ok s m hm W).mono fun e W' ⟨k1, k2⟩ => by
    have hb : Below W'.heap.size W' ((W'.alloc (.cells #[.string (s.extract 0 m)] 28)).alloc (.cells #[.string (s.extract m s.size)] 28)) := ((Below.refl _ W').alloc (Nat.le_refl _) _).alloc (by simp) _
    exact ⟨k1, (h1.below k2).below hb, (h2.below k2).below hb, (push2' W'.heap _ _).2, (h3.below k2).below hb⟩
  have E3 : Hid (∀ (W : World) b f g m x y (q : Nat), m ≤ s.size → Hid (Rp W (spl (tof s) m).1 (ptr x) ∧ Rp W (spl (tof s) m).2 (ptr y) ∧ W.heap[q]? = some (.cells #[.string (s.extract m s.size)] 28 (0, 0)) ∧ Sn w s i j b f g W) → Calls Tryz.prog 14 #[ptr x, .string (s.extract 0 m)] W fun e W' => e = .returned (.bool true) ∧ Hid (Rp W' (spl (tof s) m).2 (ptr y) ∧ W'.heap[q]? = some (.cells #[.string (s.extract m s.size)] 28 (0, 0)) ∧ Sn w s i j b f g W')) := fun W b f g m x y q hm ⟨h1, h2, h3, h4⟩ => by
    obtain ⟨s1, s2, -, -⟩ := spl_ok (n := m) (tof_good s) (by rw [tT]; exact hm)
    rw [tT] at s2
    have z : (s.extract 0 m).size ≤ s.size := by rw [size_extract _ _ _ hm]; omega
    have := right_any h1 s1 (by rw [s2]; omega) (hE.below h4.1.b)
    rw [s2] at this
    exact this.mono fun e W' ⟨k1, k2⟩ => ⟨k1, h2.below k2, kp k2 h3, h4.below k2⟩
  have E4 : Hid (∀ (W : World) b f g m y (q : Nat), m ≤ s.size → Hid (Rp W (spl (tof s) m).2 (ptr y) ∧ W.heap[q]? = some (.cells #[.string (s.extract m s.size)] 28 (0, 0)) ∧ Sn w s i j b f g W) → Calls Tryz.prog 14 #[ptr y, .string (s.extract m s.size)] W fun e W' => e = .returned (.bool true) ∧ Hid (Sn w s i j b f g W')) := fun W b f g m y q hm ⟨h2, h3, h4⟩ => by
    obtain ⟨-, -, s1, s2⟩ := spl_ok (n := m) (tof_good s) (by rw [tT]; exact hm)
    rw [tT] at s2
    have z : (s.extract m s.size).size ≤ s.size := by rw [size_extract _ _ _ (Nat.le_refl _)]; omega
    have := right_any h2 s1 (by rw [s2]; omega) (hE.below h4.1.b)
    rw [s2] at this
    exact this.mono fun e W' ⟨k1, k2⟩ => ⟨k1, h4.below k2⟩
  have E5 : Hid (∀ (W : World) b f g a, wthn s.size 0 a = false → Hid (Sn w s i j b f g W) → Calls Tryz.prog 19 #[ptr b, .int .i64 a] W fun e W' => e = .returned (.tuple #[.pointer none, .pointer none, .int .i64 1]) ∧ Hid (Sn w s i j b f g W')) := fun W b f g a ha h1 => (rsplit_no h1.out.1.r a (by rw [tT]; exact ha)).mono fun e W' ⟨k1, k4⟩ => ⟨k1, h1.out.below k4⟩
  have E6 : Hid (∀ (W : World) b f g a, wthn s.size 0 a = false → Hid (Sn w s i j b f g W) → Calls Tryz.prog 20 #[vr s, .int .i64 a] W fun e W' => e = .returned (.tuple #[vr ⟨#[]⟩, vr ⟨#[]⟩, .int .i64 1]) ∧ Hid (Sn w s i j b f g ((W'.alloc (.cells #[.string ⟨#[]⟩] 28)).alloc (.cells #[.string ⟨#[]⟩] 28)))) := fun W b f g a ha h1 => (fsplit_no s a ha W).mono fun e W' ⟨k1, k4⟩ => ⟨k1, (h1.out.below k4).below (((Below.refl _ W').alloc (Nat.le_refl _) _).alloc (by simp) _)⟩
  have F1 : Hid (∀ (W : World) b f g, Hid (Sn w s i j b f g W) → Calls Tryz.prog 14 #[ptr b, .string s] W fun e W' => e = .returned (.bool true) ∧ Below w.heap.size w W') := fun W b f g h1 => by
    have := right_any h1.out.1.r (tof_good s) (by rw [tT]; omega) (hE.below h1.out.1.b)
    rw [tT] at this
    exact this.mono fun e W' ⟨k1, k2⟩ => ⟨k1, Below.on h1.out.1.b k2⟩
  clear hE hB tT
  go_enter Tryz.func4, Tryz.ntmps4
  go_wp2_with (first | (go_at_call 9; refine C0.out.mono ?_; clear C0; rintro e w1 ⟨rfl, H⟩) | (go_at_call 10; refine (C1.out _ H).mono ?_; clear C1 H; rintro e w2 ⟨b, rfl, H⟩) | (go_at_call 11; refine (C2.out _ _ H).mono ?_; clear C2 H; rintro e w3 ⟨rfl, H⟩))
  go_loopw [52] (fun t52 wr => ∃ k : Nat, t52 = .int .i64 k ∧ k ≤ 5 ∧ Hid (Sl w s i j b w3.heap.size (w3.heap.size + 1) wr)) (fun t52 _ => 5 - (intOf t52).toNat)
  case atStart => exact ⟨0, rfl, Nat.zero_le _, H.out.below (((Below.refl _ _).alloc (Nat.le_refl _) _)), (push2' w3.heap _ _).2⟩
  case round =>
    clear H
    obtain ⟨k, rfl, hk, H⟩ := hrel
    by_cases c : k < 5
    · clear E1 E2 E3 E4 E5 E6 F1
      obtain ⟨x, y, cx, cy, ox, oy⟩ := pr_cell H.out.2 c
      have H1 : Hid (Pb (wr.alloc (.cells #[.int .i64 x, .int .i64 y] 40)) wr.heap.size x y ∧ Sl w s i j b w3.heap.size (w3.heap.size + 1) (wr.alloc (.cells #[.int .i64 x, .int .i64 y] 40))) := ⟨World.alloc_heap_new wr _, H.out.below ((Below.refl _ _).alloc (Nat.le_refl _) _)⟩
      have hg := lt_of H.out.2
      clear H
      obtain ⟨bx, hbx⟩ : ∃ n, wr.heap.size = n := ⟨_, rfl⟩
      rw [hbx] at H1
      have q1 := fun (m : Sum) W => sv_neq m W
      have LT : Hid (∀ (W : World) bx x y, Pb W bx x y ∧ Sl w s i j b w3.heap.size (w3.heap.size + 1) W → (W.cell? ⟨bx, 0, none⟩ = some (.int .i64 x) ∧ W.cell? ⟨bx, 1, none⟩ = some (.int .i64 y)) ∧ W.cell? ⟨w3.heap.size, 0, none⟩ = some (.string s) ∧ bx < W.heap.size ∧ w3.heap.size < W.heap.size) := fun W bx x y h => ⟨c2 h.1, c1 h.2.1.f, lt_of h.1, lt_of h.2.1.f⟩
      have D1' := fun W b f g bx => D1.out W b f g bx x y
      have D2' := fun W b f g bx => D2.out W b f g bx x y
      have D3' := fun W b f g bx => D3.out W b f g bx x y
      have D4' := fun W b f g => D4.out W b f g x y
      generalize slR s x y = A at D1' D2'
      generalize msR s x y = M at D3' D4'
      have D1 : Hid _ := D1'
      have D2 : Hid _ := D2'
      have D3 : Hid _ := D3'
      have D4 : Hid _ := D4'
      clear D1' D2' D3' D4'
      go_wp2_with (first | (go_at_call 15; refine (D1.out _ _ _ _ _ H1).mono ?_; clear D1 H1; rintro e w4 ⟨rfl, H⟩; obtain ⟨⟨p0, p1⟩, c8, l1, l2⟩ := LT.out _ _ _ _ H.out) | (go_at_call 16; refine (D2.out _ _ _ _ _ H).mono ?_; clear D2 H p0 p1 c8 l1 l2; rintro e w5 ⟨rfl, H⟩; obtain ⟨⟨p0, p1⟩, c8, l1, l2⟩ := LT.out _ _ _ _ H.out) | (go_at_call 17; refine (D3.out _ _ _ _ _ H).mono ?_; clear D3 H p0 p1 c8 l1 l2; rintro e w6 ⟨rfl, H⟩; obtain ⟨⟨p0, p1⟩, c8, l1, l2⟩ := LT.out _ _ _ _ ⟨H.out.1, H.out.2.1⟩; have H2 := H.out.2.2; clear H) | (go_at_call 18; refine (D4.out _ _ _ _ _ H2).mono ?_; clear D4 H2 p0 p1 c8 l1 l2; rintro e w7 ⟨rfl, H⟩; obtain ⟨⟨z0, z1, z2, z3, z4, z5, z6⟩, -⟩ := box7 H.out.1; have l3 := lt_of H.out.1))
      have hb := (Below.refl _ w7).alloc (Nat.le_refl _) (.cells (scs M.1) 45)
      exact ⟨⟨k + 1, by go_num, by omega, H.out.2.below hb⟩, by simp [intOf]; omega⟩
    · clear D1 D2 D3 D4
      have HS : Hid (St w s b w3.heap.size wr) := H.out.1
      clear H
      go_wp2
      obtain ⟨wo, hwo⟩ : ∃ wo, wo = wr := ⟨_, rfl⟩
      subst hwo
      go_loopw [120] (fun t120 wq => ∃ k : Nat, t120 = .int .i64 k ∧ k ≤ 6 ∧ Hid (Sn w s i j b w3.heap.size wo.heap.size wq)) (fun t120 _ => 6 - (intOf t120).toNat)
      case atStart => exact ⟨0, rfl, Nat.zero_le _, HS.out.below ((Below.refl _ _).alloc (Nat.le_refl _) _), World.alloc_heap_new wo _⟩
      case round =>
        clear HS
        obtain ⟨k, rfl, hk, H⟩ := hrel
        by_cases d : k < 6
        · obtain ⟨a, ca, oa⟩ := nb_cell H.out.2 d
          have c8 := c1 H.out.1.f
          clear F1
          cases hw : wthn s.size 0 a with
          | true =>
            clear E5 E6
            obtain ⟨m, rfl, hm⟩ : ∃ m : Nat, a = m ∧ m ≤ s.size := by
              simp [wthn] at hw
              exact ⟨a.toNat, by omega, by omega⟩
            clear hw
            have E1' := fun W b f g => E1.out W b f g m hm
            have E2' := fun W b f g x y => E2.out W b f g m x y hm
            have E3' := fun W b f g x y q => E3.out W b f g m x y q hm
            have E4' := fun W b f g y q => E4.out W b f g m y q hm
            generalize s.extract 0 m = X1 at E1' E2' E3' E4'
            generalize s.extract m s.size = X2 at E1' E2' E3' E4'
            generalize spl (tof s) m = SP at E1' E2' E3' E4'
            have E1 : Hid _ := E1'
            have E2 : Hid _ := E2'
            have E3 : Hid _ := E3'
            have E4 : Hid _ := E4'
            clear E1' E2' E3' E4'
            go_wp2_with (first | (go_at_call 19; refine (E1.out _ _ _ _ H).mono ?_; clear E1 H; rintro e w4 ⟨x, y, rfl, H⟩; have c8 := c1 H.out.2.2.1.f) | (go_at_call 20; refine (E2.out _ _ _ _ _ _ H).mono ?_; clear E2 H; rintro e w5 ⟨rfl, H⟩) | (go_at_call 14; refine (E3.out _ _ _ _ _ _ _ H).mono ?_; clear E3 H; rintro e w6 ⟨rfl, H⟩; have c25 := c1 H.out.2.1) | (go_at_call 14; refine (E4.out _ _ _ _ _ _ H).mono ?_; clear E4 H; rintro e w7 ⟨rfl, H⟩))
            exact ⟨⟨k + 1, by go_num, by omega, H⟩, by simp [intOf]; omega⟩
          | false =>
            clear E1 E2 E3 E4
            go_wp2_with (first | (go_at_call 19; refine (E5.out _ _ _ _ _ hw H).mono ?_; clear E5 H; rintro e w4 ⟨rfl, H⟩; have c8 := c1 H.out.1.f) | (go_at_call 20; refine (E6.out _ _ _ _ _ hw H).mono ?_; clear E6 H; rintro e w5 ⟨rfl, H⟩))
            exact ⟨⟨k + 1, by go_num, by omega, H⟩, by simp [intOf]; omega⟩
        · clear E1 E2 E3 E4 E5 E6
          go_wp2_with (go_at_call 14; refine (F1.out _ _ _ _ H).mono ?_; clear F1 H; rintro e w4 ⟨rfl, hb⟩)
          go_ret
          exact ⟨rfl, hb⟩
theorem walk_of {H : Type} (s : ByteArray) (i j : Int) (w : World) (hT : Lib.Utf8Tabs 1 2 w) (hlo0 : 1 < w.heap.size) (hlo1 : 2 < w.heap.size) (_hs : s.size ≤ 140737488351232) (hi : -9223372036854775808 ≤ i ∧ i ≤ 9223372036854775807) (hj : -9223372036854775808 ≤ j ∧ j ≤ 9223372036854775807) (hk : Rows.uptoSmall H ([DataW.lit (.string s.data.toList), DataW.lit (.int .i64 i), DataW.lit (.int .i64 j)] ++ []) = true) :
    Calls Tryz.prog 4 #[.string s, .int .i64 i, .int .i64 j] w fun e w' => e = .returned (.bool true) ∧ Below w.heap.size w w' := by
  have h : Rows.uptoBulkAll ([DataW.lit (H := H) (.string s.data.toList), DataW.lit (.int .i64 i), DataW.lit (.int .i64 j)] ++ []) ≤ 1048576 := of_decide_eq_true hk
  simp only [List.append_nil, Rows.uptoBulkAll, Rows.uptoBulk] at h
  exact walk s i j (by rw [Lib.size_eq]; omega) hi hj w ⟨hT, hlo0, hlo1⟩
end Go.Proofs.YtlonnglebknhbaaGreatDoor.ropeLooks
