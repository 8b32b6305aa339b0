/-
  A buffer of package gap in plain words, one that is there or none: orEmpty, Len, Cap, Place, Limit, fits. No conditions beyond.
-/
import Derived.Test.YtgagpmeknpjkpaaGreatDoorGPiece
import Derived.Test.YtgagpmeknpjkpaaGreatDoorGExch
namespace Go.Proofs.YtgagpmeknpjkpaaGreatDoor
open Go.RowKit Bod

theorem ext_list (s : ByteArray) (x y : Nat) : s.extract x y = ⟨((s.data.toList.drop x).take (y - x)).toArray⟩ := by
  apply ByteArray.ext
  apply Array.toList_inj.1
  simp [Array.toList_extract, List.extract_eq_take_drop]
theorem sz_list (s : ByteArray) : s.data.toList.length = s.size := by rw [Lib.size_eq]
/-- the empty buffer with the limit 0 -/
def g0 : Gp := ⟨eBA, 0, 0⟩
theorem g0_ok : g0.ok := ⟨Nat.le_refl _, Nat.le_refl _, by decide⟩
/-- the block b is the buffer g, with the capacity n -/
structure PB (W : World) (b : Nat) (r : Option Nat) (g : Gp) (n : Nat) : Prop where
  ex : ∃ A e, PA W b r A g.p e g.l ∧ Gap A g.p e g.s.data.toList ∧ A.length = n
  cap : n ≤ 2 * max g.s.size 64
  lm : n ≤ g.l
  ok : g.ok
theorem PB.lt {W : World} {b : Nat} {r : Option Nat} {g : Gp} {n : Nat} (h : PB W b r g n) : b < W.heap.size := by
  obtain ⟨A, e, h1, _⟩ := h.ex
  exact h1.lt
theorem PB.small {W : World} {b : Nat} {r : Option Nat} {g : Gp} {n : Nat} (h : PB W b r g n) : n ≤ 4294967296 := by
  have := h.cap; have := h.ok.2; omega
theorem PB.full {W : World} {b : Nat} {r : Option Nat} {g : Gp} {n : Nat} (h : PB W b r g n) : g.s.size ≤ n := by
  obtain ⟨A, e, _, h2, h3⟩ := h.ex
  have := h2.pe; have := h2.eA
  have h4 := h2.len
  rw [sz_list] at h4
  omega
theorem PB.below {W W' : World} {b : Nat} {r : Option Nat} {g : Gp} {n : Nat} (h : PB W b r g n) (hb : Below W.heap.size W W') : PB W' b r g n :=
  ⟨h.ex.imp fun _ h => h.imp fun _ h => ⟨h.1.below hb, h.2⟩, h.cap, h.lm, h.ok⟩
theorem PB.kept {W W' : World} {b b' : Nat} {r r' : Option Nat} {g : Gp} {n : Nat} (h : PB W b r g n) (hc : Ch b' r' W W') (h1 : b ≠ b') (h2 : r' ≠ some b) (h3 : ∀ k, r = some k → k ≠ b' ∧ r' ≠ some k) : PB W' b r g n :=
  ⟨h.ex.imp fun _ h => h.imp fun _ h => ⟨h.1.kept hc h1 h2 h3, h.2⟩, h.cap, h.lm, h.ok⟩
theorem PB.row {W : World} {b : Nat} {r : Option Nat} {g : Gp} {n : Nat} (h : PB W b r g n) {k : Nat} (hk : r = some k) : k ≠ b ∧ k < W.heap.size := by
  obtain ⟨A, e, h1, _⟩ := h.ex
  exact ⟨(h1.row k hk).1, h1.rlt hk⟩
/-- the value v is the buffer g, with the capacity n: a block and its row, or none -/
def Is (W : World) (v : Value) : Option (Nat × Option Nat) → Gp → Nat → Prop
  | none, g, n => v = .pointer none ∧ g = g0 ∧ n = 0
  | some (b, r), g, n => v = .pointer (some ⟨b, 0, none⟩) ∧ PB W b r g n
def Chs : Option (Nat × Option Nat) → World → World → Prop
  | none, w, w' => Below w.heap.size w w'
  | some (b, r), w, w' => Ch b r w w'
def Nws (w : World) : Option (Nat × Option Nat) → Option (Nat × Option Nat) → Prop
  | none, o2 => o2 = none
  | some (b, r), o2 => ∃ r2, o2 = some (b, r2) ∧ Nw w r r2
theorem Is.ok {W : World} {v : Value} {o : Option (Nat × Option Nat)} {g : Gp} {n : Nat} (h : Is W v o g n) : g.ok := by
  cases o with
  | none => obtain ⟨_, rfl, _⟩ := h; exact g0_ok
  | some x => exact h.2.ok
theorem Is.below {W W' : World} {v : Value} {o : Option (Nat × Option Nat)} {g : Gp} {n : Nat} (h : Is W v o g n) (hb : Below W.heap.size W W') : Is W' v o g n := by
  cases o with
  | none => exact h
  | some x => exact ⟨h.1, h.2.below hb⟩
theorem Chs.below {o : Option (Nat × Option Nat)} {w w' : World} (h : Below w.heap.size w w') : Chs o w w' := by
  cases o with
  | none => exact h
  | some x => exact Ch.below h
theorem Nws.refl (w : World) (o : Option (Nat × Option Nat)) : Nws w o o := by
  cases o with
  | none => rfl
  | some x => exact ⟨_, rfl, .inl rfl⟩
/-- what the call of orEmpty leaves -/
structure Od (w : World) (v : Value) (o : Option (Nat × Option Nat)) (g : Gp) (n : Nat) (b : Nat) (r : Option Nat) (w1 : World) : Prop where
  pb : PB w1 b r g n
  bel : Below w.heap.size w w1
  fin : ∀ w2 r2 g2 n2, Ch b r w1 w2 → Nw w1 r r2 → PB w2 b r2 g2 n2 → (g = g0 → g2 = g0) → ∃ o2, Is w2 v o2 g2 n2 ∧ Chs o w w2 ∧ Nws w o o2

set_option maxRecDepth 100000 in
set_option maxHeartbeats 1000000 in
theorem ore_is {w : World} {v : Value} {o : Option (Nat × Option Nat)} {g : Gp} {n : Nat} (h : Is w v o g n) :
    Calls Tryz.prog 42 #[v] w fun x w1 => ∃ b r, x = .returned (.pointer (some ⟨b, 0, none⟩)) ∧ Od w v o g n b r w1 := by
  cases o with
  | some x =>
    obtain ⟨b, r⟩ := x
    obtain ⟨rfl, h2⟩ := h
    exact (ore_any b w).mono fun x w1 ⟨e1, e2⟩ => ⟨b, r, e1, by rw [e2]; exact h2, by rw [e2]; exact Below.refl _ _, fun w2 r2 g2 n2 q1 q2 q3 _ => ⟨some (b, r2), ⟨rfl, q3⟩, by rw [e2] at q1; exact q1, ⟨r2, rfl, by rw [e2] at q2; exact q2⟩⟩⟩
  | none =>
    obtain ⟨rfl, rfl, rfl⟩ := h
    have hnew : (w.alloc (.cells #[.slice none 0 0, .int .i64 0, .int .i64 0, .int .i64 0] 41)).heap[w.heap.size]? = some (.cells #[.slice none 0 0, .int .i64 0, .int .i64 0, .int .i64 0] 41 (0, 0)) := World.alloc_heap_new w _
    have hB : Below w.heap.size w (w.alloc (.cells #[.slice none 0 0, .int .i64 0, .int .i64 0, .int .i64 0] 41)) := (Below.refl _ w).alloc (Nat.le_refl _) _
    have HO : Hid (Od w (.pointer none) none g0 0 w.heap.size none (w.alloc (.cells #[.slice none 0 0, .int .i64 0, .int .i64 0, .int .i64 0] 41))) := by
      refine ⟨⟨⟨[], 0, ⟨hnew, fun k hk => (by cases hk), fun _ => rfl⟩, ⟨Nat.le_refl _, Nat.le_refl _, rfl⟩, rfl⟩, by decide, Nat.le_refl _, g0_ok⟩, hB, fun w2 r2 g2 n2 q1 q2 q3 q4 => ?_⟩
      obtain rfl := q4 rfl
      refine ⟨none, ⟨rfl, rfl, Nat.le_zero.1 q3.lm⟩, ?_, rfl⟩
      have hs : w.heap.size ≤ (w.alloc (.cells #[.slice none 0 0, .int .i64 0, .int .i64 0, .int .i64 0] 41)).heap.size := hB.size
      exact ⟨q1.1.trans hB.os, q1.2.1.trans hB.tape, q1.2.2.1.trans hB.output, Nat.le_trans hs q1.2.2.2.1, fun k hk => by
        rw [q1.2.2.2.2 k (by omega) (by omega) (fun e => by cases e)]
        exact hB.block k hk⟩
    clear hnew hB
    go_enter Tryz.func42, Tryz.ntmps42
    go_wp2
    go_ret
    exact ⟨_, _, rfl, HO.out⟩

set_option maxRecDepth 100000 in
set_option maxHeartbeats 1000000 in
theorem len_is {w : World} {v : Value} {o : Option (Nat × Option Nat)} {g : Gp} {n : Nat} (h : Is w v o g n) :
    Calls Tryz.prog 15 #[v] w fun x w' => x = .returned (.int .i64 g.s.size) ∧ Below w.heap.size w w' := by
  have CO := ore_is h
  clear h
  go_enter Tryz.func15, Tryz.ntmps15
  go_wp2_with (go_at_call 42; refine CO.mono ?_; clear CO; rintro x w1 ⟨b, r, rfl, hO⟩; have HO : Hid (Od w v o g n b r w1) := hO; obtain ⟨A, e, hP, hg, hA⟩ := hO.pb.ex; obtain ⟨⟨c0, c1, c2, c3⟩, -⟩ := box4 hP.box; rw [hA] at c0; have k1 : IntKind.i64.wrap ((g.p : Int) + n) = (g.p : Int) + n := (by have := hO.pb.small; have := hO.pb.ok.1; have := hO.pb.ok.2; rw [IntKind.wrap_i64]; omega); have HF : Hid ((g.p : Int) + n - e = g.s.size) := (show _ = _ by have h1 := hg.len; have h2 := hg.eA; rw [sz_list] at h1; omega); have k2 : IntKind.i64.wrap ((g.p : Int) + n - e) = (g.p : Int) + n - e := (by have := HF.out; have := hO.pb.ok.2; rw [IntKind.wrap_i64]; omega); clear hO hP hg hA)
  go_quiet (fail)
  go_wp2
  go_ret
  exact ⟨ret_int HF.out, belN HO.out.bel _⟩

set_option maxRecDepth 100000 in
set_option maxHeartbeats 1000000 in
theorem cap_is {w : World} {v : Value} {o : Option (Nat × Option Nat)} {g : Gp} {n : Nat} (h : Is w v o g n) :
    Calls Tryz.prog 16 #[v] w fun x w' => x = .returned (.int .i64 n) ∧ Below w.heap.size w w' := by
  have CO := ore_is h
  clear h
  go_enter Tryz.func16, Tryz.ntmps16
  go_wp2_with (go_at_call 42; refine CO.mono ?_; clear CO; rintro x w1 ⟨b, r, rfl, hO⟩; have HO : Hid (Od w v o g n b r w1) := hO; obtain ⟨A, e, hP, hg, hA⟩ := hO.pb.ex; obtain ⟨⟨c0, c1, c2, c3⟩, -⟩ := box4 hP.box; rw [hA] at c0; clear hO hP hg hA)
  go_ret
  exact ⟨rfl, HO.out.bel⟩

set_option maxRecDepth 100000 in
set_option maxHeartbeats 1000000 in
theorem place_is {w : World} {v : Value} {o : Option (Nat × Option Nat)} {g : Gp} {n : Nat} (h : Is w v o g n) :
    Calls Tryz.prog 17 #[v] w fun x w' => x = .returned (.int .i64 g.p) ∧ Below w.heap.size w w' := by
  have CO := ore_is h
  clear h
  go_enter Tryz.func17, Tryz.ntmps17
  go_wp2_with (go_at_call 42; refine CO.mono ?_; clear CO; rintro x w1 ⟨b, r, rfl, hO⟩; have HO : Hid (Od w v o g n b r w1) := hO; obtain ⟨A, e, hP, hg, hA⟩ := hO.pb.ex; obtain ⟨⟨c0, c1, c2, c3⟩, -⟩ := box4 hP.box; clear hO hP hg hA)
  go_ret
  exact ⟨rfl, HO.out.bel⟩

set_option maxRecDepth 100000 in
set_option maxHeartbeats 1000000 in
theorem limit_is {w : World} {v : Value} {o : Option (Nat × Option Nat)} {g : Gp} {n : Nat} (h : Is w v o g n) :
    Calls Tryz.prog 18 #[v] w fun x w' => x = .returned (.int .i64 g.l) ∧ Below w.heap.size w w' := by
  have CO := ore_is h
  clear h
  go_enter Tryz.func18, Tryz.ntmps18
  go_wp2_with (go_at_call 42; refine CO.mono ?_; clear CO; rintro x w1 ⟨b, r, rfl, hO⟩; have HO : Hid (Od w v o g n b r w1) := hO; obtain ⟨A, e, hP, hg, hA⟩ := hO.pb.ex; obtain ⟨⟨c0, c1, c2, c3⟩, -⟩ := box4 hP.box; clear hO hP hg hA)
  go_ret
  exact ⟨rfl, HO.out.bel⟩

theorem len_pb {w : World} {b : Nat} {r : Option Nat} {g : Gp} {n : Nat} (h : PB w b r g n) :
    Calls Tryz.prog 15 #[.pointer (some ⟨b, 0, none⟩)] w fun x w' => x = .returned (.int .i64 g.s.size) ∧ ∃ k, w' = w.drewN k := by
  obtain ⟨A, e, hP, hg, hA⟩ := h.ex
  have h1 := hg.len
  rw [sz_list] at h1
  have := len_any w hP hg.pe hg.eA (by rw [hA]; exact h.small)
  rw [← h1] at this
  exact this

set_option maxRecDepth 100000 in
set_option maxHeartbeats 1000000 in
theorem fits_pb {w : World} {b : Nat} {r : Option Nat} {g : Gp} {n : Nat} (h : PB w b r g n) (c : Nat) (hc : c ≤ g.s.size) (put : ByteArray) :
    Calls Tryz.prog 47 #[.pointer (some ⟨b, 0, none⟩), .int .i64 c, .string put] w fun x w' => x = .returned (.bool (decide (g.s.size - c + put.size ≤ g.l))) ∧ ∃ k, w' = w.drewN k := by
  obtain ⟨A, e, hP, hg, hA⟩ := h.ex
  obtain ⟨⟨c0, c1, c2, c3⟩, -⟩ := box4 hP.box
  obtain ⟨o1, o2, o3⟩ := h.ok
  obtain ⟨z, hz⟩ : ∃ z, g.s.size - c = z := ⟨_, rfl⟩
  obtain ⟨y, hy⟩ : ∃ y, g.l - z = y := ⟨_, rfl⟩
  have k1 : IntKind.i64.wrap ((g.s.size : Int) - c) = z := by rw [IntKind.wrap_i64]; omega
  have k2 : IntKind.i64.wrap ((g.l : Int) - z) = y := by rw [IntKind.wrap_i64]; omega
  have HF : Hid (decide (put.size ≤ y) = decide (g.s.size - c + put.size ≤ g.l)) := by
    show _ = _
    rw [decide_eq_decide]
    omega
  have hL : ∀ k, Calls Tryz.prog 15 #[.pointer (some ⟨b, 0, none⟩)] (w.drewN k) fun x w' => x = .returned (.int .i64 g.s.size) ∧ ∃ k, w' = w.drewN k := fun k => by
    have hk : PB (w.drewN k) b r g n := ⟨h.ex.imp fun _ h => h.imp fun _ h => ⟨h.1.drewN k, h.2⟩, h.cap, h.lm, h.ok⟩
    exact (len_pb hk).mono fun x w' ⟨e1, j, e2⟩ => ⟨e1, k + j, by rw [e2]; simp⟩
  have HL : Hid (∀ k, Calls Tryz.prog 15 #[.pointer (some ⟨b, 0, none⟩)] (w.drewN k) fun x w' => x = .returned (.int .i64 g.s.size) ∧ ∃ k, w' = w.drewN k) := hL
  clear h hP hg hA hz hy hL o1 o2 o3
  go_enter Tryz.func47, Tryz.ntmps47
  go_wp2
  go_quiet ((go_at_call 15; exact HL.out _))
  go_wp2
  go_ret
  exact ⟨ret_bool HF.out, ⟨_, rfl⟩⟩
end Go.Proofs.YtgagpmeknpjkpaaGreatDoor
