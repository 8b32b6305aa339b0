/-
  A buffer of package gap beside the document's own one: the laws' looks, asks and works. Conditions: those of each theorem.
-/
import Derived.Test.YtgagpmeknpjkpaaGreatDoorPkP
import Derived.Test.YtgagpmeknpjkpaaGreatDoorGLaw
import Derived.Test.YtgagpmeknpjkpaaGreatDoorUOps
import Derived.Deep.RegionHeld3
namespace Go.Proofs.YtgagpmeknpjkpaaGreatDoor
open Go.RowKit Bod Wid

def NotIn : Option (Nat × Option Nat) → Nat → Prop
  | none, _ => True
  | some (b, r), k => k ≠ b ∧ r ≠ some k
/-- nothing but the two buffers is turned -/
def PCh (o : Option (Nat × Option Nat)) (d : Nat) (W W' : World) : Prop := W'.os = W.os ∧ W'.tape = W.tape ∧ W'.output = W.output ∧ W.heap.size ≤ W'.heap.size ∧ ∀ k, k < W.heap.size → k ≠ d → NotIn o k → W'.heap[k]? = W.heap[k]?
theorem PCh.refl (o : Option (Nat × Option Nat)) (d : Nat) (W : World) : PCh o d W W := ⟨rfl, rfl, rfl, Nat.le_refl _, fun _ _ _ _ => rfl⟩
theorem NotIn.next {o o1 : Option (Nat × Option Nat)} {W : World} (h : Nws W o o1) {k : Nat} (hk : k < W.heap.size) (hn : NotIn o k) : NotIn o1 k := by
  cases o with
  | none => cases h; trivial
  | some x =>
    obtain ⟨b, r⟩ := x
    obtain ⟨r2, rfl, h⟩ := h
    refine ⟨hn.1, ?_⟩
    rcases h with rfl | ⟨j, rfl, hj⟩
    · exact hn.2
    · intro e; cases e; omega
theorem PCh.trans {o o1 : Option (Nat × Option Nat)} {d : Nat} {W W1 W2 : World} (h : PCh o d W W1) (hn : Nws W o o1) (g : PCh o1 d W1 W2) : PCh o d W W2 :=
  ⟨g.1.trans h.1, g.2.1.trans h.2.1, g.2.2.1.trans h.2.2.1, Nat.le_trans h.2.2.2.1 g.2.2.2.1, fun k hk hd hi => by
    rw [g.2.2.2.2 k (Nat.lt_of_lt_of_le hk h.2.2.2.1) hd (hi.next hn hk), h.2.2.2.2 k hk hd hi]⟩
theorem Nws.trans {o o1 o2 : Option (Nat × Option Nat)} {W W1 : World} (h : Nws W o o1) (hs : W.heap.size ≤ W1.heap.size) (g : Nws W1 o1 o2) : Nws W o o2 := by
  cases o with
  | none => cases h; exact g
  | some x =>
    obtain ⟨r2, rfl, h⟩ := h
    obtain ⟨r3, rfl, g⟩ := g
    exact ⟨r3, rfl, h.trans hs g⟩
theorem PCh.below {o : Option (Nat × Option Nat)} {d : Nat} {W W' : World} (h : Below W.heap.size W W') : PCh o d W W' := ⟨h.os, h.tape, h.output, h.size, fun k hk _ _ => h.block k hk⟩
theorem PCh.prog {o : Option (Nat × Option Nat)} {d : Nat} {W W' : World} (h : Chs o W W') : PCh o d W W' := by
  cases o with
  | none => exact PCh.below h
  | some x => exact ⟨h.1, h.2.1, h.2.2.1, h.2.2.2.1, fun k hk _ hi => h.2.2.2.2 k hk hi.1 hi.2⟩
/-- the value v is the buffer gp of the program, the block d the document's gr; they share nothing -/
structure PP (W : World) (v : Value) (o : Option (Nat × Option Nat)) (d : Nat) (gp gr : Gp) (n : Nat) : Prop where
  is : Is W v o gp n
  rb : RB W d gr
  ap : NotIn o d
theorem PP.lt {W : World} {v : Value} {o : Option (Nat × Option Nat)} {d : Nat} {gp gr : Gp} {n : Nat} (h : PP W v o d gp gr n) : d < W.heap.size := h.rb.cells.2.2.2
theorem RB.low {W W' : World} {d : Nat} {g : Gp} (h : RB W d g) (hb : Below W.heap.size W W') : RB W' d g := (hb.block d h.cells.2.2.2).trans h
theorem PP.low {W W' : World} {v : Value} {o : Option (Nat × Option Nat)} {d : Nat} {gp gr : Gp} {n : Nat} (h : PP W v o d gp gr n) (hb : Below W.heap.size W W') : PP W' v o d gp gr n :=
  ⟨h.is.below hb, h.rb.low hb, h.ap⟩
theorem PP.prog {W W' : World} {v : Value} {o : Option (Nat × Option Nat)} {d : Nat} {gp gr g' : Gp} {n : Nat} {err : Int} (h : PP W v o d gp gr n) (k : Wk W v o n g' err W') : ∃ o' n', PP W' v o' d g' gr n' ∧ PCh o d W W' ∧ Nws W o o' ∧ (err ≠ 0 → n' = n) := by
  obtain ⟨o2, n2, i1, i2, i3, i4⟩ := k
  refine ⟨o2, n2, ⟨i1, ?_, h.ap.next i3 h.lt⟩, PCh.prog i2, i3, i4⟩
  cases o with
  | none => exact h.rb.low i2
  | some x => exact (i2.2.2.2.2 d h.lt h.ap.1 h.ap.2).trans h.rb
theorem PP.ref {W W' : World} {v : Value} {o : Option (Nat × Option Nat)} {d : Nat} {gp gr g' : Gp} {n : Nat} (h : PP W v o d gp gr n) (hg : W.grownBy W' (some d)) (hr : RB W' d g') : PP W' v o d gp g' n ∧ PCh o d W W' := by
  have hc : Ch d none W W' := ⟨hg.os, hg.tape, hg.output, hg.size, fun k hk hne _ => hg.block k hk (fun e => hne (Option.some.inj e))⟩
  refine ⟨⟨?_, hr, h.ap⟩, ⟨hc.1, hc.2.1, hc.2.2.1, hc.2.2.2.1, fun k hk hd _ => hc.2.2.2.2 k hk hd (fun e => by cases e)⟩⟩
  cases o with
  | none => exact h.is
  | some x =>
    obtain ⟨b, r⟩ := x
    exact ⟨h.is.1, h.is.2.kept hc (Ne.symm h.ap.1) (fun e => by cases e) (fun k hk => ⟨fun e => h.ap.2 (by rw [hk, e]), fun e => by cases e⟩)⟩

set_option maxRecDepth 100000 in
set_option maxHeartbeats 4000000 in
theorem looks_pp {W : World} {v : Value} {b : Nat} {r : Option Nat} {d : Nat} {g : Gp} {n : Nat} (h : PP W v (some (b, r)) d g g n) :
    Calls Tryz.prog 9 #[v, .pointer (some ⟨d, 0, none⟩)] W fun e W' => e = .returned (.bool true) ∧ Below W.heap.size W W' := by
  have HM : Hid (Tryz.prog.follows .mixedOrders = true) := by show _ = _; kernel_rfl
  have hok := h.is.ok
  obtain ⟨l, hl⟩ : ∃ l, g.s.extract 0 g.p = l := ⟨_, rfl⟩
  obtain ⟨t, ht⟩ : ∃ t, g.s.extract g.p g.s.size = t := ⟨_, rfl⟩
  have CH : Hid (Calls Tryz.prog 23 #[v] W fun e W' => e = .returned (.tuple #[.string l, .string t]) ∧ Below W.heap.size W W') := by
    rw [← hl, ← ht]; exact halves_is h.is
  have CR : Hid (∀ W1, Below W.heap.size W W1 → Calls Tryz.prog 25 #[.pointer (some ⟨d, 0, none⟩)] W1 fun e W' => e = .returned (.tuple #[.string l, .string t]) ∧ Below W.heap.size W W') := fun W1 h1 => by
    rw [← hl, ← ht]; exact (rhalves_any hok W1 (h.rb.low h1)).mono fun e W' ⟨q1, q2⟩ => ⟨q1, h1.trans (q2.mono h1.size)⟩
  have HQ : Hid (∀ W1, Below W.heap.size W W1 →
      (∀ dd os, Calls Tryz.prog 15 #[v] (Go.Sort.grow (redrawn W1 dd) os) fun e w'' => e = .returned (.int .i64 g.s.size) ∧ ∃ p : Regrown, w'' = Go.Sort.grow (redrawn W1 p.d) p.os) ∧
      (∀ dd os, Calls Tryz.prog 17 #[v] (Go.Sort.grow (redrawn W1 dd) os) fun e w'' => e = .returned (.int .i64 g.p) ∧ ∃ p : Regrown, w'' = Go.Sort.grow (redrawn W1 p.d) p.os) ∧
      (∀ dd os, Calls Tryz.prog 18 #[v] (Go.Sort.grow (redrawn W1 dd) os) fun e w'' => e = .returned (.int .i64 g.l) ∧ ∃ p : Regrown, w'' = Go.Sort.grow (redrawn W1 p.d) p.os) ∧
      (∀ dd os, Calls Tryz.prog 19 #[v] (Go.Sort.grow (redrawn W1 dd) os) fun e w'' => e = .returned (.string g.s) ∧ ∃ p : Regrown, w'' = Go.Sort.grow (redrawn W1 p.d) p.os) ∧
      (∀ dd os, Calls Tryz.prog 26 #[v] (Go.Sort.grow (redrawn W1 dd) os) fun e w'' => e = .returned (.bool true) ∧ ∃ p : Regrown, w'' = Go.Sort.grow (redrawn W1 p.d) p.os)) := fun W1 h1 => by
    have i := h.is.below h1
    exact ⟨fun dd os => Calls.regrown_of (len_is (i.below (below_regrown W1 dd os))), fun dd os => Calls.regrown_of (place_is (i.below (below_regrown W1 dd os))), fun dd os => Calls.regrown_of (limit_is (i.below (below_regrown W1 dd os))), fun dd os => Calls.regrown_of (text_is (i.below (below_regrown W1 dd os))), fun dd os => Calls.regrown_of (lawful_is (i.below (below_regrown W1 dd os)))⟩
  have HC : Hid (∀ W1, Below W.heap.size W W1 → RB W1 d g) := fun W1 h1 => h.rb.low h1
  clear h hl ht hok
  go_enter Tryz.func9, Tryz.ntmps9
  go_wp2_with (first | (go_at_call 23; refine CH.out.mono ?_; clear CH; rintro e w1 ⟨rfl, hb1⟩) | (go_at_call 25; refine (CR.out _ hb1).mono ?_; clear CR; rintro e w2 ⟨rfl, hb2⟩; have HB2 : Hid (Below W.heap.size W w2) := hb2; obtain ⟨⟨c0, c1, c2⟩, -⟩ := (HC.out _ hb2).cells; clear hb1 hb2))
  obtain ⟨q1, q2, q3, q4, q5⟩ := HQ.out _ HB2.out
  have y0 := fun dd os => cell_regrown c0 dd os
  have y1 := fun dd os => cell_regrown c1 dd os
  have y2 := fun dd os => cell_regrown c2 dd os
  clear c0 c1 c2 HQ HC
  refine wp_region_quiet_below HM.out (by kernel_rfl) ?_
  repeat (go_big_quiet_step (fail))
  go_big_quiet_step (exact q1 _ _)
  repeat (go_big_quiet_step (fail))
  go_big_quiet_step (exact q2 _ _)
  repeat (go_big_quiet_step (fail))
  go_big_quiet_step (exact q3 _ _)
  repeat (go_big_quiet_step (fail))
  go_big_quiet_step (exact q4 _ _)
  repeat (go_big_quiet_step (fail))
  go_big_quiet_step (exact q5 _ _)
  repeat (go_big_quiet_step (fail))
  refine wpQuiet_nil ?_
  intro _ hw'
  obtain ⟨⟨dq, osq⟩, hw''⟩ := hw'
  subst hw''
  dsimp only
  have HB3 : Hid (Below W.heap.size W (Go.Sort.grow (redrawn w2 dq) osq)) := HB2.out.trans ((below_regrown w2 dq osq).mono HB2.out.size)
  go_wp2
  go_ret
  exact ⟨rfl, HB3.out⟩
end Go.Proofs.YtgagpmeknpjkpaaGreatDoor
namespace Go.Proofs.YtgagpmeknpjkpaaGreatDoor
open Go.RowKit Bod Wid

theorem cell_lt' {W : World} {p : Addr} {v : Value} (h : W.cell? p = some v) : p.block < W.heap.size := by
  unfold World.cell? at h
  cases ho : W.heap[p.block]? with
  | none => simp [ho] at h
  | some o => exact (Array.getElem?_eq_some_iff.1 ho).1
/-- what the calls that ask the library want of the world -/
structure Env (W : World) : Prop where
  tab : Lib.Utf8Tabs 1 2 W
  l0 : 1 < W.heap.size
  l1 : 2 < W.heap.size
  max : ∃ m, W.cell? ⟨0, 0, none⟩ = some (.int .i64 m)
theorem Env.low {W W' : World} (h : Env W) (hb : Below W.heap.size W W') : Env W' := by
  refine ⟨tabs_below h.tab hb, Nat.lt_of_lt_of_le h.l0 hb.size, Nat.lt_of_lt_of_le h.l1 hb.size, ?_⟩
  obtain ⟨m, hm⟩ := h.max
  have hlt : 0 < W.heap.size := by
    unfold World.cell? at hm
    cases ho : W.heap[0]? with
    | none => simp [ho] at hm
    | some ob => exact (Array.getElem?_eq_some_iff.1 ho).1
  exact ⟨m, (hb.cell (p := ⟨0, 0, none⟩) hlt).trans hm⟩

set_option maxRecDepth 100000 in
set_option maxHeartbeats 4000000 in
theorem asks_pp {W : World} {v : Value} {o : Option (Nat × Option Nat)} {d : Nat} {g : Gp} {n : Nat} (h : PP W v o d g g n) (hE : Env W) (x : Opr) (hx : x.fit) :
    Calls Tryz.prog 14 #[v, .pointer (some ⟨d, 0, none⟩), ov x] W fun e W' => e = .returned (.bool true) ∧ Below W.heap.size W W' := by
  obtain ⟨k, a, b, s⟩ := x
  obtain ⟨x1, x2, x3, x4⟩ := hx
  dsimp only at x1 x2 x3 x4
  have hok := h.is.ok
  obtain ⟨W0, hW0⟩ : ∃ W0, W.alloc (.cells #[.int .i64 k, .int .i64 a, .int .i64 b, .string s] 45) = W0 := ⟨_, rfl⟩
  have hB : Below W.heap.size W W0 := by rw [← hW0]; exact (Below.refl _ W).alloc (Nat.le_refl _) _
  have hbx : W0.heap[W.heap.size]? = some (.cells #[.int .i64 k, .int .i64 a, .int .i64 b, .string s] 45 (0, 0)) := by rw [← hW0]; exact World.alloc_heap_new W _
  have hbl : W.heap.size < W0.heap.size := (Array.getElem?_eq_some_iff.1 hbx).1
  have HP : ∀ W1, Below W0.heap.size W0 W1 → PP W1 v o d g g n := fun W1 h1 => (h.low hB).low h1
  have HE : ∀ W1, Below W0.heap.size W0 W1 → Env W1 := fun W1 h1 => (hE.low hB).low h1
  have st : ∀ {W1 W2 : World}, Below W0.heap.size W0 W1 → Below W1.heap.size W1 W2 → Below W0.heap.size W0 W2 := fun a b => a.trans (b.mono a.size)
  have HX : Hid (∀ W1, Below W0.heap.size W0 W1 → W1.cell? ⟨W.heap.size, 0, none⟩ = some (.int .i64 k) ∧ W1.cell? ⟨W.heap.size, 1, none⟩ = some (.int .i64 a) ∧ W1.cell? ⟨W.heap.size, 2, none⟩ = some (.int .i64 b) ∧ W1.cell? ⟨W.heap.size, 3, none⟩ = some (.string s)) := fun W1 h1 => (box4 ((h1.block _ hbl).trans hbx)).1
  have HEnd : Hid (∀ W1, Below W0.heap.size W0 W1 → Below W.heap.size W W1) := fun W1 h1 => hB.trans (h1.mono hB.size)
  have CC : Hid (∀ W1, Below W0.heap.size W0 W1 → Calls Tryz.prog 16 #[v] W1 fun e W' => e = .returned (.int .i64 n) ∧ Below W0.heap.size W0 W') := fun W1 h1 => (cap_is (HP W1 h1).is).mono fun e W' ⟨q1, q2⟩ => ⟨q1, st h1 q2⟩
  have HB0 : Hid (Below W0.heap.size W0 W0) := Below.refl _ _
  have HM : Hid (Tryz.prog.follows .mixedOrders = true) := by show _ = _; kernel_rfl
  unfold ov
  dsimp only
  by_cases h6 : k = 6
  · obtain ⟨s1, hs1⟩ : ∃ s1, (gSlice g.s a b).1 = s1 := ⟨_, rfl⟩
    obtain ⟨e1, he1⟩ : ∃ e1, (gSlice g.s a b).2 = e1 := ⟨_, rfl⟩
    have C1 : Hid (∀ W1, Below W0.heap.size W0 W1 → Calls Tryz.prog 34 #[v, .int .i64 a, .int .i64 b] W1 fun e W' => e = .returned (.tuple #[.string s1, .int .i64 e1]) ∧ Below W0.heap.size W0 W') := fun W1 h1 => by rw [← hs1, ← he1]; exact (slice_is (HP W1 h1).is a b).mono fun e W' ⟨q1, q2⟩ => ⟨q1, st h1 q2⟩
    have C2 : Hid (∀ W1, Below W0.heap.size W0 W1 → Calls Tryz.prog 35 #[.pointer (some ⟨d, 0, none⟩), .int .i64 a, .int .i64 b] W1 fun e W' => e = .returned (.tuple #[.string s1, .int .i64 e1]) ∧ Below W0.heap.size W0 W') := fun W1 h1 => by rw [← hs1, ← he1]; exact (rslice_any a b W1 (HP W1 h1).rb).mono fun e W' ⟨q1, q2⟩ => ⟨q1, st h1 q2⟩
    subst h6
    clear h hE hok hB hbx hbl HP HE st hs1 he1 x1 x2 x3 x4
    go_enter Tryz.func14, Tryz.ntmps14
    go_wp2_with (first
      | (go_at_call 16; refine (CC.out _ HB0.out).mono ?_; clear HB0; rintro e w1 ⟨rfl, hb⟩; have HB1 : Hid (Below W0.heap.size W0 w1) := hb; obtain ⟨z0, z1, z2, z3⟩ := HX.out _ hb; clear hb)
      | (go_at_call 34; refine (C1.out _ HB1.out).mono ?_; clear C1 HB1 z0 z1 z2 z3; rintro e w2 ⟨rfl, hb⟩; have HB2 : Hid (Below W0.heap.size W0 w2) := hb; obtain ⟨z0, z1, z2, z3⟩ := HX.out _ hb; clear hb)
      | (go_at_call 35; refine (C2.out _ HB2.out).mono ?_; clear C2 HB2 z0 z1 z2 z3; rintro e w3 ⟨rfl, hb⟩; have HB3 : Hid (Below W0.heap.size W0 w3) := hb; clear hb)
      | (go_at_call 16; refine (CC.out _ HB3.out).mono ?_; clear HB3; rintro e w4 ⟨rfl, hb⟩; have HB4 : Hid (Below W0.heap.size W0 w4) := hb; clear hb))
    go_ret
    exact ⟨rfl, HEnd.out _ HB4.out⟩
  · by_cases h7 : k = 7
    · obtain ⟨s1, hs1⟩ : ∃ s1, (gByte g.s a).1 = s1 := ⟨_, rfl⟩
      obtain ⟨e1, he1⟩ : ∃ e1, (gByte g.s a).2 = e1 := ⟨_, rfl⟩
      have C1 : Hid (∀ W1, Below W0.heap.size W0 W1 → Calls Tryz.prog 36 #[v, .int .i64 a] W1 fun e W' => e = .returned (.tuple #[.int .u8 s1, .int .i64 e1]) ∧ Below W0.heap.size W0 W') := fun W1 h1 => by rw [← hs1, ← he1]; exact (byte_is (HP W1 h1).is a).mono fun e W' ⟨q1, q2⟩ => ⟨q1, st h1 q2⟩
      have C2 : Hid (∀ W1, Below W0.heap.size W0 W1 → Calls Tryz.prog 37 #[.pointer (some ⟨d, 0, none⟩), .int .i64 a] W1 fun e W' => e = .returned (.tuple #[.int .u8 s1, .int .i64 e1]) ∧ Below W0.heap.size W0 W') := fun W1 h1 => by rw [← hs1, ← he1]; exact (rbyte_any a W1 (HP W1 h1).rb).mono fun e W' ⟨q1, q2⟩ => ⟨q1, by rw [q2]; exact h1⟩
      subst h7
      clear h hE hok hB hbx hbl HP HE st hs1 he1 x1 x2 x3 x4
      go_enter Tryz.func14, Tryz.ntmps14
      go_wp2_with (first
        | (go_at_call 16; refine (CC.out _ HB0.out).mono ?_; clear HB0; rintro e w1 ⟨rfl, hb⟩; have HB1 : Hid (Below W0.heap.size W0 w1) := hb; obtain ⟨z0, z1, z2, z3⟩ := HX.out _ hb; clear hb)
        | (go_at_call 36; refine (C1.out _ HB1.out).mono ?_; clear C1 HB1 z0 z1 z2 z3; rintro e w2 ⟨rfl, hb⟩; have HB2 : Hid (Below W0.heap.size W0 w2) := hb; obtain ⟨z0, z1, z2, z3⟩ := HX.out _ hb; clear hb)
        | (go_at_call 37; refine (C2.out _ HB2.out).mono ?_; clear C2 HB2 z0 z1 z2 z3; rintro e w3 ⟨rfl, hb⟩; have HB3 : Hid (Below W0.heap.size W0 w3) := hb; clear hb)
        | (go_at_call 16; refine (CC.out _ HB3.out).mono ?_; clear HB3; rintro e w4 ⟨rfl, hb⟩; have HB4 : Hid (Below W0.heap.size W0 w4) := hb; clear hb))
      go_ret
      exact ⟨rfl, HEnd.out _ HB4.out⟩
    · by_cases h8 : k = 8
      · obtain ⟨s1, hs1⟩ : ∃ s1, gIdx g.s s a = s1 := ⟨_, rfl⟩
        have HQ : Hid (∀ W1, Below W0.heap.size W0 W1 → (∀ dd os, Calls Tryz.prog 38 #[v, .string s, .int .i64 a] (Go.Sort.grow (redrawn W1 dd) os) fun e w'' => e = .returned (.int .i64 s1) ∧ ∃ p : Regrown, w'' = Go.Sort.grow (redrawn W1 p.d) p.os) ∧ (∀ dd os, Calls Tryz.prog 39 #[.pointer (some ⟨d, 0, none⟩), .string s, .int .i64 a] (Go.Sort.grow (redrawn W1 dd) os) fun e w'' => e = .returned (.int .i64 s1) ∧ ∃ p : Regrown, w'' = Go.Sort.grow (redrawn W1 p.d) p.os)) := fun W1 h1 => by
          refine ⟨fun dd os => ?_, fun dd os => ?_⟩
          · have h2 := st h1 (below_regrown W1 dd os)
            rw [← hs1]
            exact Calls.regrown_of (index_is (HP _ h2).is s a (HE _ h2).max)
          · have h2 := st h1 (below_regrown W1 dd os)
            rw [← hs1]
            exact Calls.regrown_of (ridx_any hok s (by omega) a _ (HP _ h2).rb)
        have HG : Hid (∀ W1 dd os, Below W0.heap.size W0 W1 → Below W0.heap.size W0 (Go.Sort.grow (redrawn W1 dd) os)) := fun W1 dd os h1 => st h1 (below_regrown W1 dd os)
        subst h8
        clear h hE hok hB hbx hbl HP HE st hs1 x1 x2 x3 x4
        go_enter Tryz.func14, Tryz.ntmps14
        go_wp2_with (go_at_call 16; refine (CC.out _ HB0.out).mono ?_; clear HB0; rintro e w1 ⟨rfl, hb⟩; have HB1 : Hid (Below W0.heap.size W0 w1) := hb; obtain ⟨z0, z1, z2, z3⟩ := HX.out _ hb; clear hb)
        obtain ⟨q1, q2⟩ := HQ.out _ HB1.out
        have y1 := fun dd os => cell_regrown z1 dd os
        have y3 := fun dd os => cell_regrown z3 dd os
        refine wp_region_quiet_below HM.out (by kernel_rfl) ?_
        repeat (go_big_quiet_step (fail))
        go_big_quiet_step (exact q1 _ _)
        repeat (go_big_quiet_step (fail))
        go_big_quiet_step (exact q2 _ _)
        repeat (go_big_quiet_step (fail))
        refine wpQuiet_nil ?_
        intro _ hw'
        obtain ⟨⟨dq, osq⟩, hw''⟩ := hw'
        subst hw''
        dsimp only
        have HB3 : Hid (Below W0.heap.size W0 (Go.Sort.grow (redrawn w1 dq) osq)) := HG.out _ _ _ HB1.out
        go_wp2_with (go_at_call 16; refine (CC.out _ HB3.out).mono ?_; clear HB3; rintro e w4 ⟨rfl, hb⟩; have HB4 : Hid (Below W0.heap.size W0 w4) := hb; clear hb)
        go_ret
        exact ⟨rfl, HEnd.out _ HB4.out⟩
      · by_cases h9 : k = 9
        · obtain ⟨m1, hm1⟩ : ∃ m1, (gMea g.s a b).1 = m1 := ⟨_, rfl⟩
          obtain ⟨e1, he1⟩ : ∃ e1, (gMea g.s a b).2 = e1 := ⟨_, rfl⟩
          have C1 : Hid (∀ W1, Below W0.heap.size W0 W1 → Calls Tryz.prog 40 #[v, .int .i64 a, .int .i64 b] W1 fun e W' => e = .returned (.tuple #[sv m1, .int .i64 e1]) ∧ Below W0.heap.size W0 W') := fun W1 h1 => by
            rw [← hm1, ← he1]
            have e := HE W1 h1
            exact (mea_is (HP W1 h1).is a b e.tab e.l0 e.l1).mono fun e W' ⟨q1, q2⟩ => ⟨q1, st h1 q2⟩
          have C2 : Hid (∀ W1, Below W0.heap.size W0 W1 → Calls Tryz.prog 41 #[.pointer (some ⟨d, 0, none⟩), .int .i64 a, .int .i64 b] W1 fun e W' => e = .returned (.tuple #[sv m1, .int .i64 e1]) ∧ Below W0.heap.size W0 W' ∧ Below W1.heap.size W1 W') := fun W1 h1 => by
            rw [← hm1, ← he1]
            exact (rmea_any hok a b W1 (HP W1 h1).rb).mono fun e W' ⟨q1, q2⟩ => ⟨q1, st h1 q2, q2⟩
          have HA : Hid (∀ W1 ob, Below W0.heap.size W0 W1 → Below W0.heap.size W0 (W1.alloc ob)) := fun W1 ob h1 => h1.alloc h1.size _
          have HBx : Hid (∀ W1 W2 : World, Below (W1.alloc (.cells #[.int .i64 m1.by', .int .i64 m1.un, .int .i64 m1.cl, .int .i64 m1.ce, .int .i64 m1.nl, .string m1.hd, .string m1.tl] 64)).heap.size (W1.alloc (.cells #[.int .i64 m1.by', .int .i64 m1.un, .int .i64 m1.cl, .int .i64 m1.ce, .int .i64 m1.nl, .string m1.hd, .string m1.tl] 64)) W2 → W2.heap[W1.heap.size]? = some (.cells #[.int .i64 m1.by', .int .i64 m1.un, .int .i64 m1.cl, .int .i64 m1.ce, .int .i64 m1.nl, .string m1.hd, .string m1.tl] 64 (0, 0))) := fun W1 W2 h2 => (h2.block _ (by simp)).trans (World.alloc_heap_new W1 _)
          subst h9
          clear h hE hok hB hbx hbl HP HE st hm1 he1 x1 x2 x3 x4
          go_enter Tryz.func14, Tryz.ntmps14
          go_wp2_with (first
            | (go_at_call 16; refine (CC.out _ HB0.out).mono ?_; clear HB0; rintro e w1 ⟨rfl, hb⟩; have HB1 : Hid (Below W0.heap.size W0 w1) := hb; obtain ⟨z0, z1, z2, z3⟩ := HX.out _ hb; clear hb)
            | (go_at_call 40; refine (C1.out _ HB1.out).mono ?_; clear C1 HB1 z0 z1 z2 z3; rintro e w2 ⟨rfl, hb⟩; have HB2 : Hid (Below W0.heap.size W0 w2) := hb; obtain ⟨z0, z1, z2, z3⟩ := HX.out _ (HA.out w2 (.cells #[.int .i64 m1.by', .int .i64 m1.un, .int .i64 m1.cl, .int .i64 m1.ce, .int .i64 m1.nl, .string m1.hd, .string m1.tl] 64) hb); obtain ⟨u0, u1, u2, u3⟩ := HX.out _ hb; have hz : W.heap.size < w2.heap.size := cell_lt' u0; clear hb)
            | (go_at_call 41; refine (C2.out _ (HA.out _ _ HB2.out)).mono ?_; clear C2 z0 z1 z2 z3; rintro e w3 ⟨rfl, hb, hb3⟩; have HB3 : Hid (Below W0.heap.size W0 w3) := hb; have hbk := HBx.out _ _ hb3; have hl3 : w2.heap.size < w3.heap.size := (Array.getElem?_eq_some_iff.1 hbk).1; obtain ⟨⟨v0, v1, v2, v3, v4, v5, v6⟩, -⟩ := box7 hbk; clear hb hb3 hbk)
            | (go_at_call 16; refine (CC.out _ (HA.out _ _ HB3.out)).mono ?_; clear HB3; rintro e w4 ⟨rfl, hb⟩; have HB4 : Hid (Below W0.heap.size W0 w4) := hb; clear hb))
          go_ret
          exact ⟨rfl, HEnd.out _ HB4.out⟩
        · clear h hE hok hB hbx hbl HP HE st x1 x2 x3 x4
          go_enter Tryz.func14, Tryz.ntmps14
          go_wp2_with (first
            | (go_at_call 16; refine (CC.out _ HB0.out).mono ?_; clear HB0; rintro e w1 ⟨rfl, hb⟩; have HB1 : Hid (Below W0.heap.size W0 w1) := hb; obtain ⟨z0, z1, z2, z3⟩ := HX.out _ hb; clear hb)
            | (go_at_call 16; refine (CC.out _ HB1.out).mono ?_; clear HB1; rintro e w4 ⟨rfl, hb⟩; have HB4 : Hid (Below W0.heap.size W0 w4) := hb; clear hb))
          go_ret
          exact ⟨rfl, HEnd.out _ HB4.out⟩
end Go.Proofs.YtgagpmeknpjkpaaGreatDoor
namespace Go.Proofs.YtgagpmeknpjkpaaGreatDoor
open Go.RowKit Bod

def gWork (g : Gp) (x : Opr) : Gp :=
  if x.k = 1 then (gRep g x.a 0 x.s).1 else if x.k = 2 then (gRep g x.a x.b eBA).1 else if x.k = 3 then (gRep g x.a x.b x.s).1
  else if x.k = 4 then (gMove g x.a).1 else if x.k = 5 then (gReset g x.s).1 else g
/-- what is reached from W0 -/
def PX (W0 : World) (o0 : Option (Nat × Option Nat)) (v : Value) (d : Nat) (gp gr : Gp) (n : Nat) (W : World) : Prop := ∃ o, PP W v o d gp gr n ∧ PCh o0 d W0 W ∧ Nws W0 o0 o
theorem PX.low {W0 W W' : World} {o0 : Option (Nat × Option Nat)} {v : Value} {d : Nat} {gp gr : Gp} {n : Nat} (h : PX W0 o0 v d gp gr n W) (hb : Below W.heap.size W W') : PX W0 o0 v d gp gr n W' := by
  obtain ⟨o, h1, h2, h3⟩ := h
  exact ⟨o, h1.low hb, h2.trans h3 (PCh.below hb), h3⟩
theorem PX.drew {W0 W : World} {o0 : Option (Nat × Option Nat)} {v : Value} {d : Nat} {gp gr : Gp} {n : Nat} (h : PX W0 o0 v d gp gr n W) : PX W0 o0 v d gp gr n W.drew := h.low ⟨rfl, rfl, rfl, Nat.le_refl _, fun _ _ => rfl⟩
theorem PX.prog {W0 W : World} {o0 : Option (Nat × Option Nat)} {v : Value} {d : Nat} {gp gr : Gp} {n : Nat} (h : PX W0 o0 v d gp gr n W) : ∃ o, Is W v o gp n ∧ ∀ g' err W', Wk W v o n g' err W' → ∃ n', PX W0 o0 v d g' gr n' W' ∧ (err ≠ 0 → n' = n) := by
  obtain ⟨o, h1, h2, h3⟩ := h
  refine ⟨o, h1.is, fun g' err W' k => ?_⟩
  obtain ⟨o', n', p1, p2, p3, p4⟩ := h1.prog k
  exact ⟨n', ⟨o', p1, h2.trans h3 p2, h3.trans h2.2.2.2.1 p3⟩, p4⟩
theorem PX.ref {W0 W : World} {o0 : Option (Nat × Option Nat)} {v : Value} {d : Nat} {gp gr : Gp} {n : Nat} (h : PX W0 o0 v d gp gr n W) : RB W d gr ∧ ∀ g' W', W.grownBy W' (some d) → RB W' d g' → PX W0 o0 v d gp g' n W' := by
  obtain ⟨o, h1, h2, h3⟩ := h
  refine ⟨h1.rb, fun g' W' a b => ?_⟩
  obtain ⟨p1, p2⟩ := h1.ref a b
  exact ⟨o, p1, h2.trans h3 p2, h3⟩
theorem PX.cap {W0 W : World} {o0 : Option (Nat × Option Nat)} {v : Value} {d : Nat} {gp gr : Gp} {n : Nat} (h : PX W0 o0 v d gp gr n W) : Calls Tryz.prog 16 #[v] W fun e W' => e = .returned (.int .i64 n) ∧ PX W0 o0 v d gp gr n W' := by
  obtain ⟨o, h1, h2, h3⟩ := h
  exact (cap_is h1.is).mono fun e W' ⟨q1, q2⟩ => ⟨q1, PX.low ⟨o, h1, h2, h3⟩ q2⟩
theorem PX.bel {W0 W : World} {o0 : Option (Nat × Option Nat)} {v : Value} {d : Nat} {gp gr : Gp} {n : Nat} (h : PX W0 o0 v d gp gr n W) : PCh o0 d W0 W := by
  obtain ⟨_, _, h, _⟩ := h; exact h
/-- the two calls of one kind, one behind the other -/
structure Sep (W0 : World) (o0 : Option (Nat × Option Nat)) (v : Value) (d : Nat) (g g' : Gp) (n : Nat) (fp fr : FuncId) (ps : List Value) (rv : Value) (err : Int) : Prop where
  p : ∀ W, PX W0 o0 v d g g n W → Calls Tryz.prog fp (v :: ps).toArray W fun e W' => e = .returned rv ∧ ∃ n', PX W0 o0 v d g' g n' W' ∧ (err ≠ 0 → n' = n)
  r : ∀ W n', PX W0 o0 v d g' g n' W → Calls Tryz.prog fr (.pointer (some ⟨d, 0, none⟩) :: ps).toArray W fun e W' => e = .returned rv ∧ PX W0 o0 v d g' g' n' W'
theorem sep_ins {W0 : World} {o0 : Option (Nat × Option Nat)} {v : Value} {d : Nat} {g : Gp} {n : Nat} (hg : g.ok) (a : Int) (ha : -9223372036854775808 ≤ a ∧ a ≤ 9223372036854775807) (s : ByteArray) (hs : s.size ≤ 140737488355328) :
    Sep W0 o0 v d g (gRep g a 0 s).1 n 20 27 [.int .i64 a, .string s] (.int .i64 (gRep g a 0 s).2.2) (gRep g a 0 s).2.2 :=
  ⟨fun W h => by
    obtain ⟨o, i, k⟩ := h.prog
    exact (ins_is i a ha s).mono fun e W' ⟨q1, q2⟩ => ⟨q1, k _ _ _ q2⟩,
   fun W n' h => by
    obtain ⟨i, k⟩ := h.ref
    exact (rins_any hg a s hs W i).mono fun e W' ⟨q1, q2, q3⟩ => ⟨q1, k _ _ q3 q2⟩⟩
theorem sep_del {W0 : World} {o0 : Option (Nat × Option Nat)} {v : Value} {d : Nat} {g : Gp} {n : Nat} (hg : g.ok) (a c : Int) (ha : -9223372036854775808 ≤ a ∧ a ≤ 9223372036854775807) :
    Sep W0 o0 v d g (gRep g a c eBA).1 n 28 29 [.int .i64 a, .int .i64 c] (.tuple #[.string (gRep g a c eBA).2.1, .int .i64 (gRep g a c eBA).2.2]) (gRep g a c eBA).2.2 :=
  ⟨fun W h => by
    obtain ⟨o, i, k⟩ := h.prog
    exact (del_is i a c ha).mono fun e W' ⟨q1, q2⟩ => ⟨q1, k _ _ _ q2⟩,
   fun W n' h => by
    obtain ⟨i, k⟩ := h.ref
    exact (rdel_any hg a c W i).mono fun e W' ⟨q1, q2, q3⟩ => ⟨q1, k _ _ q3 q2⟩⟩
theorem sep_rep {W0 : World} {o0 : Option (Nat × Option Nat)} {v : Value} {d : Nat} {g : Gp} {n : Nat} (hg : g.ok) (a c : Int) (ha : -9223372036854775808 ≤ a ∧ a ≤ 9223372036854775807) (s : ByteArray) (hs : s.size ≤ 140737488355328) :
    Sep W0 o0 v d g (gRep g a c s).1 n 22 30 [.int .i64 a, .int .i64 c, .string s] (.tuple #[.string (gRep g a c s).2.1, .int .i64 (gRep g a c s).2.2]) (gRep g a c s).2.2 :=
  ⟨fun W h => by
    obtain ⟨o, i, k⟩ := h.prog
    exact (rep_is i a c ha s).mono fun e W' ⟨q1, q2⟩ => ⟨q1, k _ _ _ q2⟩,
   fun W n' h => by
    obtain ⟨i, k⟩ := h.ref
    exact (rrep_any hg a c s hs W i).mono fun e W' ⟨q1, q2, q3⟩ => ⟨q1, k _ _ q3 q2⟩⟩
theorem sep_move {W0 : World} {o0 : Option (Nat × Option Nat)} {v : Value} {d : Nat} {g : Gp} {n : Nat} (a : Int) :
    Sep W0 o0 v d g (gMove g a).1 n 31 32 [.int .i64 a] (.int .i64 (gMove g a).2) (gMove g a).2 :=
  ⟨fun W h => by
    obtain ⟨o, i, k⟩ := h.prog
    exact (move_is i a).mono fun e W' ⟨q1, o2, i1, i2, i3⟩ => ⟨q1, k _ _ _ ⟨o2, n, i1, i2, i3, fun _ => rfl⟩⟩,
   fun W n' h => by
    obtain ⟨i, k⟩ := h.ref
    exact (rmove_any a W i).mono fun e W' ⟨q1, q2, q3⟩ => ⟨q1, k _ _ q3 q2⟩⟩
theorem sep_reset {W0 : World} {o0 : Option (Nat × Option Nat)} {v : Value} {d : Nat} {g : Gp} {n : Nat} (s : ByteArray) :
    Sep W0 o0 v d g (gReset g s).1 n 24 33 [.string s] (.int .i64 (gReset g s).2) (gReset g s).2 :=
  ⟨fun W h => by
    obtain ⟨o, i, k⟩ := h.prog
    exact (reset_is i s).mono fun e W' ⟨q1, q2⟩ => ⟨q1, k _ _ _ q2⟩,
   fun W n' h => by
    obtain ⟨i, k⟩ := h.ref
    exact (rreset_any s W i).mono fun e W' ⟨q1, q2, q3⟩ => ⟨q1, k _ _ q3 q2⟩⟩

set_option maxRecDepth 100000 in
set_option maxHeartbeats 4000000 in
theorem works_1 {W W0 : World} {v : Value} {o : Option (Nat × Option Nat)} {d : Nat} {g g' : Gp} {n : Nat} {a b err : Int} {s : ByteArray} (hW0 : W.alloc (.cells #[.int .i64 1, .int .i64 a, .int .i64 b, .string s] 45) = W0) (hP : PX W0 o v d g g n W0)
    (HX : Hid (∀ W1, PCh o d W0 W1 → W1.cell? ⟨W.heap.size, 0, none⟩ = some (.int .i64 1) ∧ W1.cell? ⟨W.heap.size, 1, none⟩ = some (.int .i64 a) ∧ W1.cell? ⟨W.heap.size, 2, none⟩ = some (.int .i64 b) ∧ W1.cell? ⟨W.heap.size, 3, none⟩ = some (.string s)))
    (hS : Sep W0 o v d g g' n 20 27 [.int .i64 a, .string s] (.int .i64 err) err) :
    Calls Tryz.prog 13 #[v, .pointer (some ⟨d, 0, none⟩), .agg #[.int .i64 1, .int .i64 a, .int .i64 b, .string s]] W fun e W' => e = .returned (.bool true) ∧ ∃ n', PX W0 o v d g' g' n' W' := by
  have HP : Hid (PX W0 o v d g g n W0) := hP
  have C1 : Hid (∀ W, PX W0 o v d g g n W → Calls Tryz.prog 20 #[v, .int .i64 a, .string s] W fun e W' => e = .returned (.int .i64 err) ∧ ∃ n', PX W0 o v d g' g n' W' ∧ (err ≠ 0 → n' = n)) := hS.p
  have C2 : Hid (∀ W n', PX W0 o v d g' g n' W → Calls Tryz.prog 27 #[.pointer (some ⟨d, 0, none⟩), .int .i64 a, .string s] W fun e W' => e = .returned (.int .i64 err) ∧ PX W0 o v d g' g' n' W') := hS.r
  clear hP hS
  go_enter Tryz.func13, Tryz.ntmps13
  go_wp2_with (go_at_call 16; refine HP.out.cap.mono ?_; clear HP; rintro e w1 ⟨rfl, hq⟩; have HP : Hid (PX W0 o v d g g n w1) := hq; obtain ⟨z0, z1, z2, z3⟩ := HX.out _ hq.bel; clear hq)
  go_region_held3 (fun w' => w'.cell? ⟨W.heap.size, 1, none⟩ = some (.int .i64 a) ∧ w'.cell? ⟨W.heap.size, 3, none⟩ = some (.string s)) (first | exact ⟨(HX.out _ HP.out.bel).2.1, (HX.out _ HP.out.bel).2.2.2⟩ | exact ⟨(HX.out _ HP.out.drew.bel).2.1, (HX.out _ HP.out.drew.bel).2.2.2⟩) (first | (go_at_call 20; refine (C1.out _ HP.out.drew).mono ?_; clear C1; rintro e w2 ⟨rfl, n', hq, hn'⟩; have HP1 : Hid (PX W0 o v d g' g n' w2) := hq; clear hq HP; have HP := HP1; clear HP1) | (go_at_call 27; refine (C2.out _ _ HP.out).mono ?_; clear C2; rintro e w3 ⟨rfl, hq⟩; have HP1 : Hid (PX W0 o v d g' g' n' w3) := hq; clear hq HP; have HP := HP1; clear HP1))
  by_cases he : err = 0
  · subst he
    go_wp2
    go_ret
    exact ⟨rfl, _, HP.out⟩
  · have hn2 := hn' he
    subst hn2
    clear hn'
    go_wp2_with (go_at_call 16; refine HP.out.cap.mono ?_; clear HP; rintro e w4 ⟨rfl, hq⟩; have HP : Hid (PX W0 o v d g' g' n' w4) := hq; clear hq)
    go_ret
    exact ⟨rfl, _, HP.out⟩

set_option maxRecDepth 100000 in
set_option maxHeartbeats 4000000 in
theorem works_2 {W W0 : World} {v : Value} {o : Option (Nat × Option Nat)} {d : Nat} {g g' : Gp} {n : Nat} {a b err : Int} {s out : ByteArray} (hW0 : W.alloc (.cells #[.int .i64 2, .int .i64 a, .int .i64 b, .string s] 45) = W0) (hP : PX W0 o v d g g n W0)
    (HX : Hid (∀ W1, PCh o d W0 W1 → W1.cell? ⟨W.heap.size, 0, none⟩ = some (.int .i64 2) ∧ W1.cell? ⟨W.heap.size, 1, none⟩ = some (.int .i64 a) ∧ W1.cell? ⟨W.heap.size, 2, none⟩ = some (.int .i64 b) ∧ W1.cell? ⟨W.heap.size, 3, none⟩ = some (.string s)))
    (hS : Sep W0 o v d g g' n 28 29 [.int .i64 a, .int .i64 b] (.tuple #[.string out, .int .i64 err]) err) :
    Calls Tryz.prog 13 #[v, .pointer (some ⟨d, 0, none⟩), .agg #[.int .i64 2, .int .i64 a, .int .i64 b, .string s]] W fun e W' => e = .returned (.bool true) ∧ ∃ n', PX W0 o v d g' g' n' W' := by
  have HP : Hid (PX W0 o v d g g n W0) := hP
  have C1 : Hid (∀ W, PX W0 o v d g g n W → Calls Tryz.prog 28 #[v, .int .i64 a, .int .i64 b] W fun e W' => e = .returned (.tuple #[.string out, .int .i64 err]) ∧ ∃ n', PX W0 o v d g' g n' W' ∧ (err ≠ 0 → n' = n)) := hS.p
  have C2 : Hid (∀ W n', PX W0 o v d g' g n' W → Calls Tryz.prog 29 #[.pointer (some ⟨d, 0, none⟩), .int .i64 a, .int .i64 b] W fun e W' => e = .returned (.tuple #[.string out, .int .i64 err]) ∧ PX W0 o v d g' g' n' W') := hS.r
  clear hP hS
  go_enter Tryz.func13, Tryz.ntmps13
  by_cases he : err = 0
  · subst he
    go_wp2_with (first | (go_at_call 16; refine HP.out.cap.mono ?_; clear HP; rintro e w1 ⟨rfl, hq⟩; have HP : Hid (PX W0 o v d g g n w1) := hq; obtain ⟨z0, z1, z2, z3⟩ := HX.out _ hq.bel; clear hq) | (go_at_call 28; refine (C1.out _ HP.out).mono ?_; clear C1 HP z0 z1 z2 z3; rintro e w2 ⟨rfl, n', hq, hn'⟩; have HP : Hid (PX W0 o v d g' g n' w2) := hq; obtain ⟨z0, z1, z2, z3⟩ := HX.out _ hq.bel; clear hq) | (go_at_call 29; refine (C2.out _ _ HP.out).mono ?_; clear C2 HP; rintro e w3 ⟨rfl, hq⟩; have HP : Hid (PX W0 o v d g' g' n' w3) := hq; clear hq))
    go_ret
    exact ⟨rfl, _, HP.out⟩
  · go_wp2_with (first | (go_at_call 28; refine (C1.out _ HP.out).mono ?_; clear C1 HP z0 z1 z2 z3; rintro e w2 ⟨rfl, n', hq, hn'⟩; have hn2 := hn' he; subst hn2; clear hn'; have HP2 : Hid (PX W0 o v d g' g n' w2) := hq; obtain ⟨z0, z1, z2, z3⟩ := HX.out _ hq.bel; clear hq) | (go_at_call 29; refine (C2.out _ _ HP2.out).mono ?_; clear C2 HP2; rintro e w3 ⟨rfl, hq⟩; have HP3 : Hid (PX W0 o v d g' g' n' w3) := hq; clear hq) | (go_at_call 16; refine HP3.out.cap.mono ?_; clear HP3; rintro e w4 ⟨rfl, hq⟩; have HP4 : Hid (PX W0 o v d g' g' n' w4) := hq; clear hq) | (go_at_call 16; refine HP.out.cap.mono ?_; clear HP; rintro e w1 ⟨rfl, hq⟩; have HP : Hid (PX W0 o v d g g n w1) := hq; obtain ⟨z0, z1, z2, z3⟩ := HX.out _ hq.bel; clear hq))
    go_ret
    exact ⟨rfl, _, HP4.out⟩

set_option maxRecDepth 100000 in
set_option maxHeartbeats 4000000 in
theorem works_3 {W W0 : World} {v : Value} {o : Option (Nat × Option Nat)} {d : Nat} {g g' : Gp} {n : Nat} {a b err : Int} {s out : ByteArray} (hW0 : W.alloc (.cells #[.int .i64 3, .int .i64 a, .int .i64 b, .string s] 45) = W0) (hP : PX W0 o v d g g n W0)
    (HX : Hid (∀ W1, PCh o d W0 W1 → W1.cell? ⟨W.heap.size, 0, none⟩ = some (.int .i64 3) ∧ W1.cell? ⟨W.heap.size, 1, none⟩ = some (.int .i64 a) ∧ W1.cell? ⟨W.heap.size, 2, none⟩ = some (.int .i64 b) ∧ W1.cell? ⟨W.heap.size, 3, none⟩ = some (.string s)))
    (hS : Sep W0 o v d g g' n 22 30 [.int .i64 a, .int .i64 b, .string s] (.tuple #[.string out, .int .i64 err]) err) :
    Calls Tryz.prog 13 #[v, .pointer (some ⟨d, 0, none⟩), .agg #[.int .i64 3, .int .i64 a, .int .i64 b, .string s]] W fun e W' => e = .returned (.bool true) ∧ ∃ n', PX W0 o v d g' g' n' W' := by
  have HP : Hid (PX W0 o v d g g n W0) := hP
  have C1 : Hid (∀ W, PX W0 o v d g g n W → Calls Tryz.prog 22 #[v, .int .i64 a, .int .i64 b, .string s] W fun e W' => e = .returned (.tuple #[.string out, .int .i64 err]) ∧ ∃ n', PX W0 o v d g' g n' W' ∧ (err ≠ 0 → n' = n)) := hS.p
  have C2 : Hid (∀ W n', PX W0 o v d g' g n' W → Calls Tryz.prog 30 #[.pointer (some ⟨d, 0, none⟩), .int .i64 a, .int .i64 b, .string s] W fun e W' => e = .returned (.tuple #[.string out, .int .i64 err]) ∧ PX W0 o v d g' g' n' W') := hS.r
  clear hP hS
  go_enter Tryz.func13, Tryz.ntmps13
  by_cases he : err = 0
  · subst he
    go_wp2_with (first | (go_at_call 16; refine HP.out.cap.mono ?_; clear HP; rintro e w1 ⟨rfl, hq⟩; have HP : Hid (PX W0 o v d g g n w1) := hq; obtain ⟨z0, z1, z2, z3⟩ := HX.out _ hq.bel; clear hq) | (go_at_call 22; refine (C1.out _ HP.out).mono ?_; clear C1 HP z0 z1 z2 z3; rintro e w2 ⟨rfl, n', hq, hn'⟩; have HP : Hid (PX W0 o v d g' g n' w2) := hq; obtain ⟨z0, z1, z2, z3⟩ := HX.out _ hq.bel; clear hq) | (go_at_call 30; refine (C2.out _ _ HP.out).mono ?_; clear C2 HP; rintro e w3 ⟨rfl, hq⟩; have HP : Hid (PX W0 o v d g' g' n' w3) := hq; clear hq))
    go_ret
    exact ⟨rfl, _, HP.out⟩
  · go_wp2_with (first | (go_at_call 22; refine (C1.out _ HP.out).mono ?_; clear C1 HP z0 z1 z2 z3; rintro e w2 ⟨rfl, n', hq, hn'⟩; have hn2 := hn' he; subst hn2; clear hn'; have HP2 : Hid (PX W0 o v d g' g n' w2) := hq; obtain ⟨z0, z1, z2, z3⟩ := HX.out _ hq.bel; clear hq) | (go_at_call 30; refine (C2.out _ _ HP2.out).mono ?_; clear C2 HP2; rintro e w3 ⟨rfl, hq⟩; have HP3 : Hid (PX W0 o v d g' g' n' w3) := hq; clear hq) | (go_at_call 16; refine HP3.out.cap.mono ?_; clear HP3; rintro e w4 ⟨rfl, hq⟩; have HP4 : Hid (PX W0 o v d g' g' n' w4) := hq; clear hq) | (go_at_call 16; refine HP.out.cap.mono ?_; clear HP; rintro e w1 ⟨rfl, hq⟩; have HP : Hid (PX W0 o v d g g n w1) := hq; obtain ⟨z0, z1, z2, z3⟩ := HX.out _ hq.bel; clear hq))
    go_ret
    exact ⟨rfl, _, HP4.out⟩

set_option maxRecDepth 100000 in
set_option maxHeartbeats 4000000 in
theorem works_4 {W W0 : World} {v : Value} {o : Option (Nat × Option Nat)} {d : Nat} {g g' : Gp} {n : Nat} {a b err : Int} {s : ByteArray} (hW0 : W.alloc (.cells #[.int .i64 4, .int .i64 a, .int .i64 b, .string s] 45) = W0) (hP : PX W0 o v d g g n W0)
    (HX : Hid (∀ W1, PCh o d W0 W1 → W1.cell? ⟨W.heap.size, 0, none⟩ = some (.int .i64 4) ∧ W1.cell? ⟨W.heap.size, 1, none⟩ = some (.int .i64 a) ∧ W1.cell? ⟨W.heap.size, 2, none⟩ = some (.int .i64 b) ∧ W1.cell? ⟨W.heap.size, 3, none⟩ = some (.string s)))
    (hS : Sep W0 o v d g g' n 31 32 [.int .i64 a] (.int .i64 err) err) :
    Calls Tryz.prog 13 #[v, .pointer (some ⟨d, 0, none⟩), .agg #[.int .i64 4, .int .i64 a, .int .i64 b, .string s]] W fun e W' => e = .returned (.bool true) ∧ ∃ n', PX W0 o v d g' g' n' W' := by
  have HP : Hid (PX W0 o v d g g n W0) := hP
  have C1 : Hid (∀ W, PX W0 o v d g g n W → Calls Tryz.prog 31 #[v, .int .i64 a] W fun e W' => e = .returned (.int .i64 err) ∧ ∃ n', PX W0 o v d g' g n' W' ∧ (err ≠ 0 → n' = n)) := hS.p
  have C2 : Hid (∀ W n', PX W0 o v d g' g n' W → Calls Tryz.prog 32 #[.pointer (some ⟨d, 0, none⟩), .int .i64 a] W fun e W' => e = .returned (.int .i64 err) ∧ PX W0 o v d g' g' n' W') := hS.r
  clear hP hS
  go_enter Tryz.func13, Tryz.ntmps13
  go_wp2_with (go_at_call 16; refine HP.out.cap.mono ?_; clear HP; rintro e w1 ⟨rfl, hq⟩; have HP : Hid (PX W0 o v d g g n w1) := hq; obtain ⟨z0, z1, z2, z3⟩ := HX.out _ hq.bel; clear hq)
  go_region_held3 (fun w' => w'.cell? ⟨W.heap.size, 1, none⟩ = some (.int .i64 a)) (first | exact (HX.out _ HP.out.bel).2.1 | exact (HX.out _ HP.out.drew.bel).2.1) (first | (go_at_call 31; refine (C1.out _ HP.out.drew).mono ?_; clear C1; rintro e w2 ⟨rfl, n', hq, hn'⟩; have HP1 : Hid (PX W0 o v d g' g n' w2) := hq; clear hq HP; have HP := HP1; clear HP1) | (go_at_call 32; refine (C2.out _ _ HP.out).mono ?_; clear C2; rintro e w3 ⟨rfl, hq⟩; have HP1 : Hid (PX W0 o v d g' g' n' w3) := hq; clear hq HP; have HP := HP1; clear HP1))
  by_cases he : err = 0
  · subst he
    go_wp2
    go_ret
    exact ⟨rfl, _, HP.out⟩
  · have hn2 := hn' he
    subst hn2
    clear hn'
    go_wp2_with (go_at_call 16; refine HP.out.cap.mono ?_; clear HP; rintro e w4 ⟨rfl, hq⟩; have HP : Hid (PX W0 o v d g' g' n' w4) := hq; clear hq)
    go_ret
    exact ⟨rfl, _, HP.out⟩

set_option maxRecDepth 100000 in
set_option maxHeartbeats 4000000 in
theorem works_5 {W W0 : World} {v : Value} {o : Option (Nat × Option Nat)} {d : Nat} {g g' : Gp} {n : Nat} {a b err : Int} {s : ByteArray} (hW0 : W.alloc (.cells #[.int .i64 5, .int .i64 a, .int .i64 b, .string s] 45) = W0) (hP : PX W0 o v d g g n W0)
    (HX : Hid (∀ W1, PCh o d W0 W1 → W1.cell? ⟨W.heap.size, 0, none⟩ = some (.int .i64 5) ∧ W1.cell? ⟨W.heap.size, 1, none⟩ = some (.int .i64 a) ∧ W1.cell? ⟨W.heap.size, 2, none⟩ = some (.int .i64 b) ∧ W1.cell? ⟨W.heap.size, 3, none⟩ = some (.string s)))
    (hS : Sep W0 o v d g g' n 24 33 [.string s] (.int .i64 err) err) :
    Calls Tryz.prog 13 #[v, .pointer (some ⟨d, 0, none⟩), .agg #[.int .i64 5, .int .i64 a, .int .i64 b, .string s]] W fun e W' => e = .returned (.bool true) ∧ ∃ n', PX W0 o v d g' g' n' W' := by
  have HP : Hid (PX W0 o v d g g n W0) := hP
  have C1 : Hid (∀ W, PX W0 o v d g g n W → Calls Tryz.prog 24 #[v, .string s] W fun e W' => e = .returned (.int .i64 err) ∧ ∃ n', PX W0 o v d g' g n' W' ∧ (err ≠ 0 → n' = n)) := hS.p
  have C2 : Hid (∀ W n', PX W0 o v d g' g n' W → Calls Tryz.prog 33 #[.pointer (some ⟨d, 0, none⟩), .string s] W fun e W' => e = .returned (.int .i64 err) ∧ PX W0 o v d g' g' n' W') := hS.r
  clear hP hS
  go_enter Tryz.func13, Tryz.ntmps13
  go_wp2_with (go_at_call 16; refine HP.out.cap.mono ?_; clear HP; rintro e w1 ⟨rfl, hq⟩; have HP : Hid (PX W0 o v d g g n w1) := hq; obtain ⟨z0, z1, z2, z3⟩ := HX.out _ hq.bel; clear hq)
  go_region_held3 (fun w' => w'.cell? ⟨W.heap.size, 3, none⟩ = some (.string s)) (first | exact (HX.out _ HP.out.bel).2.2.2 | exact (HX.out _ HP.out.drew.bel).2.2.2) (first | (go_at_call 24; refine (C1.out _ HP.out.drew).mono ?_; clear C1; rintro e w2 ⟨rfl, n', hq, hn'⟩; have HP1 : Hid (PX W0 o v d g' g n' w2) := hq; clear hq HP; have HP := HP1; clear HP1) | (go_at_call 33; refine (C2.out _ _ HP.out).mono ?_; clear C2; rintro e w3 ⟨rfl, hq⟩; have HP1 : Hid (PX W0 o v d g' g' n' w3) := hq; clear hq HP; have HP := HP1; clear HP1))
  by_cases he : err = 0
  · subst he
    go_wp2
    go_ret
    exact ⟨rfl, _, HP.out⟩
  · have hn2 := hn' he
    subst hn2
    clear hn'
    go_wp2_with (go_at_call 16; refine HP.out.cap.mono ?_; clear HP; rintro e w4 ⟨rfl, hq⟩; have HP : Hid (PX W0 o v d g' g' n' w4) := hq; clear hq)
    go_ret
    exact ⟨rfl, _, HP.out⟩

set_option maxRecDepth 100000 in
set_option maxHeartbeats 4000000 in
theorem works_0 {W W0 : World} {v : Value} {o : Option (Nat × Option Nat)} {d : Nat} {g : Gp} {n : Nat} {k a b : Int} {s : ByteArray} (h1 : ¬ k = 1) (h2 : ¬ k = 2) (h3 : ¬ k = 3) (h4 : ¬ k = 4) (h5 : ¬ k = 5) (hW0 : W.alloc (.cells #[.int .i64 k, .int .i64 a, .int .i64 b, .string s] 45) = W0) (hP : PX W0 o v d g g n W0)
    (HX : Hid (∀ W1, PCh o d W0 W1 → W1.cell? ⟨W.heap.size, 0, none⟩ = some (.int .i64 k) ∧ W1.cell? ⟨W.heap.size, 1, none⟩ = some (.int .i64 a) ∧ W1.cell? ⟨W.heap.size, 2, none⟩ = some (.int .i64 b) ∧ W1.cell? ⟨W.heap.size, 3, none⟩ = some (.string s))) :
    Calls Tryz.prog 13 #[v, .pointer (some ⟨d, 0, none⟩), .agg #[.int .i64 k, .int .i64 a, .int .i64 b, .string s]] W fun e W' => e = .returned (.bool true) ∧ ∃ n', PX W0 o v d g g n' W' := by
  have HP : Hid (PX W0 o v d g g n W0) := hP
  clear hP
  go_enter Tryz.func13, Tryz.ntmps13
  go_wp2_with (go_at_call 16; refine HP.out.cap.mono ?_; clear HP; rintro e w1 ⟨rfl, hq⟩; have HP : Hid (PX W0 o v d g g n w1) := hq; obtain ⟨z0, z1, z2, z3⟩ := HX.out _ hq.bel; clear hq)
  go_ret
  exact ⟨rfl, _, HP.out⟩

theorem works_pp {W : World} {v : Value} {o : Option (Nat × Option Nat)} {d : Nat} {g : Gp} {n : Nat} (h : PP W v o d g g n) (x : Opr) (hx : x.fit) :
    Calls Tryz.prog 13 #[v, .pointer (some ⟨d, 0, none⟩), ov x] W fun e W' => e = .returned (.bool true) ∧ ∃ o' n', PP W' v o' d (gWork g x) (gWork g x) n' ∧ PCh o d W W' ∧ Nws W o o' := by
  obtain ⟨k, a, b, s⟩ := x
  obtain ⟨x1, x2, x3, x4⟩ := hx
  dsimp only at x1 x2 x3 x4
  have hok := h.is.ok
  obtain ⟨W0, hW0⟩ : ∃ W0, W.alloc (.cells #[.int .i64 k, .int .i64 a, .int .i64 b, .string s] 45) = W0 := ⟨_, rfl⟩
  have hB : Below W.heap.size W W0 := by rw [← hW0]; exact (Below.refl _ W).alloc (Nat.le_refl _) _
  have hbx : W0.heap[W.heap.size]? = some (.cells #[.int .i64 k, .int .i64 a, .int .i64 b, .string s] 45 (0, 0)) := by rw [← hW0]; exact World.alloc_heap_new W _
  have hbl : W.heap.size < W0.heap.size := (Array.getElem?_eq_some_iff.1 hbx).1
  have hni : NotIn o W.heap.size := by
    cases o with
    | none => trivial
    | some y =>
      obtain ⟨b', r'⟩ := y
      have := h.is.2.lt
      exact ⟨by omega, fun e => by have := (h.is.2.row e).2; omega⟩
  have hd := h.lt
  have HX : Hid (∀ W1, PCh o d W0 W1 → W1.cell? ⟨W.heap.size, 0, none⟩ = some (.int .i64 k) ∧ W1.cell? ⟨W.heap.size, 1, none⟩ = some (.int .i64 a) ∧ W1.cell? ⟨W.heap.size, 2, none⟩ = some (.int .i64 b) ∧ W1.cell? ⟨W.heap.size, 3, none⟩ = some (.string s)) := fun W1 h1 => (box4 ((h1.2.2.2.2 _ hbl (by omega) hni).trans hbx)).1
  have hP : PX W0 o v d g g n W0 := ⟨o, h.low hB, PCh.refl _ _ _, Nws.refl _ _⟩
  have up : ∀ {g' : Gp} {W' : World}, (∃ n', PX W0 o v d g' g' n' W') → ∃ o' n', PP W' v o' d g' g' n' ∧ PCh o d W W' ∧ Nws W o o' := fun ⟨n', o', p1, p2, p3⟩ => ⟨o', n', p1, (PCh.below hB).trans (Nws.refl _ _) p2, p3.step hB⟩
  unfold gWork ov
  dsimp only
  by_cases h1 : k = 1
  · subst h1
    rw [if_pos rfl]
    exact (works_1 hW0 hP HX (sep_ins hok a x2 s (by omega))).mono fun e W' ⟨q1, q2⟩ => ⟨q1, up q2⟩
  · rw [if_neg h1]
    by_cases h2 : k = 2
    · subst h2
      rw [if_pos rfl]
      exact (works_2 hW0 hP HX (sep_del hok a b x2)).mono fun e W' ⟨q1, q2⟩ => ⟨q1, up q2⟩
    · rw [if_neg h2]
      by_cases h3 : k = 3
      · subst h3
        rw [if_pos rfl]
        exact (works_3 hW0 hP HX (sep_rep hok a b x2 s (by omega))).mono fun e W' ⟨q1, q2⟩ => ⟨q1, up q2⟩
      · rw [if_neg h3]
        by_cases h4 : k = 4
        · subst h4
          rw [if_pos rfl]
          exact (works_4 hW0 hP HX (sep_move a)).mono fun e W' ⟨q1, q2⟩ => ⟨q1, up q2⟩
        · rw [if_neg h4]
          by_cases h5 : k = 5
          · subst h5
            rw [if_pos rfl]
            exact (works_5 hW0 hP HX (sep_reset s)).mono fun e W' ⟨q1, q2⟩ => ⟨q1, up q2⟩
          · rw [if_neg h5]
            exact (works_0 h1 h2 h3 h4 h5 hW0 hP HX).mono fun e W' ⟨q1, q2⟩ => ⟨q1, up q2⟩
end Go.Proofs.YtgagpmeknpjkpaaGreatDoor
