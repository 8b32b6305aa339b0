/-
  The law GapClones returns true: a clone is like its buffer, and each goes its own way. Conditions: the two tables of unicode/utf8 lie as their text lays them; the variable that strings.Index asks holds a number.
-/
import Derived.Test.YtgagpmeknpjkpaaGreatDoorPkT
import Derived.Test.YtgagpmeknpjkpaaGreatDoorGClone
namespace Go.Proofs.YtgagpmeknpjkpaaGreatDoor.gapClones
open Go.RowKit Bod

/-- nothing of the one pair is in the other -/
def Sp (b1 : Nat) (r1 : Option Nat) (d1 b2 : Nat) (r2 : Option Nat) (d2 : Nat) : Prop :=
  (b2 ≠ b1 ∧ r1 ≠ some b2 ∧ b2 ≠ d1) ∧ (d2 ≠ b1 ∧ r1 ≠ some d2 ∧ d2 ≠ d1) ∧ (∀ k, r2 = some k → k ≠ b1 ∧ r1 ≠ some k ∧ k ≠ d1)
theorem Sp.swap {b1 d1 b2 d2 : Nat} {r1 r2 : Option Nat} (h : Sp b1 r1 d1 b2 r2 d2) : Sp b2 r2 d2 b1 r1 d1 := by
  obtain ⟨⟨a1, a2, a3⟩, ⟨c1, c2, c3⟩, e⟩ := h
  exact ⟨⟨Ne.symm a1, fun h => (e _ h).1 rfl, Ne.symm c1⟩, ⟨Ne.symm a3, fun h => (e _ h).2.2 rfl, Ne.symm c3⟩, fun k hk => ⟨fun h => a2 (by rw [hk, h]), fun h => (e k h).2.1 hk, fun h => c2 (by rw [hk, h])⟩⟩
theorem pp_kept {W W' : World} {v : Value} {b1 d1 b2 d2 : Nat} {r1 r2 : Option Nat} {g : Gp} {n : Nat} (h : PP W v (some (b2, r2)) d2 g g n) (hs : Sp b1 r1 d1 b2 r2 d2) (hc : PCh (some (b1, r1)) d1 W W') : PP W' v (some (b2, r2)) d2 g g n := by
  obtain ⟨⟨a1, a2, a3⟩, ⟨c1, c2, c3⟩, e⟩ := hs
  refine ⟨⟨h.is.1, ?_⟩, (hc.2.2.2.2 d2 h.lt c3 ⟨c1, c2⟩).trans h.rb, h.ap⟩
  obtain ⟨A, ee, hP, hg⟩ := h.is.2.ex
  refine ⟨⟨A, ee, ⟨(hc.2.2.2.2 b2 hP.lt a3 ⟨a1, a2⟩).trans hP.box, fun k hk => ?_, hP.nil⟩, hg⟩, h.is.2.cap, h.is.2.lm, h.is.2.ok⟩
  obtain ⟨k1, k2, k3⟩ := e k hk
  exact ⟨(hP.row k hk).1, (hc.2.2.2.2 k (hP.rlt hk) k3 ⟨k1, k2⟩).trans (hP.row k hk).2⟩
/-- two pairs side by side, all of it beyond n1; below n1 the world is as W0 -/
def Quad (n1 : Nat) (W0 : World) (b1 d1 b2 d2 : Nat) (W : World) : Prop :=
  ∃ r1 g1 m1 r2 g2 m2, PP W (.pointer (some ⟨b1, 0, none⟩)) (some (b1, r1)) d1 g1 g1 m1 ∧ PP W (.pointer (some ⟨b2, 0, none⟩)) (some (b2, r2)) d2 g2 g2 m2 ∧ Sp b1 r1 d1 b2 r2 d2 ∧ (n1 ≤ b1 ∧ n1 ≤ d1 ∧ ∀ k, r1 = some k → n1 ≤ k) ∧ (n1 ≤ b2 ∧ n1 ≤ d2 ∧ ∀ k, r2 = some k → n1 ≤ k) ∧ Below n1 W0 W
theorem Quad.swap {n1 : Nat} {W0 W : World} {b1 d1 b2 d2 : Nat} (h : Quad n1 W0 b1 d1 b2 d2 W) : Quad n1 W0 b2 d2 b1 d1 W := by
  obtain ⟨r1, g1, m1, r2, g2, m2, p1, p2, hs, l1, l2, hb⟩ := h
  exact ⟨r2, g2, m2, r1, g1, m1, p2, p1, hs.swap, l2, l1, hb⟩
theorem Quad.bel {n1 : Nat} {W0 W : World} {b1 d1 b2 d2 : Nat} (h : Quad n1 W0 b1 d1 b2 d2 W) : Below n1 W0 W := by
  obtain ⟨_, _, _, _, _, _, _, _, _, _, _, hb⟩ := h; exact hb
theorem Quad.looks {n1 : Nat} {W0 W : World} {b1 d1 b2 d2 : Nat} (hn : n1 ≤ W0.heap.size) (h : Quad n1 W0 b1 d1 b2 d2 W) : Calls Tryz.prog 9 #[.pointer (some ⟨b1, 0, none⟩), .pointer (some ⟨d1, 0, none⟩)] W fun e W' => e = .returned (.bool true) ∧ Quad n1 W0 b1 d1 b2 d2 W' := by
  obtain ⟨r1, g1, m1, r2, g2, m2, p1, p2, hs, l1, l2, hb⟩ := h
  exact (looks_pp p1).mono fun e W' ⟨q1, q2⟩ => ⟨q1, r1, g1, m1, r2, g2, m2, p1.low q2, p2.low q2, hs, l1, l2, hb.trans (q2.mono (Nat.le_trans hn hb.size))⟩
theorem Quad.play {n1 : Nat} {W0 W : World} {b1 d1 b2 d2 : Nat} (hn : n1 ≤ W0.heap.size) (h : Quad n1 W0 b1 d1 b2 d2 W) (hE : ∀ W1, Below n1 W0 W1 → Env W1) (a : Option Addr) (c : Nat) (l : List Opr) (N : Nat) (hN : l.length = N) (hNb : N ≤ 140737488351232) (hl : ∀ x ∈ l, x.fit)
    (hs : ∀ k x, l[k]? = some x → ∃ gs os, a = some ⟨gs, os, none⟩ ∧ ∀ W, Below n1 W0 W → W.cell? ⟨gs, os + k * 4, none⟩ = some (.int .i64 x.k) ∧ W.cell? ⟨gs, os + k * 4 + 1, none⟩ = some (.int .i64 x.a) ∧ W.cell? ⟨gs, os + k * 4 + 2, none⟩ = some (.int .i64 x.b) ∧ W.cell? ⟨gs, os + k * 4 + 3, none⟩ = some (.string x.s)) :
    Calls Tryz.prog 10 #[.pointer (some ⟨b1, 0, none⟩), .pointer (some ⟨d1, 0, none⟩), .slice a N c] W fun e W' => e = .returned (.bool true) ∧ Quad n1 W0 b1 d1 b2 d2 W' := by
  obtain ⟨r1, g1, m1, r2, g2, m2, p1, p2, sp, ⟨k1, k2, k3⟩, l2, hb⟩ := h
  have lo : ∀ W1, PCh (some (b1, r1)) d1 W W1 → Below n1 W0 W1 := fun W1 h1 => pch_below hb hn k1 k2 k3 h1
  refine (play_px (W0 := W) (b0 := b1) (r0 := r1) (⟨some (b1, r1), p1, PCh.refl _ _ _, Nws.refl _ _⟩) (fun W1 h1 => hE _ (lo W1 h1)) a c l N hN hNb hl (fun k x hk => ?_)).mono ?_
  · obtain ⟨gs, os, e, hc⟩ := hs k x hk
    exact ⟨gs, os, e, fun W1 h1 => hc W1 (lo W1 h1)⟩
  · rintro e W' ⟨q1, g', n', o', p', c', s'⟩
    obtain ⟨r', rfl, hw⟩ := s'
    have l2' := p2.lt
    have lb2 := p2.is.2.lt
    refine ⟨q1, r', g', n', r2, g2, m2, p', pp_kept p2 sp c', ?_, ⟨k1, k2, fun k hk => ?_⟩, l2, lo _ c'⟩
    · rcases hw with rfl | ⟨j, rfl, hj⟩
      · exact sp
      · obtain ⟨⟨a1, a2, a3⟩, ⟨c1, c2, c3⟩, e⟩ := sp
        exact ⟨⟨a1, fun h => by cases h; omega, a3⟩, ⟨c1, fun h => by cases h; omega, c3⟩, fun k hk => ⟨(e k hk).1, fun h => by cases h; have := (p2.is.2.row hk).2; omega, (e k hk).2.2⟩⟩
    · rcases hw with rfl | ⟨j, rfl, hj⟩
      · exact k3 k hk
      · cases hk
        have := hb.size
        omega
theorem quad_of {n1 : Nat} {W0 W W1 W2 : World} {b d : Nat} {r : Option Nat} {g : Gp} {n : Nat} (hn : n1 ≤ W0.heap.size) (hP : PP W (.pointer (some ⟨b, 0, none⟩)) (some (b, r)) d g g n) (hb : Below n1 W0 W) (hlo : n1 ≤ b ∧ n1 ≤ d ∧ ∀ k, r = some k → n1 ≤ k) (h1 : PB W1 (W.heap.size + 1) (some W.heap.size) g n) (b1 : Below W.heap.size W W1) (h2 : RB W2 W1.heap.size g) (b2 : Below W1.heap.size W1 W2) :
    Quad n1 W0 b d (W.heap.size + 1) W1.heap.size W2 := by
  have s0 : n1 ≤ W.heap.size := Nat.le_trans hn hb.size
  have lb := hP.is.2.lt
  have ld := hP.lt
  have l1 := h1.lt
  have lr : ∀ k, r = some k → k < W.heap.size := fun k hk => (hP.is.2.row hk).2
  refine ⟨r, g, n, some W.heap.size, g, n, (hP.low b1).low b2, ⟨⟨rfl, h1.below b2⟩, h2, ⟨by omega, fun e => by have := Option.some.inj e; omega⟩⟩, ⟨⟨by omega, fun e => by have := lr _ e; omega, by omega⟩, ⟨by omega, fun e => by have := lr _ e; omega, by omega⟩, fun k hk => by cases hk; exact ⟨by omega, fun e => by have := lr _ e; omega, by omega⟩⟩, hlo, ⟨by omega, by omega, fun k hk => by cases hk; exact s0⟩, (hb.trans (b1.mono s0)).trans (b2.mono (Nat.le_trans s0 b1.size))⟩

set_option maxRecDepth 100000 in
set_option maxHeartbeats 4000000 in
theorem walk (s : ByteArray) (m : Int) (l t : List Opr) (N M : Nat) (a1 a2 : Option Addr) (c1 c2 : Nat) (hN : l.length = N) (hNb : N ≤ 140737488351232) (hl : ∀ x ∈ l, x.fit) (hM : t.length = M) (hMb : M ≤ 140737488351232) (ht : ∀ x ∈ t, x.fit) (w : World)
    (hr : l ≠ [] → ∃ g o, a1 = some ⟨g, o, none⟩ ∧ g < w.heap.size ∧ ∀ k x, l[k]? = some x → w.cell? ⟨g, o + k * 4, none⟩ = some (.int .i64 x.k) ∧ w.cell? ⟨g, o + k * 4 + 1, none⟩ = some (.int .i64 x.a) ∧ w.cell? ⟨g, o + k * 4 + 2, none⟩ = some (.int .i64 x.b) ∧ w.cell? ⟨g, o + k * 4 + 3, none⟩ = some (.string x.s))
    (hr2 : t ≠ [] → ∃ g o, a2 = some ⟨g, o, none⟩ ∧ g < w.heap.size ∧ ∀ k x, t[k]? = some x → w.cell? ⟨g, o + k * 4, none⟩ = some (.int .i64 x.k) ∧ w.cell? ⟨g, o + k * 4 + 1, none⟩ = some (.int .i64 x.a) ∧ w.cell? ⟨g, o + k * 4 + 2, none⟩ = some (.int .i64 x.b) ∧ w.cell? ⟨g, o + k * 4 + 3, none⟩ = some (.string x.s)) (hE : Env w) :
    Calls Tryz.prog 4 #[.agg #[.string s, .int .i64 m], .slice a1 N c1, .slice a2 M c2] w fun e w' => e = .returned (.bool true) ∧ Below w.heap.size w w' := by
  obtain ⟨W0, hW0⟩ : ∃ W0, w.alloc (.cells #[.string s, .int .i64 m] 23) = W0 := ⟨_, rfl⟩
  obtain ⟨n1, hn1'⟩ : ∃ n1, W0.heap.size = n1 := ⟨_, rfl⟩
  have hn1 : n1 ≤ W0.heap.size := by omega
  have hB0 : Below w.heap.size w W0 := by rw [← hW0]; exact (Below.refl _ w).alloc (Nat.le_refl _) _
  have hx0 : W0.heap[w.heap.size]? = some (.cells #[.string s, .int .i64 m] 23 (0, 0)) := by rw [← hW0]; exact World.alloc_heap_new w _
  have hS0 : w.heap.size < n1 := by rw [← hn1']; exact (Array.getElem?_eq_some_iff.1 hx0).1
  have HX : Hid (∀ W, Below n1 W0 W → W.cell? ⟨w.heap.size, 0, none⟩ = some (.string s) ∧ W.cell? ⟨w.heap.size, 1, none⟩ = some (.int .i64 m)) := fun W hW => by
    have : W.heap[w.heap.size]? = some (.cells #[.string s, .int .i64 m] 23 (0, 0)) := (hW.block _ hS0).trans hx0
    simp [World.cell?, this]
  have CF : Hid (Calls Tryz.prog 6 #[] W0 fun e w' => e = .returned (.bool true) ∧ Below n1 W0 w') := by
    have := fixed_any W0 (tabs_below hE.tab hB0)
    rw [hn1'] at this
    exact this
  have HEnd : Hid (∀ W, Below n1 W0 W → Below w.heap.size w W) := fun W hW => hB0.trans (hW.mono (by omega))
  have hEv : ∀ W, Below n1 W0 W → Env W := fun W hW => hE.low (HEnd.out W hW)
  have hSc := scr_of hB0 (show w.heap.size ≤ n1 by omega) hr
  have hSc2 := scr_of hB0 (show w.heap.size ≤ n1 by omega) hr2
  have CN : Hid (∀ W, Calls Tryz.prog 7 #[.string s, .int .i64 m] W fun e w' => match gNew s m with
      | none => e = .returned (.tuple #[.pointer none, .int .i64 2]) ∧ Below W.heap.size W w'
      | some g => e = .returned (.tuple #[.pointer (some ⟨W.heap.size, 0, none⟩), .int .i64 0]) ∧ Nb W g w') := fun W => new_any s m W
  have CR : Hid (∀ W, Calls Tryz.prog 8 #[.string s, .int .i64 m] W fun e w' => match gNew s m with
      | none => e = .returned (.tuple #[.pointer none, .int .i64 2]) ∧ Below W.heap.size W w'
      | some g => e = .returned (.tuple #[.pointer (some ⟨W.heap.size, 0, none⟩), .int .i64 0]) ∧ RB w' W.heap.size g ∧ Below W.heap.size W w') := fun W => rnew_any s m W
  have HD : Hid (∀ W W', Below n1 W0 W → Below W.heap.size W W' → Below n1 W0 W') := fun W W' h1 h2 => h1.trans (h2.mono (Nat.le_trans hn1 h1.size))
  have HPl : Hid (∀ W3 ba d r g n, PX W3 (some (ba, r)) (.pointer (some ⟨ba, 0, none⟩)) d g g n W3 → Below n1 W0 W3 → (n1 ≤ ba ∧ n1 ≤ d ∧ ∀ k, r = some k → n1 ≤ k) → Calls Tryz.prog 10 #[.pointer (some ⟨ba, 0, none⟩), .pointer (some ⟨d, 0, none⟩), .slice a1 N c1] W3 fun e W' => e = .returned (.bool true) ∧ ∃ r' g' n', PP W' (.pointer (some ⟨ba, 0, none⟩)) (some (ba, r')) d g' g' n' ∧ Below n1 W0 W' ∧ (n1 ≤ ba ∧ n1 ≤ d ∧ ∀ k, r' = some k → n1 ≤ k)) := fun W3 ba d r g n hP hb ⟨k1, k2, k3⟩ => by
    have lo : ∀ W1, PCh (some (ba, r)) d W3 W1 → Below n1 W0 W1 := fun W1 h1 => pch_below hb hn1 k1 k2 k3 h1
    refine (play_px hP (fun W1 h1 => hEv _ (lo W1 h1)) a1 c1 l N hN hNb hl (fun k x hk => ?_)).mono ?_
    · obtain ⟨gs, os, e, hc⟩ := hSc k x hk
      exact ⟨gs, os, e, fun W1 h1 => hc W1 (lo W1 h1)⟩
    · rintro e W' ⟨q1, g', n', o', p', c', s'⟩
      obtain ⟨r', rfl, hw⟩ := s'
      refine ⟨q1, r', g', n', p', lo _ c', k1, k2, fun k hk => ?_⟩
      rcases hw with rfl | ⟨j, rfl, hj⟩
      · exact k3 k hk
      · cases hk
        have := hb.size
        omega
  have HQ1 : Hid (∀ b1 d1 b2 d2 W, Quad n1 W0 b1 d1 b2 d2 W → Calls Tryz.prog 10 #[.pointer (some ⟨b1, 0, none⟩), .pointer (some ⟨d1, 0, none⟩), .slice a1 N c1] W fun e W' => e = .returned (.bool true) ∧ Quad n1 W0 b1 d1 b2 d2 W') := fun b1 d1 b2 d2 W h => h.play hn1 hEv a1 c1 l N hN hNb hl hSc
  have HQ2 : Hid (∀ b1 d1 b2 d2 W, Quad n1 W0 b1 d1 b2 d2 W → Calls Tryz.prog 10 #[.pointer (some ⟨b1, 0, none⟩), .pointer (some ⟨d1, 0, none⟩), .slice a2 M c2] W fun e W' => e = .returned (.bool true) ∧ Quad n1 W0 b1 d1 b2 d2 W') := fun b1 d1 b2 d2 W h => h.play hn1 hEv a2 c2 t M hM hMb ht hSc2
  clear hr hr2 hB0 hx0 hS0 hN hl hM ht hE hSc hSc2 hEv
  cases hg : gNew s m with
  | none =>
    rw [hg] at CN CR
    go_enter Tryz.func4, Tryz.ntmps4
    go_wp2_with (first
      | (go_at_call 6; refine CF.out.mono ?_; clear CF; rintro e w1 ⟨rfl, hb1⟩; have HB1 : Hid (Below n1 W0 w1) := hb1; obtain ⟨z0, z1⟩ := HX.out _ hb1; clear hb1)
      | (go_at_call 7; refine (CN.out w1).mono ?_; rintro e w2 ⟨rfl, hb2⟩; have HB2 : Hid (Below n1 W0 w2) := HD.out _ _ HB1.out hb2; clear hb2 z0 z1; obtain ⟨z0, z1⟩ := HX.out _ HB2.out)
      | (go_at_call 8; refine (CR.out w2).mono ?_; rintro e w3 ⟨rfl, hb3⟩; have HB3 : Hid (Below n1 W0 w3) := HD.out _ _ HB2.out hb3; clear hb3))
    go_ret
    exact ⟨rfl, HEnd.out _ HB3.out⟩
  | some g =>
    rw [hg] at CN CR
    dsimp only at CN CR
    go_enter Tryz.func4, Tryz.ntmps4
    go_wp2_with (first
      | (go_at_call 6; refine CF.out.mono ?_; clear CF; rintro e w1 ⟨rfl, hb1⟩; have HB1 : Hid (Below n1 W0 w1) := hb1; obtain ⟨z0, z1⟩ := HX.out _ hb1; clear hb1)
      | (go_at_call 7; refine (CN.out w1).mono ?_; clear CN; rintro e w2 ⟨rfl, hk2⟩; have HK2 : Hid (Nb w1 g w2) := hk2; obtain ⟨z2, z3⟩ := HX.out _ (HD.out _ _ HB1.out (by obtain ⟨_, _, _, q, _⟩ := hk2; exact q)); clear hk2)
      | (go_at_call 8; refine (CR.out w2).mono ?_; clear CR; rintro e w3 ⟨rfl, hk3, hb3⟩; obtain ⟨r, n, hp, hb, hlo, -⟩ := both_new HB1.out hn1 HK2.out hk3 hb3; have HP3 : Hid (PX w3 (some (w1.heap.size, r)) (.pointer (some ⟨w1.heap.size, 0, none⟩)) w2.heap.size g g n w3) := hp; have HL3 : Hid (Below n1 W0 w3 ∧ n1 ≤ w1.heap.size ∧ n1 ≤ w2.heap.size ∧ ∀ k, r = some k → n1 ≤ k) := ⟨hb, hlo⟩; clear hk3 hb3 hp hb hlo)
      | (go_at_call 10; refine (HPl.out _ _ _ _ _ _ HP3.out HL3.out.1 HL3.out.2).mono ?_; clear HPl; rintro e w4 ⟨rfl, r4, g4, n4, p4, b4, l4⟩; have HP4 : Hid (PP w4 (.pointer (some ⟨w1.heap.size, 0, none⟩)) (some (w1.heap.size, r4)) w2.heap.size g4 g4 n4 ∧ Below n1 W0 w4 ∧ n1 ≤ w1.heap.size ∧ n1 ≤ w2.heap.size ∧ ∀ k, r4 = some k → n1 ≤ k) := ⟨p4, b4, l4⟩; clear p4 b4 l4)
      | (go_at_call 11; refine (clone_pb HP4.out.1.is.2).mono ?_; rintro e w5 ⟨rfl, p5, b5⟩; have HP5 : Hid (PB w5 (w4.heap.size + 1) (some w4.heap.size) g4 n4 ∧ Below w4.heap.size w4 w5) := ⟨p5, b5⟩; clear p5 b5)
      | (go_at_call 12; refine (rclone_any w5 (HP4.out.1.rb.low HP5.out.2)).mono ?_; rintro e w6 ⟨rfl, p6, b6⟩; have HQ : Hid (Quad n1 W0 w1.heap.size w2.heap.size (w4.heap.size + 1) w5.heap.size w6) := quad_of hn1 HP4.out.1 HP4.out.2.1 HP4.out.2.2 HP5.out.1 HP5.out.2 p6 b6; clear p6 b6 HP4 HP5 HP3 HL3 HB1 HK2)
      | (go_at_call 9; refine (HQ.out.swap.looks hn1).mono ?_; rintro e w7 ⟨rfl, q⟩; have HA : Hid (Quad n1 W0 w1.heap.size w2.heap.size (w4.heap.size + 1) w5.heap.size w7) := q.swap; clear q HQ)
      | (go_at_call 10; refine (HQ2.out _ _ _ _ _ HA.out).mono ?_; rintro e w8 ⟨rfl, q⟩; have HB : Hid (Quad n1 W0 w1.heap.size w2.heap.size (w4.heap.size + 1) w5.heap.size w8) := q; clear q HA)
      | (go_at_call 9; refine (HB.out.swap.looks hn1).mono ?_; rintro e w9 ⟨rfl, q⟩; have HC : Hid (Quad n1 W0 w1.heap.size w2.heap.size (w4.heap.size + 1) w5.heap.size w9) := q.swap; clear q HB)
      | (go_at_call 10; refine (HQ1.out _ _ _ _ _ HC.out.swap).mono ?_; rintro e w10 ⟨rfl, q⟩; have HF : Hid (Quad n1 W0 w1.heap.size w2.heap.size (w4.heap.size + 1) w5.heap.size w10) := q.swap; clear q HC)
      | (go_at_call 9; refine (HF.out.looks hn1).mono ?_; rintro e w11 ⟨rfl, q⟩; have HG : Hid (Quad n1 W0 w1.heap.size w2.heap.size (w4.heap.size + 1) w5.heap.size w11) := q; clear q HF)
      | (go_at_call 10; refine (HQ2.out _ _ _ _ _ HG.out.swap).mono ?_; rintro e w12 ⟨rfl, q⟩; have HH : Hid (Quad n1 W0 w1.heap.size w2.heap.size (w4.heap.size + 1) w5.heap.size w12) := q.swap; clear q HG)
      | (go_at_call 9; refine (HH.out.looks hn1).mono ?_; rintro e w13 ⟨rfl, q⟩; have HJ : Hid (Quad n1 W0 w1.heap.size w2.heap.size (w4.heap.size + 1) w5.heap.size w13) := q; clear q HH))
    go_ret
    exact ⟨rfl, HEnd.out _ HJ.out.bel⟩

theorem walk_of (s : ByteArray) (m : Int) (a1 : Option Addr) (len1 cap1 : Nat) (a2 : Option Addr) (len2 cap2 : Nat) (w : World) (hT : Lib.Utf8Tabs 1 2 w) (hlo0 : 1 < w.heap.size) (hlo1 : 2 < w.heap.size) (hM : ∃ m, w.cell? ⟨0, 0, none⟩ = some (.int .i64 m)) (_z : -9223372036854775808 ≤ m ∧ m ≤ 9223372036854775807)
    (l : List Opr) (y1 : RdO w (.slice a1 len1 cap1) l) (u1 : l.length ≤ 140737488351232 ∧ ∀ x ∈ l, x.fit) (t : List Opr) (y2 : RdO w (.slice a2 len2 cap2) t) (u2 : t.length ≤ 140737488351232 ∧ ∀ x ∈ t, x.fit) :
    Calls Tryz.prog 4 #[.agg #[.string s, .int .i64 m], .slice a1 len1 cap1, .slice a2 len2 cap2] w fun e w' => e = .returned (.bool true) ∧ Below w.heap.size w w' := by
  obtain ⟨_, _, e, hr⟩ := y1
  cases e
  obtain ⟨_, _, e, hr2⟩ := y2
  cases e
  exact walk s m l t l.length t.length a1 a2 cap1 cap2 rfl u1.1 u1.2 rfl u2.1 u2.2 w hr hr2 ⟨hT, hlo0, hlo1, hM⟩
end Go.Proofs.YtgagpmeknpjkpaaGreatDoor.gapClones
