/-
  The laws' play; both buffers new. Conditions: those of each theorem.
-/
import Derived.Test.YtgagpmeknpjkpaaGreatDoorPkS
namespace Go.Proofs.YtgagpmeknpjkpaaGreatDoor
open Go.RowKit Bod

theorem px_works {W0 W : World} {o0 : Option (Nat × Option Nat)} {v : Value} {d : Nat} {g : Gp} {n : Nat} (h : PX W0 o0 v d g g n W) (x : Opr) (hx : x.fit) :
    Calls Tryz.prog 13 #[v, .pointer (some ⟨d, 0, none⟩), ov x] W fun e W' => e = .returned (.bool true) ∧ ∃ n', PX W0 o0 v d (gWork g x) (gWork g x) n' W' := by
  obtain ⟨o, h1, h2, h3⟩ := h
  exact (works_pp h1 x hx).mono fun e W' ⟨q1, o', n', p1, p2, p3⟩ => ⟨q1, n', o', p1, h2.trans h3 p2, h3.trans h2.2.2.2.1 p3⟩
theorem px_asks {W0 W : World} {o0 : Option (Nat × Option Nat)} {v : Value} {d : Nat} {g : Gp} {n : Nat} (h : PX W0 o0 v d g g n W) (hE : Env W) (x : Opr) (hx : x.fit) :
    Calls Tryz.prog 14 #[v, .pointer (some ⟨d, 0, none⟩), ov x] W fun e W' => e = .returned (.bool true) ∧ PX W0 o0 v d g g n W' := by
  obtain ⟨o, h1, h2, h3⟩ := h
  exact (asks_pp h1 hE x hx).mono fun e W' ⟨q1, q2⟩ => ⟨q1, PX.low ⟨o, h1, h2, h3⟩ q2⟩
theorem px_looks {W0 W : World} {b0 : Nat} {r0 : Option Nat} {v : Value} {d : Nat} {g : Gp} {n : Nat} (h : PX W0 (some (b0, r0)) v d g g n W) :
    Calls Tryz.prog 9 #[v, .pointer (some ⟨d, 0, none⟩)] W fun e W' => e = .returned (.bool true) ∧ PX W0 (some (b0, r0)) v d g g n W' := by
  obtain ⟨o, h1, h2, h3⟩ := h
  obtain ⟨r, rfl, h4⟩ := h3
  exact (looks_pp h1).mono fun e W' ⟨q1, q2⟩ => ⟨q1, PX.low ⟨_, h1, h2, ⟨r, rfl, h4⟩⟩ q2⟩

/-- the script's cells, wherever the buffers alone have changed -/
def Scr (W0 : World) (o0 : Option (Nat × Option Nat)) (d : Nat) (a : Option Addr) (l : List Opr) : Prop :=
  ∀ k x, l[k]? = some x → ∃ gs os, a = some ⟨gs, os, none⟩ ∧ ∀ W, PCh o0 d W0 W → W.cell? ⟨gs, os + k * 4, none⟩ = some (.int .i64 x.k) ∧ W.cell? ⟨gs, os + k * 4 + 1, none⟩ = some (.int .i64 x.a) ∧ W.cell? ⟨gs, os + k * 4 + 2, none⟩ = some (.int .i64 x.b) ∧ W.cell? ⟨gs, os + k * 4 + 3, none⟩ = some (.string x.s)

set_option maxRecDepth 100000 in
set_option maxHeartbeats 4000000 in
theorem play_px {W0 W : World} {b0 : Nat} {r0 : Option Nat} {v : Value} {d : Nat} {g : Gp} {n : Nat} (h : PX W0 (some (b0, r0)) v d g g n W) (hE : ∀ W1, PCh (some (b0, r0)) d W0 W1 → Env W1) (a : Option Addr) (c : Nat) (l : List Opr) (N : Nat) (hN : l.length = N) (hNb : N ≤ 140737488351232) (hl : ∀ x ∈ l, x.fit) (hs : Scr W0 (some (b0, r0)) d a l) :
    Calls Tryz.prog 10 #[v, .pointer (some ⟨d, 0, none⟩), .slice a N c] W fun e W' => e = .returned (.bool true) ∧ ∃ g' n', PX W0 (some (b0, r0)) v d g' g' n' W' := by
  have HP0 : Hid (PX W0 (some (b0, r0)) v d g g n W) := h
  have HE : Hid (∀ W1, PCh (some (b0, r0)) d W0 W1 → Env W1) := hE
  have HN : Hid (l.length = N ∧ ∀ x ∈ l, x.fit) := ⟨hN, hl⟩
  have HS : Hid (Scr W0 (some (b0, r0)) d a l) := hs
  clear h hE hN hl hs
  go_enter Tryz.func10, Tryz.ntmps10
  go_wp2
  go_loopw [7] (fun t wr => ∃ k : Nat, k ≤ N ∧ t = .int .i64 k ∧ ∃ g' n', PX W0 (some (b0, r0)) v d g' g' n' wr) (fun t _ => N - (intOf t).toNat)
  case atStart => exact ⟨0, Nat.zero_le _, rfl, g, n, HP0.out⟩
  case round =>
    obtain ⟨k, hk, rfl, g1, n1, hP⟩ := hrel
    have HP : Hid (PX W0 (some (b0, r0)) v d g1 g1 n1 wr) := hP
    clear HP0 hP
    by_cases hlt : k < N
    · obtain ⟨x, hxk⟩ : ∃ x, l[k]? = some x := ⟨l[k]'(by rw [HN.out.1]; exact hlt), List.getElem?_eq_getElem _⟩
      have hxf := HN.out.2 x (List.mem_of_getElem? hxk)
      obtain ⟨gs, os, rfl, hcx⟩ := HS.out k x hxk
      have HC : Hid (∀ W, PCh (some (b0, r0)) d W0 W → W.cell? ⟨gs, os + k * 4, none⟩ = some (.int .i64 x.k) ∧ W.cell? ⟨gs, os + k * 4 + 1, none⟩ = some (.int .i64 x.a) ∧ W.cell? ⟨gs, os + k * 4 + 2, none⟩ = some (.int .i64 x.b) ∧ W.cell? ⟨gs, os + k * 4 + 3, none⟩ = some (.string x.s)) := hcx
      have CW : Hid (Calls Tryz.prog 13 #[v, .pointer (some ⟨d, 0, none⟩), ov x] wr fun e W' => e = .returned (.bool true) ∧ ∃ n', PX W0 (some (b0, r0)) v d (gWork g1 x) (gWork g1 x) n' W') := px_works HP.out x hxf
      obtain ⟨g2, hg2⟩ : ∃ g2, gWork g1 x = g2 := ⟨_, rfl⟩
      rw [hg2] at CW
      have CA : Hid (∀ W n', PX W0 (some (b0, r0)) v d g2 g2 n' W → Calls Tryz.prog 14 #[v, .pointer (some ⟨d, 0, none⟩), ov x] W fun e W' => e = .returned (.bool true) ∧ PX W0 (some (b0, r0)) v d g2 g2 n' W') := fun W n' hW => px_asks hW (HE.out _ hW.bel) x hxf
      have CK : Hid (∀ W n', PX W0 (some (b0, r0)) v d g2 g2 n' W → Calls Tryz.prog 9 #[v, .pointer (some ⟨d, 0, none⟩)] W fun e W' => e = .returned (.bool true) ∧ PX W0 (some (b0, r0)) v d g2 g2 n' W') := fun W n' hW => px_looks hW
      obtain ⟨y0, y1, y2, y3⟩ := HC.out _ HP.out.bel
      clear hcx hxk hxf hg2
      go_wp2_with (first
        | (go_at_call 13; refine CW.out.mono ?_; clear CW HP y0 y1 y2 y3; rintro e w2 ⟨rfl, n2, hq⟩; have HP2 : Hid (PX W0 (some (b0, r0)) v d g2 g2 n2 w2) := hq; obtain ⟨y0, y1, y2, y3⟩ := HC.out _ hq.bel; clear hq)
        | (go_at_call 14; refine (CA.out _ _ HP2.out).mono ?_; clear CA HP2 y0 y1 y2 y3; rintro e w3 ⟨rfl, hq⟩; have HP3 : Hid (PX W0 (some (b0, r0)) v d g2 g2 n2 w3) := hq; clear hq)
        | (go_at_call 9; refine (CK.out _ _ HP3.out).mono ?_; clear CK HP3; rintro e w4 ⟨rfl, hq⟩; have HP4 : Hid (PX W0 (some (b0, r0)) v d g2 g2 n2 w4) := hq; clear hq))
      exact ⟨⟨k + 1, by omega, by go_num, g2, n2, HP4.out⟩, by simp [intOf]; omega⟩
    · go_wp2
      go_ret
      exact ⟨rfl, g1, n1, HP.out⟩
end Go.Proofs.YtgagpmeknpjkpaaGreatDoor
namespace Go.Proofs.YtgagpmeknpjkpaaGreatDoor
open Go.RowKit Bod

theorem pch_below {n1 ba d : Nat} {r : Option Nat} {W0 W3 W : World} (hb : Below n1 W0 W3) (hn : n1 ≤ W0.heap.size) (h1 : n1 ≤ ba) (h2 : n1 ≤ d) (h3 : ∀ k, r = some k → n1 ≤ k) (hp : PCh (some (ba, r)) d W3 W) : Below n1 W0 W :=
  ⟨hp.1.trans hb.os, hp.2.1.trans hb.tape, hp.2.2.1.trans hb.output, Nat.le_trans hb.size hp.2.2.2.1, fun k hk => by
    rw [hp.2.2.2.2 k (by have := hb.size; omega) (by omega) ⟨by omega, fun e => by have := h3 k e; omega⟩]
    exact hb.block k hk⟩
theorem both_new {n1 : Nat} {W0 W1 W2 W3 : World} {g : Gp} (hb : Below n1 W0 W1) (hn : n1 ≤ W0.heap.size) (h1 : Nb W1 g W2) (h2 : RB W3 W2.heap.size g) (h3 : Below W2.heap.size W2 W3) :
    ∃ r n, PX W3 (some (W1.heap.size, r)) (.pointer (some ⟨W1.heap.size, 0, none⟩)) W2.heap.size g g n W3 ∧ Below n1 W0 W3 ∧ (n1 ≤ W1.heap.size ∧ n1 ≤ W2.heap.size ∧ ∀ k, r = some k → n1 ≤ k) ∧ W1.heap.size < W2.heap.size ∧ (∀ k, r = some k → k < W2.heap.size) := by
  obtain ⟨r, n, p1, b1, k1⟩ := h1
  have l1 := p1.lt
  have s1 : n1 ≤ W1.heap.size := Nat.le_trans hn hb.size
  refine ⟨r, n, ⟨some (W1.heap.size, r), ⟨⟨rfl, p1.below h3⟩, h2, ⟨by omega, fun e => ?_⟩⟩, PCh.refl _ _ _, Nws.refl _ _⟩, (hb.trans (b1.mono s1)).trans (h3.mono (by omega)), ⟨s1, by omega, fun k e => by have := k1 k e; omega⟩, l1, fun k e => (p1.row e).2⟩
  have := (p1.row e).2
  omega
theorem scr_of {n1 : Nat} {w W0 : World} {a : Option Addr} {l : List Opr} (hB : Below w.heap.size w W0) (hn : w.heap.size ≤ n1) (hr : l ≠ [] → ∃ g o, a = some ⟨g, o, none⟩ ∧ g < w.heap.size ∧ ∀ k x, l[k]? = some x → w.cell? ⟨g, o + k * 4, none⟩ = some (.int .i64 x.k) ∧ w.cell? ⟨g, o + k * 4 + 1, none⟩ = some (.int .i64 x.a) ∧ w.cell? ⟨g, o + k * 4 + 2, none⟩ = some (.int .i64 x.b) ∧ w.cell? ⟨g, o + k * 4 + 3, none⟩ = some (.string x.s)) :
    ∀ k x, l[k]? = some x → ∃ gs os, a = some ⟨gs, os, none⟩ ∧ ∀ W, Below n1 W0 W → W.cell? ⟨gs, os + k * 4, none⟩ = some (.int .i64 x.k) ∧ W.cell? ⟨gs, os + k * 4 + 1, none⟩ = some (.int .i64 x.a) ∧ W.cell? ⟨gs, os + k * 4 + 2, none⟩ = some (.int .i64 x.b) ∧ W.cell? ⟨gs, os + k * 4 + 3, none⟩ = some (.string x.s) := fun k x hk => by
  obtain ⟨g, o, e, hg, hc⟩ := hr (fun e => by rw [e] at hk; cases hk)
  obtain ⟨q0, q1, q2, q3⟩ := hc k x hk
  refine ⟨g, o, e, fun W hW => ?_⟩
  have kp : ∀ i v, w.cell? ⟨g, i, none⟩ = some v → W.cell? ⟨g, i, none⟩ = some v := fun i v h => ((hW.cell (p := ⟨g, i, none⟩) (by simp; omega)).trans (hB.cell (p := ⟨g, i, none⟩) hg)).trans h
  exact ⟨kp _ _ q0, kp _ _ q1, kp _ _ q2, kp _ _ q3⟩
end Go.Proofs.YtgagpmeknpjkpaaGreatDoor
