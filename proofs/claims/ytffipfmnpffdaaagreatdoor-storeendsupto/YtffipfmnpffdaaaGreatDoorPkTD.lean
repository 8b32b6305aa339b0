/-
  The document's own store edits; a new store; a store of the call's own. Conditions: those of each theorem.
-/
import Derived.Test.YtffipfmnpffdaaaGreatDoorPkTA
import Derived.Test.YtffipfmnpffdaaaGreatDoorPkTC
import Derived.Test.YtffipfmnpffdaaaGreatDoorPkTB
import Derived.Test.YtffipfmnpffdaaaGreatDoorCPlaces
import Derived.Test.YtffipfmnpffdaaaGreatDoorPkI
namespace Go.Proofs.YtffipfmnpffdaaaGreatDoor.Sto
open Go.RowKit Go.Shelf Bod Wid
open Gap (Gp RB gRep gReset eBA)

/-- the numbers behind an edit of n bytes that leaves a text of z -/
def Rk.edit (k : Rk) (n : Int) (z : Nat) : Rk :=
  if k.kind = 3 ∧ ((z : Int) ≤ k.lo ∧ k.now ≠ 1 ∨ k.hi ≤ (z : Int) ∧ k.now ≠ 2) then ⟨k.kind, if (z : Int) ≤ k.lo then 1 else 2, k.lo, k.hi, k.mv + 1, k.fo, k.ed + n⟩
  else ⟨k.kind, k.now, k.lo, k.hi, k.mv, k.fo, k.ed + n⟩
theorem Rf.ne {W : World} {b p : Nat} {g : Gp} {k : Rk} (h : Rf W b p g k) : p ≠ b := ne_type h.buf h.box (by decide)
/-- a number of the document's store is set -/
theorem Rf.set {W : World} {b p : Nat} {g : Gp} {k k' : Rk} {i : Nat} {u : Value} (h : Rf W b p g k) (he : (rcl p k).setIfInBounds i u = rcl p k') : Rf (W.setCell ⟨b, i, none⟩ u) b p g k' ∧ W.grownBy (W.setCell ⟨b, i, none⟩ u) (some b) := by
  have hg := gcell W b i u
  refine ⟨⟨?_, (hg.block p (Array.getElem?_eq_some_iff.1 h.buf).1 (fun e => h.ne (Option.some.inj e))).trans h.buf, h.ok⟩, hg⟩
  have := set1 (i := i) u h.box
  rw [he] at this
  exact this
set_option maxRecDepth 100000 in
set_option maxHeartbeats 2000000 in
theorem redit_any {w : World} {b p : Nat} {g : Gp} {k : Rk} (h : Rf w b p g k) (hlh : k.lo < k.hi) (n : Int) (hn : 0 ≤ n ∧ n ≤ 4611686018427387904) (hk : 0 ≤ k.ed ∧ k.ed + n ≤ 4611686018427387904 ∧ 0 ≤ k.mv ∧ k.mv ≤ 4611686018427387904) :
    Calls Tryz.prog 149 #[.pointer (some ⟨b, 0, none⟩), .int .i64 n] w fun e W' => e = .returned (.tuple #[]) ∧ Rf W' b p g (k.edit n g.s.size) ∧ w.grownBy W' (some b) := by
  obtain ⟨kind, now, lo, hi, mv, fo, ed⟩ := k
  simp only at hlh hk
  obtain ⟨⟨c0, c1, c2, c3, c4, c5, c6, c7⟩, hlt⟩ := rcells h.box
  simp only at c1 c2 c3 c4 c5 c6 c7
  have f7 := rfroz (i := 7) h.box
  obtain ⟨hr1, hg1⟩ := h.set (k' := ⟨kind, now, lo, hi, mv, fo, ed + n⟩) (i := 7) (u := .int .i64 (ed + n)) rfl
  obtain ⟨W1, hW1⟩ : ∃ W1, w.setCell ⟨b, 7, none⟩ (.int .i64 (ed + n)) = W1 := ⟨_, rfl⟩
  rw [hW1] at hr1 hg1
  obtain ⟨⟨q0, q1, q2, q3, q4, q5, q6, q7⟩, hlt1⟩ := rcells hr1.box
  simp only at q1 q2 q3 q4 q5 q6 q7
  obtain ⟨⟨d0, d1, d2⟩, _, _, hlp⟩ := hr1.buf.cells
  have f2 := rfroz (i := 2) hr1.box
  have f5 := rfroz (i := 5) hr1.box
  have HN : Hid (∀ k', k' = (⟨kind, now, lo, hi, mv, fo, ed + n⟩ : Rk) → ∀ j, Rf (W1.drewN j) b p g k' ∧ w.grownBy (W1.drewN j) (some b)) := fun k' e j => by subst e; exact ⟨⟨hr1.box, hr1.buf, hr1.ok⟩, hg1.os, hg1.tape, hg1.output, hg1.size, hg1.block⟩
  have HM : Hid (∀ t : Int, ∀ k', k' = (⟨kind, t, lo, hi, mv + 1, fo, ed + n⟩ : Rk) → ∀ j, Rf (((W1.setCell ⟨b, 2, none⟩ (.int .i64 t)).setCell ⟨b, 5, none⟩ (.int .i64 (mv + 1))).drewN j) b p g k' ∧ w.grownBy (((W1.setCell ⟨b, 2, none⟩ (.int .i64 t)).setCell ⟨b, 5, none⟩ (.int .i64 (mv + 1))).drewN j) (some b)) := fun t k' e j => by
    subst e
    obtain ⟨h1, g1⟩ := hr1.set (k' := ⟨kind, t, lo, hi, mv, fo, ed + n⟩) (i := 2) (u := .int .i64 t) rfl
    obtain ⟨h2, g2⟩ := h1.set (k' := ⟨kind, t, lo, hi, mv + 1, fo, ed + n⟩) (i := 5) (u := .int .i64 (mv + 1)) rfl
    have g3 := grown_two (grown_two hg1 g1) g2
    exact ⟨⟨h2.box, h2.buf, h2.ok⟩, g3.os, g3.tape, g3.output, g3.size, g3.block⟩
  have HW : Hid (w.setCell ⟨b, 7, none⟩ (.int .i64 (ed + n)) = W1) := hW1
  unfold Rk.edit
  simp only
  have hzb : ((g.s.size : Nat) : Int) ≤ 9223372036854775807 := by have := h.ok; have := this.2; omega
  clear h hr1 hg1 hW1
  by_cases cA : (g.s.size : Int) ≤ lo
  · have cB : ¬ (hi ≤ (g.s.size : Int)) := by omega
    have dA : decide ((g.s.size : Int) ≤ lo) = true := decide_eq_true cA
    have dB : decide (hi ≤ (g.s.size : Int)) = false := decide_eq_false cB
    by_cases c3 : kind = 3
    · subst c3
      by_cases c4 : now = 1
      · subst c4
        rw [if_neg (by omega)]
        go_enter Tryz.func149, Tryz.ntmps149
        go_upto_region 1 with fail
        rw [HW.out]
        go_wp2
        go_region
        go_wp2
        go_region
        go_wp2
        go_end0
        exact ⟨rfl, HN.out _ rfl 2⟩
      · rw [if_pos (by omega), if_pos cA]
        have c5 : ((1 : Int) == now) = false := by simp; omega
        have c6 : ((1 : Int) != now) = true := by simp; omega
        have c7 : ¬ ((1 : Int) = now) := by omega
        go_enter Tryz.func149, Tryz.ntmps149
        go_upto_region 1 with fail
        rw [HW.out]
        go_wp2
        go_region
        go_wp2
        go_region
        go_wp2
        go_end0
        exact ⟨rfl, HM.out 1 _ rfl 2⟩
    · rw [if_neg (by omega)]
      have c5 : (kind == 3) = false := by simp; omega
      go_enter Tryz.func149, Tryz.ntmps149
      go_upto_region 1 with fail
      rw [HW.out]
      go_wp2
      go_region
      go_wp2
      go_region
      go_wp2
      go_end0
      exact ⟨rfl, HN.out _ rfl 2⟩
  · have dA : decide ((g.s.size : Int) ≤ lo) = false := decide_eq_false cA
    by_cases cB : hi ≤ (g.s.size : Int)
    · have dB : decide (hi ≤ (g.s.size : Int)) = true := decide_eq_true cB
      by_cases c3 : kind = 3
      · subst c3
        by_cases c4 : now = 2
        · subst c4
          rw [if_neg (by omega)]
          go_enter Tryz.func149, Tryz.ntmps149
          go_upto_region 1 with fail
          rw [HW.out]
          go_wp2
          go_region
          go_wp2
          go_region
          go_wp2
          go_end0
          exact ⟨rfl, HN.out _ rfl 2⟩
        · rw [if_pos (by omega), if_neg cA]
          have c5 : ((2 : Int) == now) = false := by simp; omega
          have c6 : ((2 : Int) != now) = true := by simp; omega
          have c7 : ¬ ((2 : Int) = now) := by omega
          go_enter Tryz.func149, Tryz.ntmps149
          go_upto_region 1 with fail
          rw [HW.out]
          go_wp2
          go_region
          go_wp2
          go_region
          go_wp2
          go_end0
          exact ⟨rfl, HM.out 2 _ rfl 2⟩
      · rw [if_neg (by omega)]
        have c5 : (kind == 3) = false := by simp; omega
        go_enter Tryz.func149, Tryz.ntmps149
        go_upto_region 1 with fail
        rw [HW.out]
        go_wp2
        go_region
        go_wp2
        go_region
        go_wp2
        go_end0
        exact ⟨rfl, HN.out _ rfl 2⟩
    · have dB : decide (hi ≤ (g.s.size : Int)) = false := decide_eq_false cB
      rw [if_neg (by omega)]
      by_cases c3 : kind = 3
      · subst c3
        go_enter Tryz.func149, Tryz.ntmps149
        go_upto_region 1 with fail
        rw [HW.out]
        go_wp2
        go_region
        go_wp2
        go_region
        go_wp2
        go_end0
        exact ⟨rfl, HN.out _ rfl 2⟩
      · have c5 : (kind == 3) = false := by simp; omega
        go_enter Tryz.func149, Tryz.ntmps149
        go_upto_region 1 with fail
        rw [HW.out]
        go_wp2
        go_region
        go_wp2
        go_region
        go_wp2
        go_end0
        exact ⟨rfl, HN.out _ rfl 2⟩
theorem gRep_ok {g : Gp} (h : g.ok) (a c : Int) (put : ByteArray) : (gRep g a c put).1.ok := by
  obtain ⟨t1, t2, t3⟩ := gRep_tx g a c put
  by_cases c1 : a < 0 ∨ c < 0 ∨ (g.s.size : Int) < a ∨ (g.s.size : Int) - a < c
  · have e1 : gRep g a c put = (g, eBA, 1) := by unfold gRep; exact if_pos c1
    rw [e1]; exact h
  · by_cases c2 : (g.l : Int) < (g.s.size : Int) - c + put.size
    · have e1 : gRep g a c put = (g, eBA, 2) := by unfold gRep; exact (if_neg c1).trans (if_pos c2)
      rw [e1]; exact h
    · have e1 : gRep g a c put = (⟨g.s.extract 0 a.toNat ++ put ++ g.s.extract (a.toNat + c.toNat) g.s.size, a.toNat + put.size, g.l⟩, g.s.extract a.toNat (a.toNat + c.toNat), 0) := by unfold gRep; exact (if_neg c1).trans (if_neg c2)
      rw [e1]
      obtain ⟨h1, h2, h3⟩ := h
      have z1 := size_extract g.s 0 a.toNat (by omega)
      have z2 := size_extract g.s (a.toNat + c.toNat) g.s.size (Nat.le_refl _)
      refine ⟨?_, ?_, h3⟩ <;> (simp only [size_app, z1, z2]; omega)
theorem gReset_ok {g : Gp} (h : g.ok) (s : ByteArray) : (gReset g s).1.ok := by
  by_cases c : s.size ≤ g.l
  · have e : gReset g s = (⟨s, s.size, g.l⟩, 0) := by unfold gReset; exact if_pos c
    rw [e]; exact ⟨Nat.le_refl _, c, h.2.2⟩
  · have e : gReset g s = (g, 2) := by unfold gReset; exact if_neg c
    rw [e]; exact h
/-- the numbers behind an edit, if it worked -/
def Rk.after (k : Rk) (e : Int) (n : Int) (z : Nat) : Rk := if e = 0 then k.edit n z else k
/-- nothing but the document's store is turned -/
abbrev Rt (b p : Nat) : Nat → Prop := fun j => j = b ∨ j = p
theorem rf_buf {w W : World} {b p : Nat} {g g' : Gp} {k : Rk} (h : Rf w b p g k) (h1 : RB W p g') (h2 : w.grownBy W (some p)) (hg : g'.ok) : Rf W b p g' k :=
  ⟨(h2.block b h.lt (fun e => h.ne (Option.some.inj e).symm)).trans h.box, h1, hg⟩
set_option maxRecDepth 100000 in
set_option maxHeartbeats 1000000 in
theorem rrep9_any {w : World} {b p : Nat} {g : Gp} {k : Rk} (h : Rf w b p g k) (hlh : k.lo < k.hi) (a c : Int) (put : ByteArray) (hp : put.size ≤ 140737488355328) (hk : 0 ≤ k.ed ∧ k.ed ≤ 2305843009213693952 ∧ 0 ≤ k.mv ∧ k.mv ≤ 4611686018427387904) :
    Calls Tryz.prog 75 #[.pointer (some ⟨b, 0, none⟩), .int .i64 a, .int .i64 c, .string put] w fun e W' => e = .returned (.tuple #[.string (gRep g a c put).2.1, .int .i64 (gRep g a c put).2.2]) ∧ Rf W' b p (gRep g a c put).1 (k.after (gRep g a c put).2.2 (c + put.size) (gRep g a c put).1.s.size) ∧ Tn (Rt b p) w W' := by
  obtain ⟨⟨c0, c1, c2, c3, c4, c5, c6, c7⟩, hlt⟩ := rcells h.box
  obtain ⟨G, hG⟩ : ∃ G, (gRep g a c put).1 = G := ⟨_, rfl⟩
  obtain ⟨O, hO⟩ : ∃ O, (gRep g a c put).2.1 = O := ⟨_, rfl⟩
  obtain ⟨E, hE⟩ : ∃ E, (gRep g a c put).2.2 = E := ⟨_, rfl⟩
  have hz : E = 0 → 0 ≤ c + (put.size : Int) ∧ c + (put.size : Int) ≤ 2305843009213693952 := fun e => by
    have t3 := (gRep_tx g a c put).2.2
    have := txR_zero (s := g.s) (l := g.l) (a := a) (c := c) (put := put) (by rw [← t3, hE, e])
    obtain ⟨_, o2, o3⟩ := h.ok
    omega
  have C1 : Hid (Calls Tryz.prog 148 #[.pointer (some ⟨p, 0, none⟩), .int .i64 a, .int .i64 c, .string put] w fun e W' => e = .returned (.tuple #[.string O, .int .i64 E]) ∧ Hid (Rf W' b p G k ∧ w.grownBy W' (some p))) := by
    have := Gap.rrep_any h.ok a c put hp w h.buf
    rw [hG, hO, hE] at this
    exact this.mono fun e W' ⟨q1, q2, q3⟩ => ⟨q1, rf_buf h q2 q3 (by rw [← hG]; exact gRep_ok h.ok a c put), q3⟩
  rw [hG, hO, hE]
  obtain ⟨D, hD⟩ : ∃ D : Int, c + (put.size : Int) = D := ⟨_, rfl⟩
  rw [hD] at hz ⊢
  have C2 : Hid (E = 0 → ∀ W, Hid (Rf W b p G k ∧ w.grownBy W (some p)) → Calls Tryz.prog 149 #[.pointer (some ⟨b, 0, none⟩), .int .i64 D] W fun e W' => e = .returned (.tuple #[]) ∧ Hid (Rf W' b p G (k.edit D G.s.size) ∧ Tn (Rt b p) w W')) := fun e W hW =>
    (redit_any hW.out.1 hlh D (by have := hz e; omega) (by have := hz e; omega)).mono fun e W' ⟨q1, q2, q3⟩ => ⟨q1, q2, (Tn.of_grown hW.out.2 (.inr rfl)).trans (.of_grown q3 (.inl (.inl rfl)))⟩
  have hD2 : put.size ≤ 140737488355328 := hp
  unfold Rk.after
  by_cases e0 : E = 0
  · subst e0
    rw [if_pos rfl]
    have C3 : Hid (∀ W, Hid (Rf W b p G k ∧ w.grownBy W (some p)) → Calls Tryz.prog 149 #[.pointer (some ⟨b, 0, none⟩), .int .i64 D] W fun e W' => e = .returned (.tuple #[]) ∧ Hid (Rf W' b p G (k.edit D G.s.size) ∧ Tn (Rt b p) w W')) := C2.out rfl
    have hz3 := hz rfl
    have hc3 : -9223372036854775808 ≤ c ∧ c ≤ 9223372036854775807 := by omega
    clear h hlh hk hG hO hE hz C2
    go_enter Tryz.func75, Tryz.ntmps75
    go_wp2_with (first | (go_at_call 148; refine C1.out.mono ?_; clear C1; rintro e w1 ⟨rfl, HB⟩) | (go_at_call 149; refine (C3.out _ HB).mono ?_; clear C3 HB; rintro e w2 ⟨rfl, HB⟩))
    exact bodyPost_ret (v := .tuple #[.string O, .int .i64 0]) (by simp [results, Tryz.results75, go_sem]) rfl ⟨rfl, HB.out⟩
  · rw [if_neg e0]
    have e1 : (E == 0) = false := by simp [e0]
    have HT : Hid (∀ W, w.grownBy W (some p) → Tn (Rt b p) w W) := fun W hW => .of_grown hW (.inr rfl)
    clear h hlh hk hG hO hE hz C2 hD
    go_enter Tryz.func75, Tryz.ntmps75
    go_wp2_with (first | (go_at_call 148; refine C1.out.mono ?_; clear C1; rintro e w1 ⟨rfl, HB⟩))
    exact bodyPost_ret (v := .tuple #[.string O, .int .i64 E]) (by simp [results, Tryz.results75, go_sem]) rfl ⟨rfl, HB.out.1, HT.out _ HB.out.2⟩
end Go.Proofs.YtffipfmnpffdaaaGreatDoor.Sto
namespace Go.Proofs.YtffipfmnpffdaaaGreatDoor.Sto
open Go.RowKit Go.Shelf Bod Wid
open Gap (Gp gNew PB lim)

def nwK (kind lo hi : Int) (l : Nat) : Sk := ⟨kind, lo, hi, l, 0, 0, 0⟩
theorem Kp.new.mono {m n : Nat} {K : Kp} (h : K.new n) (hm : m ≤ n) : K.new m := by
  cases K with
  | gap o g _ =>
    obtain ⟨b, r, h1, h2, h3⟩ := h
    exact ⟨b, r, h1, by omega, fun k e => by have := h3 k e; omega⟩
  | rope b _ _ _ => exact Nat.le_trans hm h
set_option maxRecDepth 100000 in
theorem snew_no (w : World) (kind lo hi limit : Int) (s : ByteArray) (h : ¬ s.size ≤ lim limit) : Calls Tryz.prog 65 #[.int .i64 kind, .int .i64 lo, .int .i64 hi, .int .i64 limit, .string s] w fun e W' => e = .returned (.tuple #[.pointer none, .int .i64 2]) ∧ Below w.heap.size w W' := by
  have C1 : Hid (Calls Tryz.prog 105 #[.string s, .int .i64 limit] w fun e W' => e = .returned (.tuple #[.pointer none, .int .i64 2]) ∧ Hid (Below w.heap.size w W')) := by
    have := Gap.new_any s limit w
    have e : gNew s limit = none := by unfold gNew; rw [if_neg h]
    rw [e] at this
    exact this
  clear h
  go_enter Tryz.func65, Tryz.ntmps65
  go_wp2_with (go_at_call 105; refine C1.out.mono ?_; clear C1; rintro e w1 ⟨rfl, HB⟩)
  exact bodyPost_ret (v := .tuple #[.pointer none, .int .i64 2]) (by simp [results, Tryz.results65, go_sem]) rfl ⟨rfl, HB.out⟩
/-- what New leaves -/
def Fresh (w : World) (s : ByteArray) (k : Sk) (bk : Int) (b : Nat) (W : World) : Prop := ∃ y K, Pst W b (some y) k K ∧ y.bk = bk ∧ K.text = s ∧ K.lim = k.limit ∧ Below w.heap.size w W ∧ K.new w.heap.size ∧ w.heap.size ≤ b
set_option maxRecDepth 100000 in
set_option maxHeartbeats 2000000 in
theorem snew_ok (w : World) (kind lo hi limit : Int) (s : ByteArray) (h : s.size ≤ lim limit) (hk : (nwK kind lo hi (lim limit)).fit) (hE : Ev w) : Calls Tryz.prog 65 #[.int .i64 kind, .int .i64 lo, .int .i64 hi, .int .i64 limit, .string s] w fun e W' => ∃ b, e = .returned (.tuple #[.pointer (some ⟨b, 0, none⟩), .int .i64 0]) ∧ Fresh w s (nwK kind lo hi (lim limit)) (if kind = 2 ∨ misK none (nwK kind lo hi (lim limit)) s.size then 2 else 1) b W' := by
  have hl2 := Gap.lim_le limit
  obtain ⟨l, hl⟩ : ∃ l, lim limit = l := ⟨_, rfl⟩
  have hg : gNew s limit = some ⟨s, s.size, l⟩ := by unfold gNew; rw [if_pos h, hl]
  rw [hl] at h hk hl2 ⊢
  obtain ⟨p, hp⟩ : ∃ p : Value, p = .pointer (some ⟨w.heap.size, 0, none⟩) := ⟨_, rfl⟩
  have C1 : Hid (Calls Tryz.prog 105 #[.string s, .int .i64 limit] w fun e W' => e = .returned (.tuple #[.pointer (some ⟨w.heap.size, 0, none⟩), .int .i64 0]) ∧ Hid (∃ r n, PB W' w.heap.size r ⟨s, s.size, l⟩ n ∧ Below w.heap.size w W' ∧ ∀ k, r = some k → w.heap.size ≤ k)) := by
    have := Gap.new_any s limit w
    rw [hg] at this
    exact this.mono fun e W' ⟨h1, r, n, h2, h3, h4⟩ => ⟨h1, r, n, h2, h3, fun k e => Nat.le_of_lt (h4 k e)⟩
  have C2 : Hid (∀ W, Hid (∃ r n, PB W w.heap.size r ⟨s, s.size, l⟩ n ∧ Below w.heap.size w W ∧ ∀ k, r = some k → w.heap.size ≤ k) → Calls Tryz.prog 143 #[.pointer (some ⟨w.heap.size, 0, none⟩)] W fun e W' => e = .returned (.int .i64 l) ∧ Hid (∃ r n, PB W' w.heap.size r ⟨s, s.size, l⟩ n ∧ Below w.heap.size w W' ∧ ∀ k, r = some k → w.heap.size ≤ k)) := fun W hW => by
    obtain ⟨r, n, h1, h2, h3⟩ := hW.out
    exact (Gap.limit_is (v := .pointer (some ⟨w.heap.size, 0, none⟩)) (o := some (w.heap.size, r)) ⟨rfl, h1⟩).mono fun e W' ⟨k1, k2⟩ => ⟨k1, r, n, h1.below k2, Below.on h2 k2, h3⟩
  have C5 : Hid (∀ W, Hid (∃ r n, PB W w.heap.size r ⟨s, s.size, l⟩ n ∧ Below w.heap.size w W ∧ ∀ k, r = some k → w.heap.size ≤ k) → Fresh w s (nwK kind lo hi l) 1 W.heap.size (W.alloc (.cells #[.iface 143 (.pointer (some ⟨w.heap.size, 0, none⟩)), .int .i64 kind, .int .i64 lo, .int .i64 hi, .int .i64 l, .int .i64 0, .int .i64 0, .int .i64 0] 50))) := fun W hW => by
    obtain ⟨r, n, h1, h2, h3⟩ := hW.out
    have hb := (Below.refl _ W).alloc (Nat.le_refl _) (.cells #[.iface 143 (.pointer (some ⟨w.heap.size, 0, none⟩)), .int .i64 kind, .int .i64 lo, .int .i64 hi, .int .i64 l, .int .i64 0, .int .i64 0, .int .i64 0] 50)
    exact ⟨.gap (.pointer (some ⟨w.heap.size, 0, none⟩)), .gap (some (w.heap.size, r)) ⟨s, s.size, l⟩ n, ⟨World.alloc_heap_new W _, ⟨rfl, h1.below hb⟩, rfl⟩, rfl, rfl, rfl, Below.on h2 hb, ⟨w.heap.size, r, rfl, Nat.le_refl _, h3⟩, h2.size⟩
  obtain ⟨M, hM⟩ : ∃ M, misK none (nwK kind lo hi l) s.size = M := ⟨_, rfl⟩
  have C3 : Hid (∀ W b, Fresh w s (nwK kind lo hi l) 1 b W → Calls Tryz.prog 144 #[.pointer (some ⟨b, 0, none⟩)] W fun e W' => e = .returned (.bool M) ∧ Hid (Fresh w s (nwK kind lo hi l) 1 b W')) := fun W b ⟨y, K, h1, h2, h3, h4, h5, h6, h7⟩ => by
    refine (mis_any h1.spt h1.hold hk).mono ?_
    rintro e W' ⟨rfl, hb⟩
    refine ⟨?_, y, K, h1.below hb, h2, h3, h4, Below.on h5 hb, h6, h7⟩
    rw [h3, ← hM]
    unfold misK
    rw [show (Tx.or (some y)).bk = 1 from h2]
    rfl
  have C4 : Hid (∀ W b, Fresh w s (nwK kind lo hi l) 1 b W → Calls Tryz.prog 102 #[.pointer (some ⟨b, 0, none⟩)] W fun e W' => e = .returned (.tuple #[]) ∧ Hid (Fresh w s (nwK kind lo hi l) 2 b W')) := fun W b ⟨y, K, h1, h2, h3, h4, h5, h6, h7⟩ => by
    refine (move_any h1.box h1.hold h1.lim (hE.below h5)).mono ?_
    rintro e W' ⟨rfl, y', K', k2, k3, k4, k5, k6, k7, k8⟩
    refine ⟨rfl, y', K', ⟨k2, k3, by rw [k6]; exact h1.lim⟩, ?_, k5.trans h3, by rw [k6]; exact h4, h5.grown k7 h5.size (fun j e => by cases e; exact h7), k8.mono h5.size, h7⟩
    rw [k4, show (Tx.or (some y)).bk = 1 from h2]
    rfl
  rw [hM]
  clear hg hk hE h hl hM hp p
  by_cases c1 : kind = 2
  · subst c1
    rw [if_pos (.inl rfl)]
    clear C3
    have C6 : Hid (∀ W, Hid (∃ r n, PB W w.heap.size r ⟨s, s.size, l⟩ n ∧ Below w.heap.size w W ∧ ∀ k, r = some k → w.heap.size ≤ k) → Calls Tryz.prog 102 #[.pointer (some ⟨W.heap.size, 0, none⟩)] (W.alloc (.cells #[.iface 143 (.pointer (some ⟨w.heap.size, 0, none⟩)), .int .i64 2, .int .i64 lo, .int .i64 hi, .int .i64 l, .int .i64 0, .int .i64 0, .int .i64 0] 50)) fun e W' => e = .returned (.tuple #[]) ∧ Hid (Fresh w s (nwK 2 lo hi l) 2 W.heap.size W')) := fun W hW => C4.out _ _ (C5.out W hW)
    clear C4 C5
    go_enter Tryz.func65, Tryz.ntmps65
    go_wp2_with (first | (go_at_call 105; refine C1.out.mono ?_; clear C1; rintro e w1 ⟨rfl, HB⟩) | (go_at_call 143; refine (C2.out _ HB).mono ?_; clear C2 HB; rintro e w2 ⟨rfl, HB⟩) | (go_at_call 102; refine (C6.out _ HB).mono ?_; clear C6 HB; rintro e w3 ⟨rfl, HB⟩))
    exact bodyPost_ret (v := .tuple #[.pointer (some ⟨w2.heap.size, 0, none⟩), .int .i64 0]) (by simp [results, Tryz.results65, go_sem]) rfl ⟨_, rfl, HB.out⟩
  · have C6 : Hid (∀ W, Hid (∃ r n, PB W w.heap.size r ⟨s, s.size, l⟩ n ∧ Below w.heap.size w W ∧ ∀ k, r = some k → w.heap.size ≤ k) → Calls Tryz.prog 144 #[.pointer (some ⟨W.heap.size, 0, none⟩)] (W.alloc (.cells #[.iface 143 (.pointer (some ⟨w.heap.size, 0, none⟩)), .int .i64 kind, .int .i64 lo, .int .i64 hi, .int .i64 l, .int .i64 0, .int .i64 0, .int .i64 0] 50)) fun e W' => e = .returned (.bool M) ∧ Hid (Fresh w s (nwK kind lo hi l) 1 W.heap.size W')) := fun W hW => C3.out _ _ (C5.out W hW)
    have e1 : (kind == 2) = false := by simp [c1]
    have e2 : decide (kind = 2) = false := by simp [c1]
    clear C3 C5
    cases M with
    | false =>
      rw [if_neg (by simp [c1])]
      clear C4
      go_enter Tryz.func65, Tryz.ntmps65
      go_wp2_with (first | (go_at_call 105; refine C1.out.mono ?_; clear C1; rintro e w1 ⟨rfl, HB⟩) | (go_at_call 143; refine (C2.out _ HB).mono ?_; clear C2 HB; rintro e w2 ⟨rfl, HB⟩) | (go_at_call 144; refine (C6.out _ HB).mono ?_; clear C6 HB; rintro e w3 ⟨rfl, HB⟩))
      exact bodyPost_ret (v := .tuple #[.pointer (some ⟨w2.heap.size, 0, none⟩), .int .i64 0]) (by simp [results, Tryz.results65, go_sem]) rfl ⟨_, rfl, HB.out⟩
    | true =>
      rw [if_pos (.inr rfl)]
      go_enter Tryz.func65, Tryz.ntmps65
      go_wp2_with (first | (go_at_call 105; refine C1.out.mono ?_; clear C1; rintro e w1 ⟨rfl, HB⟩) | (go_at_call 143; refine (C2.out _ HB).mono ?_; clear C2 HB; rintro e w2 ⟨rfl, HB⟩) | (go_at_call 144; refine (C6.out _ HB).mono ?_; clear C6 HB; rintro e w3 ⟨rfl, HB⟩) | (go_at_call 102; refine (C4.out _ _ HB.out).mono ?_; clear C4 HB; rintro e w4 ⟨rfl, HB⟩))
      exact bodyPost_ret (v := .tuple #[.pointer (some ⟨w2.heap.size, 0, none⟩), .int .i64 0]) (by simp [results, Tryz.results65, go_sem]) rfl ⟨_, rfl, HB.out⟩
end Go.Proofs.YtffipfmnpffdaaaGreatDoor.Sto
namespace Go.Proofs.YtffipfmnpffdaaaGreatDoor.Sto
open Go.RowKit Go.Shelf Bod Wid
open Gap (Gp eBA)

theorem at_keep {W W' : World} (B : Nat → Prop) (ht : ∀ j, j < W.heap.size → ¬ B j → W'.heap[j]? = W.heap[j]?) (h2 : ∀ j cur T fz, B j → W.heap[j]? = some (.cells cur T fz) → T ≠ 214 ∧ T ≠ 177) : ∀ {t : Tr} {x : Value}, At W t x → At W' t x
  | .leaf _, _, ⟨c, e1, e2⟩ => ⟨c, e1, (ht c (Array.getElem?_eq_some_iff.1 e2).1 fun e => (h2 c _ _ _ e e2).1 rfl).trans e2⟩
  | .knot _ _, _, ⟨c, x, y, e1, e2, e3, e4⟩ => ⟨c, x, y, e1, (ht c (Array.getElem?_eq_some_iff.1 e2).1 fun e => (h2 c _ _ _ e e2).2 rfl).trans e2, at_keep B ht h2 e3, at_keep B ht h2 e4⟩
/-- the text stays while blocks that are none of its own, and no rope's, are turned -/
theorem Hold.keep {W W' : World} {x : Tx} {K : Kp} {B : Nat → Prop} (h : Hold W x K) (ht : Tn B W W') (h1 : ∀ j, K.blk j → ¬ B j) (h2 : ∀ j cur T fz, B j → W.heap[j]? = some (.cells cur T fz) → T ≠ 214 ∧ T ≠ 177 ∧ T ≠ 102) : Hold W' x K := by
  cases x <;> cases K <;> first | exact h.elim | skip
  · rename_i v o g n
    cases o with
    | none => exact h
    | some p =>
      obtain ⟨c, r⟩ := p
      obtain ⟨e1, e2⟩ := h
      obtain ⟨A, e, hp, hq⟩ := e2.ex
      exact ⟨e1, ⟨A, e, ⟨(ht.block c hp.lt (h1 c ⟨c, r, rfl, .inl rfl⟩)).trans hp.box, fun k hk => ⟨(hp.row k hk).1, (ht.block k (hp.rlt hk) (h1 k ⟨c, r, rfl, .inr hk⟩)).trans (hp.row k hk).2⟩, hp.nil⟩, hq⟩, e2.cap, e2.lm, e2.ok⟩
  · rename_i v b u t l
    obtain ⟨e1, ⟨e2, e3⟩, e4⟩ := h
    refine ⟨e1, ⟨(ht.block _ (Array.getElem?_eq_some_iff.1 e2).1 (h1 b rfl)).trans e2, ?_⟩, e4⟩
    rcases e3 with e3 | ⟨c, x, q1, q2, q3⟩
    · exact .inl e3
    · exact .inr ⟨c, x, q1, (ht.block c (Array.getElem?_eq_some_iff.1 q2).1 (fun e => (h2 c _ _ _ e q2).2.2 rfl)).trans q2, q3.imp id (at_keep B (fun j hj hn => ht.block j hj hn) (fun j cur T fz hB hj => ⟨(h2 j cur T fz hB hj).1, (h2 j cur T fz hB hj).2.1⟩))⟩
theorem Hold.blk_ty {W : World} {x : Tx} {K : Kp} {j : Nat} (h : Hold W x K) (hj : K.blk j) : ∃ cur T, W.heap[j]? = some (.cells cur T (0, 0)) ∧ (T = 192 ∨ T = 5 ∨ T = 190) := by
  cases x <;> cases K <;> first | exact h.elim | skip
  · rename_i v o g n
    obtain ⟨b, r, rfl, e⟩ := hj
    obtain ⟨A, _, hp, _⟩ := h.2.ex
    rcases e with rfl | e
    · exact ⟨_, _, hp.box, .inl rfl⟩
    · exact ⟨_, _, (hp.row j e).2, .inr (.inl rfl)⟩
  · have e : j = _ := hj
    subst e
    exact ⟨_, _, h.2.1.box, .inr (.inr rfl)⟩
/-- only blocks of a store's kinds are turned -/
structure Fty (W W' : World) : Prop where
  size : W.heap.size ≤ W'.heap.size
  keep : ∀ (j : Nat) (cur : Array Value) (T : TypeId) (fz : Nat × Nat), W.heap[j]? = some (.cells cur T fz) → T ≠ 50 → T ≠ 192 → T ≠ 5 → T ≠ 190 → W'.heap[j]? = some (.cells cur T fz)
theorem Fty.below {W W' : World} (h : Below W.heap.size W W') : Fty W W' := ⟨h.size, fun j _ _ _ hj _ _ _ _ => (h.block j (Array.getElem?_eq_some_iff.1 hj).1).trans hj⟩
theorem Fty.trans {W X Y : World} (h : Fty W X) (g : Fty X Y) : Fty W Y := ⟨Nat.le_trans h.size g.size, fun j cur T fz hj a b c d => g.keep j cur T fz (h.keep j cur T fz hj a b c d) a b c d⟩
theorem fty_of {W W' : World} {b : Nat} {x : Option Tx} {k : Sk} {K : Kp} (h : Pst W b x k K) (ht : Tn (fun j => j = b ∨ K.blk j) W W') : Fty W W' :=
  ⟨ht.size, fun j cur T fz hj a b' c d => (ht.block j (Array.getElem?_eq_some_iff.1 hj).1 (fun e => by
    rcases e with rfl | e
    · rw [h.box] at hj; injection hj with hj; injection hj with _ e _; exact a e.symm
    · obtain ⟨cur', T', e1, e2⟩ := h.hold.blk_ty e
      rw [e1] at hj; injection hj with hj; injection hj with _ e _
      rcases e2 with e2 | e2 | e2
      · exact b' (e.symm.trans e2)
      · exact c (e.symm.trans e2)
      · exact d (e.symm.trans e2))).trans hj⟩
/-- a store of the call's own: its text, its backend, its numbers -/
structure Sw (w : World) (b : Nat) (s : ByteArray) (bk : Int) (k : Sk) (x : Option Tx) (K : Kp) (W : World) : Prop where
  st : Pst W b x k K
  bk : (Tx.or x).bk = bk
  text : K.text = s
  bel : Below w.heap.size w W
  lo : ∀ j, K.blk j → w.heap.size ≤ j
  b0 : w.heap.size ≤ b
/-- .. whatever keeps it -/
def Se (w : World) (b : Nat) (s : ByteArray) (bk : Int) (k : Sk) (W : World) : Prop := ∃ x K, Sw w b s bk k x K W
theorem Sw.below {w W W' : World} {b : Nat} {s : ByteArray} {bk : Int} {k : Sk} {x : Option Tx} {K : Kp} (h : Sw w b s bk k x K W) (hb : Below W.heap.size W W') : Sw w b s bk k x K W' := ⟨h.st.below hb, h.bk, h.text, Below.on h.bel hb, h.lo, h.b0⟩
theorem Se.below {w W W' : World} {b : Nat} {s : ByteArray} {bk : Int} {k : Sk} (h : Se w b s bk k W) (hb : Below W.heap.size W W') : Se w b s bk k W' := by obtain ⟨x, K, h⟩ := h; exact ⟨x, K, h.below hb⟩
theorem Se.bel {w W : World} {b : Nat} {s : ByteArray} {bk : Int} {k : Sk} (h : Se w b s bk k W) : Below w.heap.size w W := by obtain ⟨x, K, h⟩ := h; exact h.bel
theorem new_blk {n : Nat} {K : Kp} (h : K.new n) {j : Nat} (hj : K.blk j) : n ≤ j := by
  cases K with
  | gap o g m =>
    obtain ⟨b, r, e1, e2, e3⟩ := h
    obtain ⟨b', r', e4, e5⟩ := hj
    rw [e1] at e4
    cases e4
    rcases e5 with rfl | e5
    · exact e2
    · exact e3 j e5
  | rope b _ _ _ => have e : j = b := hj; rw [e]; exact h
theorem Fresh.se {w W : World} {s : ByteArray} {k : Sk} {bk : Int} {b : Nat} (h : Fresh w s k bk b W) : Se w b s bk k W := by
  obtain ⟨y, K, h1, h2, h3, h4, h5, h6, h7⟩ := h
  exact ⟨some y, K, h1, h2, h3, h5, fun j hj => new_blk h6 hj, h7⟩
def misM (bk : Int) (k : Sk) (n : Nat) : Bool := decide (kdK k = 3) && (if bk = 1 then decide (hiK k ≤ (n : Int)) else decide ((n : Int) ≤ loK k))
/-- backend and numbers behind an edit of n bytes that leaves a text of z -/
def smN (bk : Int) (k : Sk) (n : Int) (z : Nat) : Int × Sk := if misM bk (k.edit n) z then (3 - bk, (k.edit n).went) else (bk, k.edit n)
/-- .. if it worked -/
def smA (bk : Int) (k : Sk) (e n : Int) (z : Nat) : Int × Sk := if e = 0 then smN bk k n z else (bk, k)
/-- the numbers are small enough -/
def Sk.few (k : Sk) : Prop := 0 ≤ k.ed ∧ k.ed ≤ 4611686018427387904 ∧ 0 ≤ k.mv ∧ k.mv ≤ 4611686018427387904 ∧ 0 ≤ k.fo ∧ k.fo ≤ 4611686018427387904
theorem Sw.ev {w W : World} {b : Nat} {s : ByteArray} {bk : Int} {k : Sk} {x : Option Tx} {K : Kp} (h : Sw w b s bk k x K W) (hE : Ev w) : Ev W := hE.below h.bel
theorem tn_bel {w W W' : World} {B : Nat → Prop} (h : Below w.heap.size w W) (ht : Tn B W W') (hB : ∀ j, B j → w.heap.size ≤ j) : Below w.heap.size w W' :=
  ⟨ht.os.trans h.os, ht.tape.trans h.tape, ht.out.trans h.output, Nat.le_trans h.size ht.size, fun k hk => (ht.block k (Nat.lt_of_lt_of_le hk h.size) (fun e => by have := hB k e; omega)).trans (h.block k hk)⟩
theorem txR_err {s : ByteArray} {l : Nat} {a c : Int} {put : ByteArray} (h : (txR s l a c put).2.2 ≠ 0) : (txR s l a c put).1 = s := by
  unfold txR at h ⊢
  by_cases c1 : a < 0 ∨ c < 0 ∨ (s.size : Int) < a ∨ (s.size : Int) - a < c
  · rw [if_pos c1]
  · rw [if_neg c1] at h ⊢
    by_cases c2 : (l : Int) < (s.size : Int) - c + put.size
    · rw [if_pos c2]
    · rw [if_neg c2] at h; exact absurd rfl h
theorem se_rep {w W : World} {b : Nat} {s : ByteArray} {bk : Int} {k : Sk} (h : Se w b s bk k W) (hE : Ev w) (hk : k.fit) (hn : k.few) (a c : Int) (put : ByteArray) (ha : -9223372036854775808 ≤ a ∧ a ≤ 9223372036854775807) (hc : c ≤ 9223372036854775807) (hp : put.size ≤ 9223372036854775807) (T : ByteArray × ByteArray × Int) (hT : txR s k.limit.toNat a c put = T) (N : Int × Sk) (hN : smA bk k T.2.2 (c + put.size) T.1.size = N) :
    Calls Tryz.prog 74 #[.pointer (some ⟨b, 0, none⟩), .int .i64 a, .int .i64 c, .string put] W fun e W' => ∃ o r, e = .returned (.tuple #[.string o, .int .i64 r]) ∧ (o = T.2.1 ∧ r = T.2.2) ∧ Se w b T.1 N.1 N.2 W' ∧ Fty W W' := by
  obtain ⟨x, K, h⟩ := h
  have hl : K.lim = k.limit.toNat := by have := h.st.lim; omega
  have hB : ∀ j, j = b ∨ K.blk j → w.heap.size ≤ j := fun j e => e.elim (fun e => by rw [e]; exact h.b0) (h.lo j)
  have hB2 : ∀ j, j = b ∨ K.blk j → j ≠ 1 ∧ j ≠ 2 := fun j e => by have := hB j e; have := hE.l0; have := hE.l1; omega
  rw [← hT] at hN ⊢
  by_cases e0 : (txR s k.limit.toNat a c put).2.2 = 0
  · have hq : (txR K.text K.lim a c put).2.2 = 0 := by rw [h.text, hl]; exact e0
    refine (srep_ok h.st (h.ev hE) hB2 hk ⟨hn.1, hn.2.1, hn.2.2.1, hn.2.2.2.1⟩ a c put ha hc hp hq).mono ?_
    rintro e W' ⟨rfl, hr⟩
    rw [h.text, hl] at hr ⊢
    refine ⟨_, _, rfl, ⟨rfl, e0.symm⟩, ?_⟩
    have hN2 : smN bk k (c + put.size) (txR s k.limit.toNat a c put).1.size = N := by rw [← hN]; unfold smA; rw [if_pos e0]
    have hm : misK x (k.edit (c + put.size)) (txR s k.limit.toNat a c put).1.size = misM bk (k.edit (c + put.size)) (txR s k.limit.toNat a c put).1.size := by unfold misK misM; rw [h.bk]
    rw [hm] at hr
    unfold smN at hN2
    cases hc : misM bk (k.edit (c + put.size)) (txR s k.limit.toNat a c put).1.size with
    | true =>
      rw [hc, if_pos rfl] at hr hN2
      obtain ⟨y, K', e1, A⟩ := hr
      rw [← hN2]
      exact ⟨⟨some y, K', A.st, by rw [← h.bk]; exact e1, A.text, tn_bel h.bel A.tn hB, fun j hj => (A.new j hj).elim (h.lo j) (fun e => Nat.le_trans h.bel.size e), h.b0⟩, fty_of h.st A.tn⟩
    | false =>
      rw [hc, if_neg (by simp)] at hr hN2
      obtain ⟨K', A⟩ := hr
      rw [← hN2]
      exact ⟨⟨x, K', A.st, h.bk, A.text, tn_bel h.bel A.tn hB, fun j hj => (A.new j hj).elim (h.lo j) (fun e => Nat.le_trans h.bel.size e), h.b0⟩, fty_of h.st A.tn⟩
  · have hq : (txR K.text K.lim a c put).2.2 ≠ 0 := by rw [h.text, hl]; exact e0
    refine (srep_no h.st (h.ev hE) a c put ha hc hp hq).mono ?_
    rintro e W' ⟨rfl, K', q1, q2, q3, q4, q5⟩
    rw [h.text, hl] at q2 ⊢
    have hN2 : (bk, k) = N := by rw [← hN]; unfold smA; rw [if_neg e0]
    rw [← hN2]
    have A : Tn (fun j => j = b ∨ K.blk j) W W' := q4.mono (fun j e => .inr e)
    exact ⟨_, _, rfl, ⟨rfl, rfl⟩, ⟨x, K', q1, h.bk, q2, tn_bel h.bel A hB, fun j hj => (q5 j hj).elim (h.lo j) (fun e => Nat.le_trans h.bel.size e), h.b0⟩, fty_of h.st A⟩
/-- Switch: the error, the backend, the numbers -/
def smS (bk : Int) (k : Sk) (to : Int) : Int × Int × Sk := if to = 1 ∨ to = 2 then (if to = bk then (0, bk, k) else (0, to, k.forced)) else (13, bk, k)
theorem se_sw {w W : World} {b : Nat} {s : ByteArray} {bk : Int} {k : Sk} (h : Se w b s bk k W) (hE : Ev w) (hn : k.few) (to : Int) (N : Int × Int × Sk) (hN : smS bk k to = N) :
    Calls Tryz.prog 25 #[.pointer (some ⟨b, 0, none⟩), .int .i64 to] W fun e W' => e = .returned (.int .i64 N.1) ∧ Se w b s N.2.1 N.2.2 W' ∧ Fty W W' := by
  obtain ⟨x, K, h⟩ := h
  rw [← hN]
  unfold smS
  by_cases c1 : to = 1 ∨ to = 2
  · rw [if_pos c1]
    by_cases c2 : to = bk
    · rw [if_pos c2]
      have := sw_same h.st
      rw [h.bk, ← c2] at this
      refine this.mono ?_
      rintro e W' ⟨rfl, rfl⟩
      exact ⟨rfl, ⟨x, K, h⟩, Fty.below (Below.refl _ _)⟩
    · rw [if_neg c2]
      have hb : bk = 1 ∨ bk = 2 := by rw [← h.bk]; cases Tx.or x <;> simp [Tx.bk]
      have ht : to = 3 - bk := by omega
      have := sw_other h.st (h.ev hE) ⟨hn.2.2.2.2.1, hn.2.2.2.2.2⟩
      rw [h.bk, ← ht] at this
      refine this.mono ?_
      rintro e W' ⟨rfl, y, K', q1, q2, q3, q4, q5, q6⟩
      have A : Tn (fun j => j = b ∨ K.blk j) W W' := .of_grown q5 (.inl rfl)
      have hB : ∀ j, j = b ∨ K.blk j → w.heap.size ≤ j := fun j e => e.elim (fun e => by rw [e]; exact h.b0) (h.lo j)
      exact ⟨rfl, ⟨some y, K', q1, by rw [ht, ← h.bk]; exact q2, q3.trans h.text, tn_bel h.bel A hB, fun j hj => Nat.le_trans h.bel.size (new_blk q6 hj), h.b0⟩, fty_of h.st A⟩
  · rw [if_neg c1]
    refine (sw_bad W b to (fun e => c1 (.inl e)) (fun e => c1 (.inr e))).mono ?_
    rintro e W' ⟨rfl, rfl⟩
    exact ⟨rfl, ⟨x, K, h⟩, Fty.below (Below.refl _ _)⟩
end Go.Proofs.YtffipfmnpffdaaaGreatDoor.Sto
namespace Go.Proofs.YtffipfmnpffdaaaGreatDoor.Sto
open Go.RowKit Go.Shelf Bod Wid

set_option maxRecDepth 100000 in
theorem sins_of {w : World} {v : Value} {a : Int} {put : ByteArray} {R : ByteArray → Int → World → Prop} (C : Calls Tryz.prog 74 #[v, .int .i64 a, .int .i64 0, .string put] w fun e W' => ∃ o r, e = .returned (.tuple #[.string o, .int .i64 r]) ∧ R o r W') :
    Calls Tryz.prog 67 #[v, .int .i64 a, .string put] w fun e W' => ∃ o r, e = .returned (.int .i64 r) ∧ R o r W' := by
  have C1 : Hid (Calls Tryz.prog 74 #[v, .int .i64 a, .int .i64 0, .string put] w fun e W' => ∃ o r, e = .returned (.tuple #[.string o, .int .i64 r]) ∧ Hid (R o r W')) := C
  clear C
  go_enter Tryz.func67, Tryz.ntmps67
  go_wp2_with (go_at_call 74; refine C1.out.mono ?_; clear C1; rintro e w1 ⟨o, r, rfl, HB⟩)
  go_ret
  exact ⟨o, r, rfl, HB.out⟩
set_option maxRecDepth 100000 in
theorem sdel_of {w : World} {v : Value} {a n : Int} {R : ByteArray → Int → World → Prop} (C : Calls Tryz.prog 74 #[v, .int .i64 a, .int .i64 n, .string ⟨#[]⟩] w fun e W' => ∃ o r, e = .returned (.tuple #[.string o, .int .i64 r]) ∧ R o r W') :
    Calls Tryz.prog 70 #[v, .int .i64 a, .int .i64 n] w fun e W' => ∃ o r, e = .returned (.tuple #[.string o, .int .i64 r]) ∧ R o r W' := by
  have C1 : Hid (Calls Tryz.prog 74 #[v, .int .i64 a, .int .i64 n, .string ⟨#[]⟩] w fun e W' => ∃ o r, e = .returned (.tuple #[.string o, .int .i64 r]) ∧ Hid (R o r W')) := C
  clear C
  go_enter Tryz.func70, Tryz.ntmps70
  go_wp2_with (go_at_call 74; refine C1.out.mono ?_; clear C1; rintro e w1 ⟨o, r, rfl, HB⟩)
  exact bodyPost_ret (v := .tuple #[.string o, .int .i64 r]) (by simp [results, Tryz.results70, go_sem]) rfl ⟨o, r, rfl, HB.out⟩
set_option maxRecDepth 100000 in
theorem sreset_of {w : World} {v : Value} {n : Nat} {put : ByteArray} {R : ByteArray → Int → World → Prop} (CL : Calls Tryz.prog 99 #[v] w fun e W' => e = .returned (.int .i64 n) ∧ Below w.heap.size w W')
    (C : ∀ W, Below w.heap.size w W → Calls Tryz.prog 74 #[v, .int .i64 0, .int .i64 n, .string put] W fun e W' => ∃ o r, e = .returned (.tuple #[.string o, .int .i64 r]) ∧ R o r W') :
    Calls Tryz.prog 76 #[v, .string put] w fun e W' => ∃ o r, e = .returned (.int .i64 r) ∧ R o r W' := by
  have C0 : Hid (Calls Tryz.prog 99 #[v] w fun e W' => e = .returned (.int .i64 n) ∧ Hid (Below w.heap.size w W')) := CL
  have C1 : Hid (∀ W, Hid (Below w.heap.size w W) → Calls Tryz.prog 74 #[v, .int .i64 0, .int .i64 n, .string put] W fun e W' => ∃ o r, e = .returned (.tuple #[.string o, .int .i64 r]) ∧ Hid (R o r W')) := fun W hW => C W hW.out
  clear C CL
  go_enter Tryz.func76, Tryz.ntmps76
  go_wp2_with (first | (go_at_call 99; refine C0.out.mono ?_; clear C0; rintro e w1 ⟨rfl, HL⟩) | (go_at_call 74; refine (C1.out _ HL).mono ?_; clear C1; rintro e w2 ⟨o, r, rfl, HB⟩))
  go_ret
  exact ⟨o, r, rfl, HB.out⟩
end Go.Proofs.YtffipfmnpffdaaaGreatDoor.Sto
namespace Go.Proofs.YtffipfmnpffdaaaGreatDoor.Sto
open Go.RowKit Go.Shelf Bod Wid
open Gap (lim)

theorem func_some (f : Fn) (a b : Array Value) (w : World) : (binOp .neq 181 (.func f a b) .nilFunc).run Tryz.prog w = .ok (.bool true) w := by kernel_rfl
theorem ex_n1 : IsNext ⟨#[97]⟩ 0 1 := ⟨by decide +kernel, .inl (by decide), fun j h1 h2 => by omega⟩
theorem ex_s1 : IsSnap ⟨#[97]⟩ 1 1 := IsSnap.self (by decide +kernel)
set_option maxRecDepth 100000 in
set_option maxHeartbeats 1000000 in
theorem steps_any (w : World) (hT : Lib.Utf8Tabs 1 2 w) :
    Calls Tryz.prog 64 #[] w fun e w' => e = .returned (.bool true) ∧ Below w.heap.size w w' := by
  have cN : Calls Tryz.prog 58 #[.string ⟨#[97]⟩, .int .i64 0] w fun e w' => e = .returned (.int .i64 1) ∧ Below w.heap.size w w' :=
    (cnext_any ⟨#[97]⟩ 0 (by decide +kernel) w hT).mono fun e w' ⟨m, h1, h2, h3⟩ => ⟨by rw [h1, h2.uniq ex_n1]; rfl, h3⟩
  have CS : Hid (∀ W, Below w.heap.size w W → Calls Tryz.prog 15 #[.string ⟨#[97]⟩, .int .i64 1] W fun e w' => e = .returned (.int .i64 1) ∧ Below w.heap.size w w') := fun W hW =>
    (csnap_any ⟨#[97]⟩ 1 (by decide +kernel) W (tabs_below hT hW) (by decide)).mono fun e w' ⟨m, h1, h2, h3⟩ => ⟨by rw [h1, h2.uniq ex_s1]; rfl, hW.trans (h3.mono hW.size)⟩
  have hfn := func_some
  go_enter Tryz.func64, Tryz.ntmps64
  go_wp2_with (first | (go_at_call 58; refine cN.mono ?_; clear cN; rintro e w1 ⟨rfl, hb1⟩; have HB : Hid (Below w.heap.size w w1) := hb1; clear hb1) | (go_at_call 15; refine (CS.out _ HB.out).mono ?_; clear CS HB; rintro e w2 ⟨rfl, hb2⟩; have HB : Hid (Below w.heap.size w w2) := hb2; clear hb2) | (go_at_call 142; refine (walk_any _ _).mono ?_; rintro e w3 ⟨rfl, rfl⟩))
  go_ret
  exact ⟨rfl, HB.out.alloc HB.out.size _⟩
/-- a store's own, seen from further back -/
theorem Se.up {w W X : World} {b : Nat} {s : ByteArray} {bk : Int} {k : Sk} (h : Se W b s bk k X) (hb : Below w.heap.size w W) : Se w b s bk k X := by
  obtain ⟨x, K, h⟩ := h
  exact ⟨x, K, h.st, h.bk, h.text, Below.on hb h.bel, fun j hj => Nat.le_trans hb.size (h.lo j hj), Nat.le_trans hb.size h.b0⟩
section
variable {w W : World} {b : Nat} {s : ByteArray} {bk : Int} {k : Sk}
theorem se_back (h : Se w b s bk k W) : Calls Tryz.prog 66 #[.pointer (some ⟨b, 0, none⟩)] W fun e W' => e = .returned (.int .i64 bk) ∧ W' = W := by
  obtain ⟨x, K, h⟩ := h
  have := Backend_any h.st.spt
  rw [h.bk] at this
  exact this
theorem se_counts (h : Se w b s bk k W) : Calls Tryz.prog 68 #[.pointer (some ⟨b, 0, none⟩)] W fun e W' => e = .returned (.agg #[.int .i64 k.mv, .int .i64 k.fo, .int .i64 k.ed]) ∧ Se w b s bk k W' := by
  obtain ⟨x, K, h⟩ := h
  exact (counts_any h.st.spt).mono fun e W' ⟨q1, q2⟩ => ⟨q1, x, K, h.below q2⟩
theorem se_text (h : Se w b s bk k W) : Calls Tryz.prog 69 #[.pointer (some ⟨b, 0, none⟩)] W fun e W' => e = .returned (.string s) ∧ Se w b s bk k W' := by
  obtain ⟨x, K, h⟩ := h
  exact (stext_any h.st.spt h.st.hold).mono fun e W' ⟨q1, q2⟩ => ⟨by rw [q1, h.text], x, K, h.below q2⟩
theorem se_len (h : Se w b s bk k W) : Calls Tryz.prog 99 #[.pointer (some ⟨b, 0, none⟩)] W fun e W' => e = .returned (.int .i64 s.size) ∧ Below W.heap.size W W' := by
  obtain ⟨x, K, h⟩ := h
  exact (slen_any h.st.spt h.st.hold).mono fun e W' ⟨q1, q2⟩ => ⟨by rw [q1, h.text], q2⟩
end
def fx0 : ByteArray := ⟨#[97, 98, 99, 100, 101, 102]⟩
def fxp : ByteArray := ⟨#[120, 103]⟩
def fx1 : ByteArray := ⟨#[120, 103, 97, 98, 99, 100, 101, 102]⟩
def fxo : ByteArray := ⟨#[120, 103, 97, 98]⟩
def fx2 : ByteArray := ⟨#[99, 100, 101, 102]⟩
def fk0 : Sk := ⟨3, 4, 8, 100, 0, 0, 0⟩
def fk1 : Sk := ⟨3, 4, 8, 100, 1, 0, 2⟩
def fk2 : Sk := ⟨3, 4, 8, 100, 2, 0, 6⟩
def fk3 : Sk := ⟨3, 4, 8, 100, 2, 1, 6⟩
theorem fx_t1 : txR fx0 100 0 0 fxp = (fx1, ⟨#[]⟩, 0) := by decide +kernel
theorem fx_n1 : smA 1 fk0 0 (0 + (fxp.size : Int)) fx1.size = (2, fk1) := by rfl
theorem fx_t2 : txR fx1 100 0 4 ⟨#[]⟩ = (fx2, fxo, 0) := by decide +kernel
theorem fx_n2 : smA 2 fk1 0 (4 + ((⟨#[]⟩ : ByteArray).size : Int)) fx2.size = (1, fk2) := by rfl
theorem fx_fit (m f e : Int) : (⟨3, 4, 8, 100, m, f, e⟩ : Sk).fit := by simp [Sk.fit]
theorem fx_lim : lim 100 = 100 := by decide
set_option maxRecDepth 100000 in
set_option maxHeartbeats 2000000 in
theorem fixed_any (w : World) (hE : Ev w) : Calls Tryz.prog 20 #[] w fun e W' => e = .returned (.bool true) ∧ Below w.heap.size w W' := by
  have C0 : Hid (Calls Tryz.prog 64 #[] w fun e W' => e = .returned (.bool true) ∧ Hid (Below w.heap.size w W')) := steps_any w hE.t
  have C1 : Hid (∀ W, Hid (Below w.heap.size w W) → Calls Tryz.prog 65 #[.int .i64 3, .int .i64 4, .int .i64 8, .int .i64 100, .string fx0] W fun e W' => ∃ b, e = .returned (.tuple #[.pointer (some ⟨b, 0, none⟩), .int .i64 0]) ∧ Hid (Se w b fx0 1 fk0 W')) := fun W hW => by
    have := snew_ok W 3 4 8 100 fx0 (by rw [fx_lim]; decide) (by rw [fx_lim]; exact fx_fit 0 0 0) (hE.below hW.out)
    refine this.mono ?_
    rintro e W' ⟨b, q1, q2⟩
    refine ⟨b, q1, ?_⟩
    have h2 := q2.se.up hW.out
    rw [fx_lim] at h2
    exact h2
  have C2 : Hid (∀ W b s bk k, Hid (Se w b s bk k W) → Calls Tryz.prog 66 #[.pointer (some ⟨b, 0, none⟩)] W fun e W' => e = .returned (.int .i64 bk) ∧ W' = W) := fun W b s bk k h => se_back h.out
  have C3 : Hid (∀ W b, Hid (Se w b fx0 1 fk0 W) → Calls Tryz.prog 67 #[.pointer (some ⟨b, 0, none⟩), .int .i64 0, .string fxp] W fun e W' => e = .returned (.int .i64 0) ∧ Hid (Se w b fx1 2 fk1 W')) := fun W b h => by
    refine (sins_of (se_rep h.out hE (fx_fit 0 0 0) (by simp [Sk.few, fk0]) 0 0 fxp (by omega) (by omega) (by decide) _ fx_t1 _ fx_n1)).mono ?_
    rintro e W' ⟨o, r, q1, ⟨_, q2⟩, q3, _⟩
    exact ⟨by rw [q1, q2], q3⟩
  have C4 : Hid (∀ W b s bk k, Hid (Se w b s bk k W) → Calls Tryz.prog 68 #[.pointer (some ⟨b, 0, none⟩)] W fun e W' => e = .returned (.agg #[.int .i64 k.mv, .int .i64 k.fo, .int .i64 k.ed]) ∧ Hid (Se w b s bk k W')) := fun W b s bk k h => se_counts h.out
  have C5 : Hid (∀ W b, Hid (Se w b fx1 2 fk1 W) → Calls Tryz.prog 69 #[.pointer (some ⟨b, 0, none⟩)] W fun e W' => e = .returned (.string fx1) ∧ Hid (Se w b fx1 2 fk1 W')) := fun W b h => se_text h.out
  have C6 : Hid (∀ W b, Hid (Se w b fx1 2 fk1 W) → Calls Tryz.prog 70 #[.pointer (some ⟨b, 0, none⟩), .int .i64 0, .int .i64 4] W fun e W' => e = .returned (.tuple #[.string fxo, .int .i64 0]) ∧ Hid (Se w b fx2 1 fk2 W')) := fun W b h => by
    refine (sdel_of (se_rep h.out hE (fx_fit _ _ _) (by simp [Sk.few, fk1]) 0 4 ⟨#[]⟩ (by omega) (by omega) (by decide) _ fx_t2 _ fx_n2)).mono ?_
    rintro e W' ⟨o, r, q1, ⟨q2, q3⟩, q4, _⟩
    exact ⟨by rw [q1, q2, q3], q4⟩
  have C7 : Hid (∀ W b, Hid (Se w b fx2 1 fk2 W) → Calls Tryz.prog 25 #[.pointer (some ⟨b, 0, none⟩), .int .i64 3] W fun e W' => e = .returned (.int .i64 13) ∧ Hid (Se w b fx2 1 fk2 W')) := fun W b h => (se_sw h.out hE (by simp [Sk.few, fk2]) 3 _ rfl).mono fun e W' ⟨q1, q2, _⟩ => ⟨q1, q2⟩
  have C8 : Hid (∀ W b, Hid (Se w b fx2 1 fk2 W) → Calls Tryz.prog 25 #[.pointer (some ⟨b, 0, none⟩), .int .i64 2] W fun e W' => e = .returned (.int .i64 0) ∧ Hid (Se w b fx2 2 fk3 W')) := fun W b h => (se_sw h.out hE (by simp [Sk.few, fk2]) 2 _ rfl).mono fun e W' ⟨q1, q2, _⟩ => ⟨q1, q2⟩
  unfold fx0 fxp fx1 fxo fx2 fk0 fk1 fk2 fk3 at *
  clear hE
  go_enter Tryz.func20, Tryz.ntmps20
  go_wp2_with (first
    | (go_at_call 64; refine C0.out.mono ?_; clear C0; rintro e w1 ⟨rfl, HB⟩)
    | (go_at_call 65; refine (C1.out _ HB).mono ?_; clear C1 HB; rintro e w2 ⟨b, rfl, H0⟩)
    | (go_at_call 66; refine (C2.out _ _ _ _ _ H0).mono ?_; rintro e w3 ⟨rfl, rfl⟩; have H1 := H0; clear H0)
    | (go_at_call 67; refine (C3.out _ _ H1).mono ?_; clear C3 H1; rintro e w4 ⟨rfl, H2⟩)
    | (go_at_call 66; refine (C2.out _ _ _ _ _ H2).mono ?_; rintro e w5 ⟨rfl, rfl⟩; have H3 := H2; clear H2)
    | (go_at_call 68; refine (C4.out _ _ _ _ _ H3).mono ?_; clear H3; rintro e w6 ⟨rfl, H4⟩)
    | (go_at_call 69; refine (C5.out _ _ H4).mono ?_; clear C5 H4; rintro e w7 ⟨rfl, H5⟩)
    | (go_at_call 70; refine (C6.out _ _ H5).mono ?_; clear C6 H5; rintro e w8 ⟨rfl, H6⟩)
    | (go_at_call 66; refine (C2.out _ _ _ _ _ H6).mono ?_; rintro e w9 ⟨rfl, rfl⟩; have H7 := H6; clear H6)
    | (go_at_call 25; refine (C7.out _ _ H7).mono ?_; clear C7 H7; rintro e w10 ⟨rfl, H8⟩)
    | (go_at_call 25; refine (C8.out _ _ H8).mono ?_; clear C8 H8; rintro e w11 ⟨rfl, H9⟩)
    | (go_at_call 68; refine (C4.out _ _ _ _ _ H9).mono ?_; clear H9; rintro e w12 ⟨rfl, H10⟩))
  go_ret
  exact ⟨rfl, H10.out.bel⟩
end Go.Proofs.YtffipfmnpffdaaaGreatDoor.Sto
