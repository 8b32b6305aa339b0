/-
  A nil store beside one of the document. Conditions: those of each theorem.
-/
import Derived.Test.YtffipfmnpffdaaaGreatDoorPkTG
namespace Go.Proofs.YtffipfmnpffdaaaGreatDoor.Sto
open Go.RowKit Go.Shelf Bod Wid
open Gap (Gp gSlice gMea gRep gReset eBA)

theorem spt_nil (W : World) : Spt W (.pointer none) none k0 := .inl ⟨rfl, rfl, rfl⟩
theorem hold_nil (W : World) : Hold W (Tx.or none) (.gap none Gap.g0 0) := ⟨rfl, rfl, rfl⟩
set_option maxRecDepth 100000 in
set_option maxHeartbeats 1000000 in
theorem srep_nil {w : World} (hE : Ev w) (a c : Int) (put : ByteArray) (ha : -9223372036854775808 ≤ a ∧ a ≤ 9223372036854775807) (hc : c ≤ 9223372036854775807) (hp : put.size ≤ 9223372036854775807) :
    Calls Tryz.prog 74 #[.pointer none, .int .i64 a, .int .i64 c, .string put] w fun e W' => ∃ o r, e = .returned (.tuple #[.string o, .int .i64 r]) ∧ (o = (txR eBA 0 a c put).2.1 ∧ r = (txR eBA 0 a c put).2.2) ∧ Below w.heap.size w W' := by
  obtain ⟨T, v, f, e1, ⟨m1, m2⟩, C⟩ := hold_rep (hold_nil w) hE
  obtain ⟨E, hEr⟩ : ∃ E, (txR eBA 0 a c put).2.2 = E := ⟨_, rfl⟩
  obtain ⟨O, hO⟩ : ∃ O, (txR eBA 0 a c put).2.1 = O := ⟨_, rfl⟩
  have C1 : Hid (Calls Tryz.prog 104 #[.pointer none] w (fun e W' => e = .returned (.iface T v) ∧ W' = w)) := by
    have := body_any (spt_nil w)
    rw [e1] at this
    exact this
  have C2 : Hid (Calls Tryz.prog f #[v, .int .i64 a, .int .i64 c, .string put] w fun e W' => e = .returned (.tuple #[.string O, .int .i64 E]) ∧ Hid (Below w.heap.size w W')) := (C a c put ha hc hp).mono (by
    rintro e W' ⟨rfl, K', _, _, _, ht, _⟩
    refine ⟨by rw [← hO, ← hEr]; rfl, ht.os, ht.tape, ht.out, ht.size, fun k hk => ht.block k hk ?_⟩
    rintro ⟨b, r, e, _⟩
    cases e)
  have hpn : ∀ w, (binOp .eql 43 (.pointer none) (.pointer none)).run Tryz.prog w = .ok (.bool true) w := fun w => by kernel_rfl
  rw [hO, hEr]
  clear C hE hEr hO e1
  by_cases h0 : E = 0
  · subst h0
    go_enter Tryz.func74, Tryz.ntmps74
    go_wp2_with (first | (go_at_call 104; refine C1.out.mono ?_; clear C1; rintro e w1 ⟨rfl, rfl⟩) | (go_at_fn f; refine C2.out.mono ?_; clear C2; rintro e w2 ⟨rfl, HB⟩))
    exact bodyPost_ret (v := .tuple #[.string O, .int .i64 0]) (by simp [results, Tryz.results74, go_sem]) rfl ⟨_, _, rfl, ⟨rfl, rfl⟩, HB.out⟩
  · have e1 : (E == 0) = false := by simp [h0]
    have e2 : (E != 0) = true := by simp [h0]
    go_enter Tryz.func74, Tryz.ntmps74
    go_wp2_with (first | (go_at_call 104; refine C1.out.mono ?_; clear C1; rintro e w1 ⟨rfl, rfl⟩) | (go_at_fn f; refine C2.out.mono ?_; clear C2; rintro e w2 ⟨rfl, HB⟩))
    exact bodyPost_ret (v := .tuple #[.string O, .int .i64 E]) (by simp [results, Tryz.results74, go_sem]) rfl ⟨_, _, rfl, ⟨rfl, rfl⟩, HB.out⟩
/-- the document's own new empty store, and a call's box, since Y -/
structure Nz (Y : World) (rb p : Nat) (g : Gp) (rk : Rk) (i : Nat) (bx : Array Value) (X : World) : Prop where
  rf : Rf X rb p g rk
  bel : Below Y.heap.size Y X
  box : X.heap[i]? = some (.cells bx 55 (0, 0))
  r0 : Y.heap.size ≤ rb
  p0 : Y.heap.size ≤ p
structure Ny (Y : World) (i : Nat) (bx : Array Value) (X : World) : Prop where
  bel : Below Y.heap.size Y X
  box : X.heap[i]? = some (.cells bx 55 (0, 0))
theorem Nz.low {Y X X' : World} {rb p i : Nat} {g : Gp} {rk : Rk} {bx : Array Value} (h : Nz Y rb p g rk i bx X) (hb : Below X.heap.size X X') : Nz Y rb p g rk i bx X' :=
  ⟨h.rf.below hb, Below.on h.bel hb, (hb.block i (Array.getElem?_eq_some_iff.1 h.box).1).trans h.box, h.r0, h.p0⟩
theorem Nz.ny {Y X X' : World} {rb p i : Nat} {g : Gp} {rk : Rk} {bx : Array Value} (h : Nz Y rb p g rk i bx X) (ht : Tn (Rt rb p) X X') : Ny Y i bx X' := by
  refine ⟨tn_bel h.bel ht (fun j e => ?_), (ht.block i (Array.getElem?_eq_some_iff.1 h.box).1 (fun e => ?_)).trans h.box⟩
  · rcases e with rfl | rfl
    · exact h.r0
    · exact h.p0
  · rcases e with rfl | rfl
    · exact ne_type h.box h.rf.box (by decide) rfl
    · exact ne_type h.box h.rf.buf (by decide) rfl
/-- the numbers of the document's own new empty store -/
def rz : Rk := ⟨3, 1, 0, 1, 0, 0, 0⟩
def gz : Gp := ⟨eBA, 0, 0⟩
theorem gz_rep (a c : Int) (put : ByteArray) : (gRep gz a c put).2 = (txR eBA 0 a c put).2 := (gRep_tx gz a c put).2.2
theorem works_nil {Y W : World} {rb p : Nat} (hE : Ev Y) (hr : Rf W rb p gz rz) (hb : Below Y.heap.size Y W) (r0 : Y.heap.size ≤ rb) (p0 : Y.heap.size ≤ p) (x : Oc) (hx : x.fit) (hp : x.p.size ≤ 1048576) (h5 : ¬ x.kd = 5) :
    Calls Tryz.prog 22 #[.pointer none, .pointer (some ⟨rb, 0, none⟩), opv x] W fun e W' => e = .returned (.bool true) ∧ Below Y.heap.size Y W' := by
  obtain ⟨kd, a, c, put⟩ := x
  obtain ⟨x1, x2, x3⟩ := hx
  dsimp only at x1 x2 x3 hp h5
  obtain ⟨bx, hbxe⟩ : ∃ bx : Array Value, (#[.int .i64 kd, .int .i64 a, .int .i64 c, .string put] : Array Value) = bx := ⟨_, rfl⟩
  obtain ⟨W0, hW0⟩ : ∃ W0, W.alloc (.cells #[.int .i64 kd, .int .i64 a, .int .i64 c, .string put] 55) = W0 := ⟨_, rfl⟩
  have hB : Below W.heap.size W W0 := by rw [← hW0]; exact (Below.refl _ W).alloc (Nat.le_refl _) _
  have hbx : W0.heap[W.heap.size]? = some (.cells bx 55 (0, 0)) := by rw [← hW0, ← hbxe]; exact World.alloc_heap_new W _
  have h0 : Nz Y rb p gz rz W.heap.size bx W0 := ⟨hr.below hB, Below.on hb hB, hbx, r0, p0⟩
  have ob : ∀ {X : World}, X.heap[W.heap.size]? = some (.cells bx 55 (0, 0)) → Obx X W.heap.size kd a c put := fun h => by rw [← hbxe] at h; exact (box4 h).1
  have dr : ∀ X, Nz Y rb p gz rz W.heap.size bx X → Nz Y rb p gz rz W.heap.size bx X.drew := fun X hX => hX.low ⟨rfl, rfl, rfl, Nat.le_refl _, fun _ _ => rfl⟩
  have hx' : ∀ X, Nz Y rb p gz rz W.heap.size bx X ∨ Nz Y rb p gz rz W.heap.size bx X ∨ Ny Y W.heap.size bx X → Obx X W.heap.size kd a c put := fun X hX => hX.elim (fun h => ob h.box) (·.elim (fun h => ob h.box) (fun h => ob h.box))
  have C1 : ∀ (a c : Int) (put : ByteArray), (-9223372036854775808 ≤ a ∧ a ≤ 9223372036854775807) → c ≤ 9223372036854775807 → put.size ≤ 1048576 → ∀ X, Nz Y rb p gz rz W.heap.size bx X → Calls Tryz.prog 74 #[.pointer none, .int .i64 a, .int .i64 c, .string put] X fun e X' => ∃ o r, e = .returned (.tuple #[.string o, .int .i64 r]) ∧ (o = (txR eBA 0 a c put).2.1 ∧ r = (txR eBA 0 a c put).2.2) ∧ Nz Y rb p gz rz W.heap.size bx X' := fun a c put ha hc hp X hX => (srep_nil (hE.below hX.bel) a c put ha hc (by omega)).mono fun e X' ⟨o, r, q1, q2, q3⟩ => ⟨o, r, q1, q2, hX.low q3⟩
  have C2 : ∀ (a c : Int) (put : ByteArray), put.size ≤ 1048576 → ∀ X, Nz Y rb p gz rz W.heap.size bx X → Calls Tryz.prog 75 #[.pointer (some ⟨rb, 0, none⟩), .int .i64 a, .int .i64 c, .string put] X fun e X' => ∃ o r, e = .returned (.tuple #[.string o, .int .i64 r]) ∧ (o = (txR eBA 0 a c put).2.1 ∧ r = (txR eBA 0 a c put).2.2) ∧ Ny Y W.heap.size bx X' := fun a c put hp X hX => (rrep9_any hX.rf (by decide) a c put (by omega) (by decide)).mono fun e X' ⟨q1, _, q3⟩ => ⟨_, _, q1, ⟨by rw [gz_rep], by rw [gz_rep]⟩, hX.ny q3⟩
  unfold opv
  dsimp only
  by_cases k1 : kd = 1
  · subst k1
    exact (works_1 (r := (txR eBA 0 a 0 put).2.2) hW0 h0 dr hx' (fun X hX => (sins_of (C1 a 0 put x2 (by omega) hp X hX)).mono fun e X' ⟨o, r, q1, q2, q3⟩ => ⟨by rw [q1, q2.2], q3⟩) (fun X hX => (rins9_of (C2 a 0 put hp X hX)).mono fun e X' ⟨o, r, q1, q2, q3⟩ => ⟨by rw [q1, q2.2], q3⟩)).mono fun e X' ⟨q1, q2⟩ => ⟨q1, q2.bel⟩
  · by_cases k2 : kd = 2
    · subst k2
      exact (works_2 (o := (txR eBA 0 a c ⟨#[]⟩).2.1) (r := (txR eBA 0 a c ⟨#[]⟩).2.2) hW0 h0 dr hx' (fun X hX => (sdel_of (C1 a c ⟨#[]⟩ x2 x3.2 (by decide) X hX)).mono fun e X' ⟨o, r, q1, q2, q3⟩ => ⟨by rw [q1, q2.1, q2.2], q3⟩) (fun X hX => (rdel9_of (C2 a c ⟨#[]⟩ (by decide) X hX)).mono fun e X' ⟨o, r, q1, q2, q3⟩ => ⟨by rw [q1, q2.1, q2.2], q3⟩)).mono fun e X' ⟨q1, q2⟩ => ⟨q1, q2.bel⟩
    · by_cases k3 : kd = 3
      · subst k3
        exact (works_3 (o := (txR eBA 0 a c put).2.1) (r := (txR eBA 0 a c put).2.2) hW0 h0 dr hx' (fun X hX => (C1 a c put x2 x3.2 hp X hX).mono fun e X' ⟨o, r, q1, q2, q3⟩ => ⟨by rw [q1, q2.1, q2.2], q3⟩) (fun X hX => (C2 a c put hp X hX).mono fun e X' ⟨o, r, q1, q2, q3⟩ => ⟨by rw [q1, q2.1, q2.2], q3⟩)).mono fun e X' ⟨q1, q2⟩ => ⟨q1, q2.bel⟩
      · by_cases k4 : kd = 4
        · subst k4
          have u1 := (reset_tx eBA 0 put).1
          have u2 : (gReset gz put).2 = (if put.size ≤ 0 then 0 else 2) := by
            show (gReset ⟨eBA, 0, 0⟩ put).2 = _
            unfold gReset
            split <;> rfl
          refine (works_4 (r := if put.size ≤ 0 then 0 else 2) hW0 h0 dr hx' (fun X hX => ?_) (fun X hX => ?_)).mono fun e X' ⟨q1, q2⟩ => ⟨q1, q2.bel⟩
          · have hl : Calls Tryz.prog 99 #[.pointer none] X fun e X' => e = .returned (.int .i64 (0 : Nat)) ∧ Below X.heap.size X X' := slen_any (spt_nil X) (hold_nil X)
            refine (sreset_of (n := 0) (put := put) (R := fun o r X' => (o = (txR eBA 0 0 0 put).2.1 ∧ r = (txR eBA 0 0 0 put).2.2) ∧ Nz Y rb p gz rz W.heap.size bx X') hl (fun X1 hX1 => ?_)).mono ?_
            · exact (C1 0 0 put (by omega) (by omega) hp X1 (hX.low hX1))
            · rintro e X' ⟨o, r, q1, ⟨_, q2⟩, q3⟩
              exact ⟨by rw [q1, q2]; exact congrArg (fun z => Ending.returned (.int .i64 z)) u1, q3⟩
          · refine (rreset9_any hX.rf (by decide) put (by omega) (by decide)).mono ?_
            rintro e X' ⟨q1, _, q3⟩
            exact ⟨by rw [q1, u2], hX.ny q3⟩
        · exact (works_0 (R0 := Nz Y rb p gz rz W.heap.size bx) k1 k2 k3 k4 h5 hW0 h0 (ob h0.box)).mono fun e X' ⟨q1, q2⟩ => ⟨q1, q2.bel⟩
theorem asks_nil {W : World} {rb p : Nat} (hE : Ev W) (hr : Rf W rb p gz rz) (x : Oc) (hx : x.fit) :
    Calls Tryz.prog 23 #[.pointer none, .pointer (some ⟨rb, 0, none⟩), opv x] W fun e W' => e = .returned (.bool true) ∧ Below W.heap.size W W' := by
  obtain ⟨kd, a, c, put⟩ := x
  obtain ⟨x1, x2, x3⟩ := hx
  dsimp only at x1 x2 x3
  obtain ⟨mn, hmn⟩ := next_ex eBA a
  obtain ⟨mp, hmp⟩ := prev_ex eBA a
  obtain ⟨ms, hms⟩ := snap_ex eBA a
  have hp : ∀ X, Below W.heap.size W X → Rf X rb p gz rz := fun X hX => hr.below hX
  have pc : ∀ X, Below W.heap.size W X → Pcs X (.pointer none) eBA (eBA : ByteArray).size ∧ Ev X := fun X hX => ⟨pcs_of (spt_nil X) (hold_nil X), hE.below hX⟩
  have A : As W (.pointer none) (.pointer (some ⟨rb, 0, none⟩)) a c (gSlice eBA a c).1 (gSlice eBA a c).2 (gMea eBA a c).1 (gMea eBA a c).2 (cbZ eBA a) mn mp ms := by
    refine ⟨?_, ?_, ?_, ?_, ?_, ?_, ?_, ?_, ?_, ?_, ?_, ?_⟩ <;> intro X hX
    · exact sslice_any (spt_nil X) (hold_nil X) a c
    · exact rslice9_any (hp X hX) a c
    · exact smeas_any (spt_nil X) (hold_nil X) (hE.below hX) a c
    · exact rmeas9_any (hp X hX) a c
    · exact bound_of (pc X hX).1 (pc X hX).2 a x2.2
    · exact rbound9_any (hp X hX) (by decide) a
    · exact (next_of (pc X hX).1 (pc X hX).2 a).mono fun e W' ⟨m, q1, q2, q3⟩ => ⟨by rw [q1, q2.uniq hmn], q3⟩
    · exact (rnext9_any (hp X hX) (by decide) a).mono fun e W' ⟨m, q1, q2, q3⟩ => ⟨by rw [q1, q2.uniq hmn], q3⟩
    · exact (prev_of (pc X hX).1 (pc X hX).2 a).mono fun e W' ⟨m, q1, q2, q3⟩ => ⟨by rw [q1, q2.uniq hmp], q3⟩
    · exact (rprev9_any (hp X hX) (by decide) a).mono fun e W' ⟨m, q1, q2, q3⟩ => ⟨by rw [q1, q2.uniq hmp], q3⟩
    · exact (snap_of (pc X hX).1 (pc X hX).2 a x2.2).mono fun e W' ⟨m, q1, q2, q3⟩ => ⟨by rw [q1, q2.uniq hms], q3⟩
    · exact (rsnap9_any (hp X hX) (by decide) a).mono fun e W' ⟨m, q1, q2, q3⟩ => ⟨by rw [q1, q2.uniq hms], q3⟩
  exact asks_of A kd put
end Go.Proofs.YtffipfmnpffdaaaGreatDoor.Sto
namespace Go.Proofs.YtffipfmnpffdaaaGreatDoor.Sto
open Go.RowKit Go.Shelf Bod Wid
open Gap (Gp eBA)

theorem cn_eq (mv fo ed : Int) (w : World) : (binOp .eql 48 (.agg #[.int .i64 0, .int .i64 0, .int .i64 0]) (.agg #[.int .i64 mv, .int .i64 fo, .int .i64 ed])).run Tryz.prog w = .ok (.bool (decide (mv = 0 ∧ fo = 0 ∧ ed = 0))) w := by
  by_cases h1 : mv = 0
  · by_cases h2 : fo = 0
    · by_cases h3 : ed = 0
      · subst h1 h2 h3; simp [go_sem]
      · subst h1 h2
        have h3' : ((0 : Int) == ed) = false := by simp; omega
        simp [go_sem, h3, h3']
    · subst h1
      have h2' : ((0 : Int) == fo) = false := by simp; omega
      simp [go_sem, h2, h2']
  · have h1' : ((0 : Int) == mv) = false := by simp; omega
    simp [go_sem, h1, h1']
set_option maxRecDepth 100000 in
set_option maxHeartbeats 4000000 in
theorem looks_nil {W : World} {rb p : Nat} {g : Gp} {now mv fo ed : Int} (hr : Rf W rb p g ⟨3, now, 0, 1, mv, fo, ed⟩) (hg : g.s = eBA) (hl : g.l = 0) (hn : now = 1 ∨ now = 2) :
    Calls Tryz.prog 24 #[.pointer none, .pointer (some ⟨rb, 0, none⟩)] W fun e W' => e = .returned (.bool (decide (now = 1) && decide (mv = 0 ∧ fo = 0 ∧ ed = 0))) ∧ Below W.heap.size W W' := by
  have st : ∀ {X X' : World}, Below W.heap.size W X → Below X.heap.size X X' → Below W.heap.size W X' := fun a b => a.trans (b.mono a.size)
  have T1 : Hid (∀ X, Hid (Below W.heap.size W X) → Calls Tryz.prog 91 #[.pointer none] X fun e X' => e = .returned (.tuple #[.int .i64 0, .int .i64 1]) ∧ Hid (Below W.heap.size W X')) := fun X h => (thr_any (spt_nil X) (by decide)).mono fun e X' ⟨q1, q2⟩ => ⟨q1, st h.out q2⟩
  have T2 : Hid (∀ X, Hid (Below W.heap.size W X) → Calls Tryz.prog 92 #[.pointer (some ⟨rb, 0, none⟩)] X fun e X' => e = .returned (.tuple #[.int .i64 0, .int .i64 1]) ∧ Hid (Below W.heap.size W X')) := fun X h => (rthr_any (hr.below h.out)).mono fun e X' ⟨q1, q2⟩ => ⟨q1, st h.out q2⟩
  have K1 : Hid (∀ X, Hid (Below W.heap.size W X) → Calls Tryz.prog 93 #[.pointer none] X fun e X' => e = .returned (.int .i64 3) ∧ Hid (Below W.heap.size W X')) := fun X h => (kind_any (spt_nil X)).mono fun e X' ⟨q1, q2⟩ => ⟨q1, st h.out q2⟩
  have K2 : Hid (∀ X, Hid (Below W.heap.size W X) → Calls Tryz.prog 94 #[.pointer (some ⟨rb, 0, none⟩)] X fun e X' => e = .returned (.int .i64 3) ∧ Hid (Below W.heap.size W X')) := fun X h => (rkind_any (hr.below h.out)).mono fun e X' ⟨q1, q2⟩ => ⟨q1, by rw [q2]; exact h.out⟩
  have B1 : Hid (∀ X, Hid (Below W.heap.size W X) → Calls Tryz.prog 66 #[.pointer none] X fun e X' => e = .returned (.int .i64 1) ∧ Hid (Below W.heap.size W X')) := fun X h => (Backend_any (spt_nil X)).mono fun e X' ⟨q1, q2⟩ => ⟨q1, by rw [q2]; exact h.out⟩
  have B2 : Hid (∀ X, Hid (Below W.heap.size W X) → Calls Tryz.prog 95 #[.pointer (some ⟨rb, 0, none⟩)] X fun e X' => e = .returned (.int .i64 now) ∧ Hid (Below W.heap.size W X')) := fun X h => (rback_any (hr.below h.out)).mono fun e X' ⟨q1, q2⟩ => ⟨q1, by rw [q2]; exact h.out⟩
  have L1 : Hid (∀ X, Hid (Below W.heap.size W X) → Calls Tryz.prog 96 #[.pointer none] X fun e X' => e = .returned (.int .i64 0) ∧ Hid (Below W.heap.size W X')) := fun X h => (limit_any (spt_nil X)).mono fun e X' ⟨q1, q2⟩ => ⟨q1, st h.out q2⟩
  have L2 : Hid (∀ X, Hid (Below W.heap.size W X) → Calls Tryz.prog 97 #[.pointer (some ⟨rb, 0, none⟩)] X fun e X' => e = .returned (.int .i64 0) ∧ Hid (Below W.heap.size W X')) := fun X h => (rlim_any (hr.below h.out)).mono fun e X' ⟨q1, q2⟩ => ⟨by rw [q1, hl]; rfl, by rw [q2]; exact h.out⟩
  have N1 : Hid (∀ X, Hid (Below W.heap.size W X) → Calls Tryz.prog 68 #[.pointer none] X fun e X' => e = .returned (.agg #[.int .i64 0, .int .i64 0, .int .i64 0]) ∧ Hid (Below W.heap.size W X')) := fun X h => (counts_any (spt_nil X)).mono fun e X' ⟨q1, q2⟩ => ⟨q1, st h.out q2⟩
  have N2 : Hid (∀ X, Hid (Below W.heap.size W X) → Calls Tryz.prog 98 #[.pointer (some ⟨rb, 0, none⟩)] X fun e X' => e = .returned (.agg #[.int .i64 mv, .int .i64 fo, .int .i64 ed]) ∧ Hid (Below W.heap.size W X')) := fun X h => (rcnt_any (hr.below h.out)).mono fun e X' ⟨q1, q2⟩ => ⟨q1, st h.out q2⟩
  have E1 : Hid (∀ X, Hid (Below W.heap.size W X) → Calls Tryz.prog 99 #[.pointer none] X fun e X' => e = .returned (.int .i64 0) ∧ Hid (Below W.heap.size W X')) := fun X h => (slen_any (spt_nil X) (hold_nil X)).mono fun e X' ⟨q1, q2⟩ => ⟨q1, st h.out q2⟩
  have E2 : Hid (∀ X, Hid (Below W.heap.size W X) → Calls Tryz.prog 100 #[.pointer (some ⟨rb, 0, none⟩)] X fun e X' => e = .returned (.int .i64 0) ∧ Hid (Below W.heap.size W X')) := fun X h => (rlen9_any (hr.below h.out)).mono fun e X' ⟨q1, q2⟩ => ⟨by rw [q1, hg]; rfl, by rw [q2]; exact h.out⟩
  have X1 : Hid (∀ X, Hid (Below W.heap.size W X) → Calls Tryz.prog 69 #[.pointer none] X fun e X' => e = .returned (.string ⟨#[]⟩) ∧ Hid (Below W.heap.size W X')) := fun X h => (stext_any (spt_nil X) (hold_nil X)).mono fun e X' ⟨q1, q2⟩ => ⟨q1, st h.out q2⟩
  have X2 : Hid (∀ X, Hid (Below W.heap.size W X) → Calls Tryz.prog 101 #[.pointer (some ⟨rb, 0, none⟩)] X fun e X' => e = .returned (.string ⟨#[]⟩) ∧ Hid (Below W.heap.size W X')) := fun X h => (rtext9_any (hr.below h.out)).mono fun e X' ⟨q1, q2⟩ => ⟨by rw [q1, hg]; rfl, by rw [q2]; exact h.out⟩
  have HW : Hid (Below W.heap.size W W) := Below.refl _ _
  have hcn := cn_eq mv fo ed
  clear hr hg hl st
  obtain ⟨β, hβ⟩ : ∃ β, decide (mv = 0 ∧ fo = 0 ∧ ed = 0) = β := ⟨_, rfl⟩
  rw [hβ]
  simp only [hβ] at hcn
  clear hβ
  rcases hn with rfl | rfl
  · cases β <;>
    · go_enter Tryz.func24, Tryz.ntmps24
      go_wp2_with (first
        | (go_at_call 91; refine (T1.out _ HW).mono ?_; clear HW; rintro e w1 ⟨rfl, HW⟩)
        | (go_at_call 92; refine (T2.out _ HW).mono ?_; clear HW; rintro e w2 ⟨rfl, HW⟩)
        | (go_at_call 93; refine (K1.out _ HW).mono ?_; clear HW; rintro e w3 ⟨rfl, HW⟩)
        | (go_at_call 94; refine (K2.out _ HW).mono ?_; clear HW; rintro e w4 ⟨rfl, HW⟩)
        | (go_at_call 66; refine (B1.out _ HW).mono ?_; clear HW; rintro e w5 ⟨rfl, HW⟩)
        | (go_at_call 95; refine (B2.out _ HW).mono ?_; clear HW; rintro e w6 ⟨rfl, HW⟩)
        | (go_at_call 96; refine (L1.out _ HW).mono ?_; clear HW; rintro e w7 ⟨rfl, HW⟩)
        | (go_at_call 97; refine (L2.out _ HW).mono ?_; clear HW; rintro e w8 ⟨rfl, HW⟩)
        | (go_at_call 68; refine (N1.out _ HW).mono ?_; clear HW; rintro e w9 ⟨rfl, HW⟩)
        | (go_at_call 98; refine (N2.out _ HW).mono ?_; clear HW; rintro e w10 ⟨rfl, HW⟩)
        | (go_at_call 99; refine (E1.out _ HW).mono ?_; clear HW; rintro e w11 ⟨rfl, HW⟩)
        | (go_at_call 100; refine (E2.out _ HW).mono ?_; clear HW; rintro e w12 ⟨rfl, HW⟩)
        | (go_at_call 69; refine (X1.out _ HW).mono ?_; clear HW; rintro e w13 ⟨rfl, HW⟩)
        | (go_at_call 101; refine (X2.out _ HW).mono ?_; clear HW; rintro e w14 ⟨rfl, HW⟩))
      go_ret
      exact ⟨rfl, HW.out⟩
  · go_enter Tryz.func24, Tryz.ntmps24
    go_wp2_with (first
      | (go_at_call 91; refine (T1.out _ HW).mono ?_; clear HW; rintro e w1 ⟨rfl, HW⟩)
      | (go_at_call 92; refine (T2.out _ HW).mono ?_; clear HW; rintro e w2 ⟨rfl, HW⟩)
      | (go_at_call 93; refine (K1.out _ HW).mono ?_; clear HW; rintro e w3 ⟨rfl, HW⟩)
      | (go_at_call 94; refine (K2.out _ HW).mono ?_; clear HW; rintro e w4 ⟨rfl, HW⟩)
      | (go_at_call 66; refine (B1.out _ HW).mono ?_; clear HW; rintro e w5 ⟨rfl, HW⟩)
      | (go_at_call 95; refine (B2.out _ HW).mono ?_; clear HW; rintro e w6 ⟨rfl, HW⟩))
    go_ret
    exact ⟨rfl, HW.out⟩
end Go.Proofs.YtffipfmnpffdaaaGreatDoor.Sto
