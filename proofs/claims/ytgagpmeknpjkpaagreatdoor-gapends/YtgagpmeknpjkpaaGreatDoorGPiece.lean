/-
  What package gap's piece answers: the bytes of the text from one offset up to another. Conditions: the two are in the text, in their order.
-/
import Derived.Test.YtgagpmeknpjkpaaGreatDoorGBuild
import Derived.Test.YtgagpmeknpjkpaaGreatDoorGRoom
import Derived.Test.YtgagpmeknpjkpaaGreatDoorShelf
namespace Go.Proofs.YtgagpmeknpjkpaaGreatDoor
open Go.RowKit Bod

theorem row_up {W : World} {b n : Nat} {v : Value} {xs : List Value} (h : W.ownsRow b 5 1 v n xs) (hne : v.ownBlock ≠ some b) : W.ownsRow (b + 1) 5 1 v n xs :=
  ⟨h.1, h.2.imp id fun ⟨g, cap, cur, h1, h2, h3⟩ => ⟨g, cap, cur, h1, by have : g ≠ b := fun e => hne (by rw [h1, e]; rfl); omega, h3⟩⟩
theorem row_down {W : World} {b c n : Nat} {v : Value} {xs : List Value} (h : W.ownsRow b 5 1 v n xs) (hc : c ≤ b) : W.ownsRow c 5 1 v n xs :=
  ⟨h.1, h.2.imp id fun ⟨g, cap, cur, h1, h2, h3⟩ => ⟨g, cap, cur, h1, by omega, h3⟩⟩
theorem Wr.low {b hi n₀ : Nat} {w W W' : World} (h : Wr b hi W W') (hb : n₀ ≤ b) (hh : n₀ ≤ hi) (hn : n₀ ≤ w.heap.size) (k : Below n₀ w W) : Below n₀ w W' :=
  ⟨h.1.trans k.os, h.2.1.trans k.tape, h.2.2.1.trans k.output, Nat.le_trans k.size h.2.2.2.1, fun j hj => by
    have hjw : j < W.heap.size := by have := k.size; omega
    have e : W.heap[j]? = some W.heap[j] := Array.getElem?_eq_getElem hjw
    rw [h.2.2.2.2 j _ e (by omega) (fun h => by omega), ← e]
    exact k.block j hj⟩
theorem bldN {b hi : Nat} {bs : List Value} {W : World} (k : Nat) (h : ∃ p v, Bld b hi bs W p v) : ∃ p v, Bld b hi bs (W.drewN k) p v := h.imp fun _ h => h.imp fun _ h => ⟨h.box, ⟨h.row.1, h.row.2⟩, h.adr⟩
theorem belN {n : Nat} {w W : World} (h : Below n w W) (k : Nat) : Below n w (W.drewN k) := ⟨h.os, h.tape, h.output, h.size, h.block⟩
/-- bytes of the array are written to a builder -/
theorem write_cut {b hi : Nat} {l : List UInt8} {w : World} (h : ∃ p v, Bld b hi (Lib.byteCells l) w p v) (hb : b < hi) (hw : hi ≤ w.heap.size) {r : Option Nat} {A : List UInt8} (hnil : r = none → A = []) (hr : ∀ k, r = some k → k < b ∧ w.heap[k]? = some (.cells (Lib.byteCells A).toArray 5 (0, 0))) {lo up : Nat} (h1 : lo ≤ up) (h2 : up ≤ A.length) (hl : l.length + A.length ≤ 70368744177664) :
    Calls Tryz.prog 55 #[.pointer (some ⟨b, 0, none⟩), cutV (ad r) lo up A.length] w fun e w' => (∃ u, e = .returned u) ∧ (∃ p' v', Bld b hi (Lib.byteCells (l ++ (A.drop lo).take (up - lo))) w' p' v') ∧ Wr b hi w w' := by
  obtain ⟨p, v, h⟩ := h
  have e0 : Lib.byteCells (l ++ (A.drop lo).take (up - lo)) = Lib.byteCells l ++ Lib.byteCells ((A.drop lo).take (up - lo)) := by simp [Lib.byteCells]
  rw [e0]
  cases r with
  | none =>
    have := hnil rfl
    subst this
    rw [List.length_nil] at h2
    obtain rfl : up = 0 := by omega
    obtain rfl : lo = 0 := by omega
    have := write_none h hb
    simpa [cutV, sliced, ad, Lib.byteCells] using this
  | some k =>
    obtain ⟨k1, k2⟩ := hr k rfl
    by_cases hN : A.length = lo
    · have e1 : up - lo = 0 := by omega
      have := write_some h hb hw (o := 0) (m := 0) (c := 0) (show k < hi by omega) (by omega) k2 (by omega) (by rw [bc_len]; omega)
      rw [e1]
      unfold cutV sliced ad
      rw [if_pos hN, e1, hN, Nat.sub_self]
      simpa [Lib.byteCells] using this
    · have := write_some h hb hw (o := lo) (m := up - lo) (c := A.length - lo) (show k < hi by omega) (by omega) k2 (by omega) (by rw [bc_len]; omega)
      unfold cutV sliced ad
      rw [if_neg hN]
      simpa [adr] using this

set_option maxRecDepth 100000 in
set_option maxHeartbeats 4000000 in
theorem piece_in {b : Nat} {r : Option Nat} {A : List UInt8} {p e l x y : Nat} {t : List UInt8} (w : World) (h : PA w b r A p e l) (hg : Gap A p e t) (hx : x ≤ y) (hy : y ≤ t.length) (hA : A.length ≤ 4294967296) :
    CallsIn .wide 0 Tryz.prog 43 #[.pointer (some ⟨b, 0, none⟩), .int .i64 x, .int .i64 y] w fun z w' => z = .returned (.string ⟨((t.drop x).take (y - x)).toArray⟩) ∧ Below w.heap.size w w' := by
  have g1 := hg.pe; have g2 := hg.eA; have g3 := hg.len
  have hb := h.lt
  have hpc := hg.piece hx
  obtain ⟨d, hd⟩ : ∃ d, y - x = d := ⟨_, rfl⟩
  rw [hd] at hpc ⊢
  obtain ⟨u1, hu1⟩ : ∃ u1, min x p = u1 := ⟨_, rfl⟩
  obtain ⟨u2, hu2⟩ : ∃ u2, min y p = u2 := ⟨_, rfl⟩
  obtain ⟨gp, hgp⟩ : ∃ gp, e - p = gp := ⟨_, rfl⟩
  obtain ⟨m1, hm1⟩ : ∃ m1, max x p = m1 := ⟨_, rfl⟩
  obtain ⟨m2, hm2⟩ : ∃ m2, max y p = m2 := ⟨_, rfl⟩
  obtain ⟨l1, hl1⟩ : ∃ l1, m1 + gp = l1 := ⟨_, rfl⟩
  obtain ⟨l2, hl2⟩ : ∃ l2, m2 + gp = l2 := ⟨_, rfl⟩
  rw [hu1, hu2, hgp, hm1, hm2, hl1] at hpc
  have j1 : min (x : Int) p = u1 := by omega
  have j2 : min (y : Int) p = u2 := by omega
  have j3 : max (x : Int) p = m1 := by omega
  have j4 : max (y : Int) p = m2 := by omega
  have k0 : IntKind.i64.wrap ((y : Int) - x) = d := by rw [IntKind.wrap_i64]; omega
  have k1 : IntKind.i64.wrap ((e : Int) - p) = gp := by rw [IntKind.wrap_i64]; omega
  have k2 : IntKind.i64.wrap ((m1 : Int) + gp) = l1 := by rw [IntKind.wrap_i64]; omega
  have k3 : IntKind.i64.wrap ((m2 : Int) + gp) = l2 := by rw [IntKind.wrap_i64]; omega
  obtain ⟨N, hN⟩ : ∃ N, A.length = N := ⟨_, rfl⟩
  have s1 : ∀ W, (Instr.sliceAt 39 (.slice (ad r) N N) (some (.int .i64 u1)) (some (.int .i64 u2)) none).run Tryz.prog W = .ok (cutV (ad r) u1 u2 N) W := fun W => run_cuts _ N u1 u2 (by omega) (by omega) W
  have s2 : ∀ W, (Instr.sliceAt 39 (.slice (ad r) N N) (some (.int .i64 l1)) (some (.int .i64 l2)) none).run Tryz.prog W = .ok (cutV (ad r) l1 l2 N) W := fun W => run_cuts _ N l1 l2 (by omega) (by omega) W
  have hbk : (w.alloc (.cells #[.pointer none, .slice none 0 0] 79)).heap[w.heap.size]? = some (.cells #[.pointer none, .slice none 0 0] 79 (0, 0)) := World.alloc_heap_new w _
  have cG : Hid (Calls Tryz.prog 54 #[.pointer (some ⟨w.heap.size, 0, none⟩), .int .i64 d] (w.alloc (.cells #[.pointer none, .slice none 0 0] 79)) fun z W => z = .returned (.tuple #[]) ∧ (∃ p v, Bld w.heap.size (w.heap.size + 1) (Lib.byteCells []) W p v) ∧ Below w.heap.size w W ∧ w.heap.size + 1 ≤ W.heap.size) :=
    (Tryz.Builder_Grow_fresh w.heap.size w.heap.size d _ (Nat.le_refl _) hbk (by simp) (by omega)).mono fun z W ⟨e1, ⟨_, v0, q1, q2, q3⟩, e3⟩ => ⟨e1, ⟨_, v0, q1, row_up q2 q3, .inr rfl⟩, ((Below.refl _ w).alloc (Nat.le_refl _) _).trans e3, (Array.getElem?_eq_some_iff.1 q1).1⟩
  have HP : Hid (∀ W, Below w.heap.size w W → PA W b r A p e l) := fun W hW => h.below hW
  have cW1 : Hid (∀ W, (∃ p v, Bld w.heap.size (w.heap.size + 1) (Lib.byteCells []) W p v) → Below w.heap.size w W → w.heap.size + 1 ≤ W.heap.size → Calls Tryz.prog 55 #[.pointer (some ⟨w.heap.size, 0, none⟩), cutV (ad r) u1 u2 N] W fun z W' => (∃ u, z = .returned u) ∧ (∃ p v, Bld w.heap.size (w.heap.size + 1) (Lib.byteCells ((A.drop u1).take (u2 - u1))) W' p v) ∧ Below w.heap.size w W' ∧ w.heap.size + 1 ≤ W'.heap.size) := fun W hB hW hs => by
    rw [← hN]
    refine (write_cut hB (by omega) hs h.nil (fun k hk => ⟨h.rlt hk, ((h.below hW).row k hk).2⟩) (lo := u1) (up := u2) (by omega) (by omega) (by simp; omega)).mono ?_
    rintro z W' ⟨q1, q2, q3⟩
    exact ⟨q1, by simpa using q2, q3.low (Nat.le_refl _) (by omega) (Nat.le_refl _) hW, Nat.le_trans hs q3.2.2.2.1⟩
  have cW2 : Hid (∀ W, (∃ p v, Bld w.heap.size (w.heap.size + 1) (Lib.byteCells ((A.drop u1).take (u2 - u1))) W p v) → Below w.heap.size w W → w.heap.size + 1 ≤ W.heap.size → Calls Tryz.prog 55 #[.pointer (some ⟨w.heap.size, 0, none⟩), cutV (ad r) l1 l2 N] W fun z W' => (∃ u, z = .returned u) ∧ (∃ p v, Bld w.heap.size (w.heap.size + 1) (Lib.byteCells ((t.drop x).take d)) W' p v) ∧ Below w.heap.size w W' ∧ w.heap.size + 1 ≤ W'.heap.size) := fun W hB hW hs => by
    rw [← hN]
    refine (write_cut hB (by omega) hs h.nil (fun k hk => ⟨h.rlt hk, ((h.below hW).row k hk).2⟩) (lo := l1) (up := l2) (by omega) (by omega) (by simp; omega)).mono ?_
    rintro z W' ⟨q1, q2, q3⟩
    refine ⟨q1, ?_, q3.low (Nat.le_refl _) (by omega) (Nat.le_refl _) hW, Nat.le_trans hs q3.2.2.2.1⟩
    rw [show l2 - l1 = m2 - m1 by omega, ← hpc] at q2
    exact q2
  have cS : Hid (∀ W, (∃ p v, Bld w.heap.size (w.heap.size + 1) (Lib.byteCells ((t.drop x).take d)) W p v) → Below w.heap.size w W → Calls Tryz.prog 56 #[.pointer (some ⟨w.heap.size, 0, none⟩)] W fun z W' => z = .returned (.string ⟨((t.drop x).take d).toArray⟩) ∧ Below w.heap.size w W') := fun W ⟨p', v', hB⟩ hW => by
    have row := row_down hB.row (show w.heap.size ≤ w.heap.size + 1 by omega)
    have hne : v'.ownBlock ≠ some w.heap.size := fun e => by have := hB.far e; omega
    have hbox := hB.box
    have hbl : Lib.IsBuilder 79 5 w.heap.size w.heap.size (Lib.byteCells ((t.drop x).take d)) W := by
      rcases hB.adr with rfl | rfl
      · exact .inl ⟨Nat.le_refl _, v', hbox, row, hne⟩
      · exact .inr ⟨Nat.le_refl _, v', hbox, row, hne⟩
    exact (Tryz.Builder_String_any w.heap.size w.heap.size ((t.drop x).take d) W hbl hW.size).mono fun z W' ⟨q1, q2⟩ => ⟨q1, hW.trans q2⟩
  obtain ⟨st, hst⟩ : ∃ st, (⟨((t.drop x).take d).toArray⟩ : ByteArray) = st := ⟨_, rfl⟩
  rw [hst] at cS ⊢
  obtain ⟨v1, hv1⟩ : ∃ v1, (A.drop u1).take (u2 - u1) = v1 := ⟨_, rfl⟩
  obtain ⟨v2, hv2⟩ : ∃ v2, (t.drop x).take d = v2 := ⟨_, rfl⟩
  rw [hv1] at cW1 cW2
  rw [hv2] at cW2 cS
  have HNN : Hid (A.length = N) := hN
  clear h hg hpc g1 g2 g3 hx hy hA hd hu1 hu2 hgp hm1 hm2 hl1 hl2 hbk hN hst hv1 hv2
  refine callsIn_of_wp_marks Tryz.func43 rfl trivial ?_ rfl
  simp only [Tryz.ntmps43, List.size_toArray, List.length_cons, List.length_nil, Nat.reduceAdd, Nat.reduceSub, Array.replicate_succ, Array.replicate_zero, List.push_toArray, List.append_toArray, List.nil_append, List.cons_append]
  gi_wp2_with (refine ⟨trivial, rfl, ?_⟩; gi_at_call 54; refine (callsIn_wide.2 cG.out).mono ?_; clear cG; rintro z w1 ⟨rfl, B1, L1, S1⟩; have HB1 : Hid ((∃ p v, Bld w.heap.size (w.heap.size + 1) (Lib.byteCells []) w1 p v) ∧ Below w.heap.size w w1 ∧ w.heap.size + 1 ≤ w1.heap.size) := ⟨B1, L1, S1⟩; clear B1 L1 S1; obtain ⟨⟨c0, c1, c2, c3⟩, -⟩ := box4 (HP.out w1 HB1.out.2.1).box; rw [HNN.out] at c0)
  refine region_thenB (by kernel_rfl) (by kernel_rfl) (by kernel_rfl) (by kernel_rfl) rfl rfl ?_
  dsimp only [List.dropLast, List.getLast]
  repeat (gi_big_quiet_step (fail))
  refine wpQuietIn_nil ?_
  intro _ hw'
  obtain ⟨nr, hw''⟩ := hw'
  subst hw''
  gi_wp2_with (refine ⟨trivial, rfl, ?_⟩; gi_at_call 55; refine (callsIn_wide.2 (cW1.out _ (bldN nr HB1.out.1) (belN HB1.out.2.1 nr) HB1.out.2.2)).mono ?_; clear cW1 HB1 c0 c1 c2 c3; rintro z w2 ⟨⟨zu, rfl⟩, B1, L1, S1⟩; have HB2 : Hid ((∃ p v, Bld w.heap.size (w.heap.size + 1) (Lib.byteCells v1) w2 p v) ∧ Below w.heap.size w w2 ∧ w.heap.size + 1 ≤ w2.heap.size) := ⟨B1, L1, S1⟩; clear B1 L1 S1; obtain ⟨⟨c0, c1, c2, c3⟩, -⟩ := box4 (HP.out w2 HB2.out.2.1).box; rw [HNN.out] at c0)
  refine wpIn_region_quiet_lit rfl (by kernel_rfl) (by kernel_rfl) ?_
  repeat (gi_big_quiet_step (fail))
  refine wpQuietIn_nil ?_
  intro _ hw'
  obtain ⟨nq, hw''⟩ := hw'
  subst hw''
  gi_wp2
  refine region_thenB (by kernel_rfl) (by kernel_rfl) (by kernel_rfl) (by kernel_rfl) rfl rfl ?_
  dsimp only [List.dropLast, List.getLast]
  repeat (gi_big_quiet_step (fail))
  refine wpQuietIn_nil ?_
  intro _ hw'
  obtain ⟨ns, hw''⟩ := hw'
  subst hw''
  gi_wp2_with (first | (refine ⟨trivial, rfl, ?_⟩; gi_at_call 55; refine (callsIn_wide.2 (cW2.out _ (bldN _ HB2.out.1) (belN HB2.out.2.1 _) HB2.out.2.2)).mono ?_; clear cW2 HB2 c0 c1 c2 c3; rintro z w3 ⟨⟨zv, rfl⟩, B1, L1, S1⟩) | (refine ⟨trivial, rfl, ?_⟩; gi_at_call 56; refine (callsIn_wide.2 (cS.out _ B1 L1)).mono ?_; rintro z w4 ⟨rfl, hb4⟩))
  exact ⟨.string st, by simp [results, Tryz.results43, go_sem], rfl, hb4⟩
theorem piece_any {b : Nat} {r : Option Nat} {A : List UInt8} {p e l x y : Nat} {t : List UInt8} (w : World) (h : PA w b r A p e l) (hg : Gap A p e t) (hx : x ≤ y) (hy : y ≤ t.length) (hA : A.length ≤ 4294967296) :
    Calls Tryz.prog 43 #[.pointer (some ⟨b, 0, none⟩), .int .i64 x, .int .i64 y] w fun z w' => z = .returned (.string ⟨((t.drop x).take (y - x)).toArray⟩) ∧ Below w.heap.size w w' := callsIn_wide.1 (piece_in w h hg hx hy hA)
end Go.Proofs.YtgagpmeknpjkpaaGreatDoor
