/-
  How package gap reads and exchanges pieces, and opens. Conditions: those of each theorem.
-/
import Derived.Test.YtcjmfoadimpffaaGreatDoorGPkB
import Derived.Test.YtcjmfoadimpffaaGreatDoorShelf
namespace Go.Proofs.YtcjmfoadimpffaaGreatDoor.Gap
open Go.RowKit Bod

theorem row_up {W : World} {b n : Nat} {v : Value} {xs : List Value} (h : W.ownsRow b 5 1 v n xs) (hne : v.ownBlock ≠ some b) : W.ownsRow (b + 1) 5 1 v n xs :=
  ⟨h.1, h.2.imp id fun ⟨g, cap, cur, h1, h2, h3⟩ => ⟨g, cap, cur, h1, by have : g ≠ b := fun e => hne (by rw [h1, e]; rfl); omega, h3⟩⟩
theorem row_down {W : World} {b c n : Nat} {v : Value} {xs : List Value} (h : W.ownsRow b 5 1 v n xs) (hc : c ≤ b) : W.ownsRow c 5 1 v n xs :=
  ⟨h.1, h.2.imp id fun ⟨g, cap, cur, h1, h2, h3⟩ => ⟨g, cap, cur, h1, by omega, h3⟩⟩
theorem Wr.low {b hi n₀ : Nat} {w W W' : World} (h : Wr b hi W W') (hb : n₀ ≤ b) (hh : n₀ ≤ hi) (hn : n₀ ≤ w.heap.size) (k : Below n₀ w W) : Below n₀ w W' :=
  ⟨h.1.trans k.os, h.2.1.trans k.tape, h.2.2.1.trans k.output, Nat.le_trans k.size h.2.2.2.1, fun j hj => by
    have hjw : j < W.heap.size := by have := k.size; omega
    have e : W.heap[j]? = some W.heap[j] := Array.getElem?_eq_getElem hjw
    rw [h.2.2.2.2 j _ e (by omega) (fun h => by omega), ← e]
    exact k.block j hj⟩
theorem bldN {b hi : Nat} {bs : List Value} {W : World} (k : Nat) (h : ∃ p v, Bld b hi bs W p v) : ∃ p v, Bld b hi bs (W.drewN k) p v := h.imp fun _ h => h.imp fun _ h => ⟨h.box, ⟨h.row.1, h.row.2⟩, h.adr⟩
theorem belN {n : Nat} {w W : World} (h : Below n w W) (k : Nat) : Below n w (W.drewN k) := ⟨h.os, h.tape, h.output, h.size, h.block⟩
/-- bytes of the array are written to a builder -/
theorem write_cut {b hi : Nat} {l : List UInt8} {w : World} (h : ∃ p v, Bld b hi (Lib.byteCells l) w p v) (hb : b < hi) (hw : hi ≤ w.heap.size) {r : Option Nat} {A : List UInt8} (hnil : r = none → A = []) (hr : ∀ k, r = some k → k < b ∧ w.heap[k]? = some (.cells (Lib.byteCells A).toArray 5 (0, 0))) {lo up : Nat} (h1 : lo ≤ up) (h2 : up ≤ A.length) (hl : l.length + A.length ≤ 70368744177664) :
    Calls Tryz.prog 132 #[.pointer (some ⟨b, 0, none⟩), cutV (ad r) lo up A.length] w fun e w' => (∃ u, e = .returned u) ∧ (∃ p' v', Bld b hi (Lib.byteCells (l ++ (A.drop lo).take (up - lo))) w' p' v') ∧ Wr b hi w w' := by
  obtain ⟨p, v, h⟩ := h
  have e0 : Lib.byteCells (l ++ (A.drop lo).take (up - lo)) = Lib.byteCells l ++ Lib.byteCells ((A.drop lo).take (up - lo)) := by simp [Lib.byteCells]
  rw [e0]
  cases r with
  | none =>
    have := hnil rfl
    subst this
    rw [List.length_nil] at h2
    obtain rfl : up = 0 := by omega
    obtain rfl : lo = 0 := by omega
    have := write_none h hb
    simpa [cutV, sliced, ad, Lib.byteCells] using this
  | some k =>
    obtain ⟨k1, k2⟩ := hr k rfl
    by_cases hN : A.length = lo
    · have e1 : up - lo = 0 := by omega
      have := write_some h hb hw (o := 0) (m := 0) (c := 0) (show k < hi by omega) (by omega) k2 (by omega) (by rw [bc_len]; omega)
      rw [e1]
      unfold cutV sliced ad
      rw [if_pos hN, e1, hN, Nat.sub_self]
      simpa [Lib.byteCells] using this
    · have := write_some h hb hw (o := lo) (m := up - lo) (c := A.length - lo) (show k < hi by omega) (by omega) k2 (by omega) (by rw [bc_len]; omega)
      unfold cutV sliced ad
      rw [if_neg hN]
      simpa [adr] using this

set_option maxRecDepth 100000 in
set_option maxHeartbeats 4000000 in
theorem piece_in {b : Nat} {r : Option Nat} {A : List UInt8} {p e l x y : Nat} {t : List UInt8} (w : World) (h : PA w b r A p e l) (hg : Gap A p e t) (hx : x ≤ y) (hy : y ≤ t.length) (hA : A.length ≤ 4294967296) :
    CallsIn .wide 0 Tryz.prog 97 #[.pointer (some ⟨b, 0, none⟩), .int .i64 x, .int .i64 y] w fun z w' => z = .returned (.string ⟨((t.drop x).take (y - x)).toArray⟩) ∧ Below w.heap.size w w' := by
  have g1 := hg.pe; have g2 := hg.eA; have g3 := hg.len
  have hb := h.lt
  have hpc := hg.piece hx
  obtain ⟨d, hd⟩ : ∃ d, y - x = d := ⟨_, rfl⟩
  rw [hd] at hpc ⊢
  obtain ⟨u1, hu1⟩ : ∃ u1, min x p = u1 := ⟨_, rfl⟩
  obtain ⟨u2, hu2⟩ : ∃ u2, min y p = u2 := ⟨_, rfl⟩
  obtain ⟨gp, hgp⟩ : ∃ gp, e - p = gp := ⟨_, rfl⟩
  obtain ⟨m1, hm1⟩ : ∃ m1, max x p = m1 := ⟨_, rfl⟩
  obtain ⟨m2, hm2⟩ : ∃ m2, max y p = m2 := ⟨_, rfl⟩
  obtain ⟨l1, hl1⟩ : ∃ l1, m1 + gp = l1 := ⟨_, rfl⟩
  obtain ⟨l2, hl2⟩ : ∃ l2, m2 + gp = l2 := ⟨_, rfl⟩
  rw [hu1, hu2, hgp, hm1, hm2, hl1] at hpc
  have j1 : min (x : Int) p = u1 := by omega
  have j2 : min (y : Int) p = u2 := by omega
  have j3 : max (x : Int) p = m1 := by omega
  have j4 : max (y : Int) p = m2 := by omega
  have k0 : IntKind.i64.wrap ((y : Int) - x) = d := by rw [IntKind.wrap_i64]; omega
  have k1 : IntKind.i64.wrap ((e : Int) - p) = gp := by rw [IntKind.wrap_i64]; omega
  have k2 : IntKind.i64.wrap ((m1 : Int) + gp) = l1 := by rw [IntKind.wrap_i64]; omega
  have k3 : IntKind.i64.wrap ((m2 : Int) + gp) = l2 := by rw [IntKind.wrap_i64]; omega
  obtain ⟨N, hN⟩ : ∃ N, A.length = N := ⟨_, rfl⟩
  have s1 : ∀ W, (Instr.sliceAt 140 (.slice (ad r) N N) (some (.int .i64 u1)) (some (.int .i64 u2)) none).run Tryz.prog W = .ok (cutV (ad r) u1 u2 N) W := fun W => run_cuts _ N u1 u2 (by omega) (by omega) W
  have s2 : ∀ W, (Instr.sliceAt 140 (.slice (ad r) N N) (some (.int .i64 l1)) (some (.int .i64 l2)) none).run Tryz.prog W = .ok (cutV (ad r) l1 l2 N) W := fun W => run_cuts _ N l1 l2 (by omega) (by omega) W
  have hbk : (w.alloc (.cells #[.pointer none, .slice none 0 0] 142)).heap[w.heap.size]? = some (.cells #[.pointer none, .slice none 0 0] 142 (0, 0)) := World.alloc_heap_new w _
  have cG : Hid (Calls Tryz.prog 88 #[.pointer (some ⟨w.heap.size, 0, none⟩), .int .i64 d] (w.alloc (.cells #[.pointer none, .slice none 0 0] 142)) fun z W => z = .returned (.tuple #[]) ∧ (∃ p v, Bld w.heap.size (w.heap.size + 1) (Lib.byteCells []) W p v) ∧ Below w.heap.size w W ∧ w.heap.size + 1 ≤ W.heap.size) :=
    (Tryz.Builder_Grow_fresh w.heap.size w.heap.size d _ (Nat.le_refl _) hbk (by simp) (by omega)).mono fun z W ⟨e1, ⟨_, v0, q1, q2, q3⟩, e3⟩ => ⟨e1, ⟨_, v0, q1, row_up q2 q3, .inr rfl⟩, ((Below.refl _ w).alloc (Nat.le_refl _) _).trans e3, (Array.getElem?_eq_some_iff.1 q1).1⟩
  have HP : Hid (∀ W, Below w.heap.size w W → PA W b r A p e l) := fun W hW => h.below hW
  have cW1 : Hid (∀ W, (∃ p v, Bld w.heap.size (w.heap.size + 1) (Lib.byteCells []) W p v) → Below w.heap.size w W → w.heap.size + 1 ≤ W.heap.size → Calls Tryz.prog 132 #[.pointer (some ⟨w.heap.size, 0, none⟩), cutV (ad r) u1 u2 N] W fun z W' => (∃ u, z = .returned u) ∧ (∃ p v, Bld w.heap.size (w.heap.size + 1) (Lib.byteCells ((A.drop u1).take (u2 - u1))) W' p v) ∧ Below w.heap.size w W' ∧ w.heap.size + 1 ≤ W'.heap.size) := fun W hB hW hs => by
    rw [← hN]
    refine (write_cut hB (by omega) hs h.nil (fun k hk => ⟨h.rlt hk, ((h.below hW).row k hk).2⟩) (lo := u1) (up := u2) (by omega) (by omega) (by simp; omega)).mono ?_
    rintro z W' ⟨q1, q2, q3⟩
    exact ⟨q1, by simpa using q2, q3.low (Nat.le_refl _) (by omega) (Nat.le_refl _) hW, Nat.le_trans hs q3.2.2.2.1⟩
  have cW2 : Hid (∀ W, (∃ p v, Bld w.heap.size (w.heap.size + 1) (Lib.byteCells ((A.drop u1).take (u2 - u1))) W p v) → Below w.heap.size w W → w.heap.size + 1 ≤ W.heap.size → Calls Tryz.prog 132 #[.pointer (some ⟨w.heap.size, 0, none⟩), cutV (ad r) l1 l2 N] W fun z W' => (∃ u, z = .returned u) ∧ (∃ p v, Bld w.heap.size (w.heap.size + 1) (Lib.byteCells ((t.drop x).take d)) W' p v) ∧ Below w.heap.size w W' ∧ w.heap.size + 1 ≤ W'.heap.size) := fun W hB hW hs => by
    rw [← hN]
    refine (write_cut hB (by omega) hs h.nil (fun k hk => ⟨h.rlt hk, ((h.below hW).row k hk).2⟩) (lo := l1) (up := l2) (by omega) (by omega) (by simp; omega)).mono ?_
    rintro z W' ⟨q1, q2, q3⟩
    refine ⟨q1, ?_, q3.low (Nat.le_refl _) (by omega) (Nat.le_refl _) hW, Nat.le_trans hs q3.2.2.2.1⟩
    rw [show l2 - l1 = m2 - m1 by omega, ← hpc] at q2
    exact q2
  have cS : Hid (∀ W, (∃ p v, Bld w.heap.size (w.heap.size + 1) (Lib.byteCells ((t.drop x).take d)) W p v) → Below w.heap.size w W → Calls Tryz.prog 90 #[.pointer (some ⟨w.heap.size, 0, none⟩)] W fun z W' => z = .returned (.string ⟨((t.drop x).take d).toArray⟩) ∧ Below w.heap.size w W') := fun W ⟨p', v', hB⟩ hW => by
    have row := row_down hB.row (show w.heap.size ≤ w.heap.size + 1 by omega)
    have hne : v'.ownBlock ≠ some w.heap.size := fun e => by have := hB.far e; omega
    have hbox := hB.box
    have hbl : Lib.IsBuilder 142 5 w.heap.size w.heap.size (Lib.byteCells ((t.drop x).take d)) W := by
      rcases hB.adr with rfl | rfl
      · exact .inl ⟨Nat.le_refl _, v', hbox, row, hne⟩
      · exact .inr ⟨Nat.le_refl _, v', hbox, row, hne⟩
    exact (Tryz.Builder_String_any w.heap.size w.heap.size ((t.drop x).take d) W hbl hW.size).mono fun z W' ⟨q1, q2⟩ => ⟨q1, hW.trans q2⟩
  obtain ⟨st, hst⟩ : ∃ st, (⟨((t.drop x).take d).toArray⟩ : ByteArray) = st := ⟨_, rfl⟩
  rw [hst] at cS ⊢
  obtain ⟨v1, hv1⟩ : ∃ v1, (A.drop u1).take (u2 - u1) = v1 := ⟨_, rfl⟩
  obtain ⟨v2, hv2⟩ : ∃ v2, (t.drop x).take d = v2 := ⟨_, rfl⟩
  rw [hv1] at cW1 cW2
  rw [hv2] at cW2 cS
  have HNN : Hid (A.length = N) := hN
  clear h hg hpc g1 g2 g3 hx hy hA hd hu1 hu2 hgp hm1 hm2 hl1 hl2 hbk hN hst hv1 hv2
  refine callsIn_of_wp_marks Tryz.func97 rfl trivial ?_ rfl
  simp only [Tryz.ntmps97, List.size_toArray, List.length_cons, List.length_nil, Nat.reduceAdd, Nat.reduceSub, Array.replicate_succ, Array.replicate_zero, List.push_toArray, List.append_toArray, List.nil_append, List.cons_append]
  gi_wp2_with (refine ⟨trivial, rfl, ?_⟩; gi_at_call 88; refine (callsIn_wide.2 cG.out).mono ?_; clear cG; rintro z w1 ⟨rfl, B1, L1, S1⟩; have HB1 : Hid ((∃ p v, Bld w.heap.size (w.heap.size + 1) (Lib.byteCells []) w1 p v) ∧ Below w.heap.size w w1 ∧ w.heap.size + 1 ≤ w1.heap.size) := ⟨B1, L1, S1⟩; clear B1 L1 S1; obtain ⟨⟨c0, c1, c2, c3⟩, -⟩ := box4 (HP.out w1 HB1.out.2.1).box; rw [HNN.out] at c0)
  refine region_thenB (by kernel_rfl) (by kernel_rfl) (by kernel_rfl) (by kernel_rfl) rfl rfl ?_
  dsimp only [List.dropLast, List.getLast]
  repeat (gi_big_quiet_step (fail))
  refine wpQuietIn_nil ?_
  intro _ hw'
  obtain ⟨nr, hw''⟩ := hw'
  subst hw''
  gi_wp2_with (refine ⟨trivial, rfl, ?_⟩; gi_at_call 132; refine (callsIn_wide.2 (cW1.out _ (bldN nr HB1.out.1) (belN HB1.out.2.1 nr) HB1.out.2.2)).mono ?_; clear cW1 HB1 c0 c1 c2 c3; rintro z w2 ⟨⟨zu, rfl⟩, B1, L1, S1⟩; have HB2 : Hid ((∃ p v, Bld w.heap.size (w.heap.size + 1) (Lib.byteCells v1) w2 p v) ∧ Below w.heap.size w w2 ∧ w.heap.size + 1 ≤ w2.heap.size) := ⟨B1, L1, S1⟩; clear B1 L1 S1; obtain ⟨⟨c0, c1, c2, c3⟩, -⟩ := box4 (HP.out w2 HB2.out.2.1).box; rw [HNN.out] at c0)
  refine wpIn_region_quiet_lit rfl (by kernel_rfl) (by kernel_rfl) ?_
  repeat (gi_big_quiet_step (fail))
  refine wpQuietIn_nil ?_
  intro _ hw'
  obtain ⟨nq, hw''⟩ := hw'
  subst hw''
  gi_wp2
  refine region_thenB (by kernel_rfl) (by kernel_rfl) (by kernel_rfl) (by kernel_rfl) rfl rfl ?_
  dsimp only [List.dropLast, List.getLast]
  repeat (gi_big_quiet_step (fail))
  refine wpQuietIn_nil ?_
  intro _ hw'
  obtain ⟨ns, hw''⟩ := hw'
  subst hw''
  gi_wp2_with (first | (refine ⟨trivial, rfl, ?_⟩; gi_at_call 132; refine (callsIn_wide.2 (cW2.out _ (bldN _ HB2.out.1) (belN HB2.out.2.1 _) HB2.out.2.2)).mono ?_; clear cW2 HB2 c0 c1 c2 c3; rintro z w3 ⟨⟨zv, rfl⟩, B1, L1, S1⟩) | (refine ⟨trivial, rfl, ?_⟩; gi_at_call 90; refine (callsIn_wide.2 (cS.out _ B1 L1)).mono ?_; rintro z w4 ⟨rfl, hb4⟩))
  exact ⟨.string st, by simp [results, Tryz.results97, go_sem], rfl, hb4⟩
theorem piece_any {b : Nat} {r : Option Nat} {A : List UInt8} {p e l x y : Nat} {t : List UInt8} (w : World) (h : PA w b r A p e l) (hg : Gap A p e t) (hx : x ≤ y) (hy : y ≤ t.length) (hA : A.length ≤ 4294967296) :
    Calls Tryz.prog 97 #[.pointer (some ⟨b, 0, none⟩), .int .i64 x, .int .i64 y] w fun z w' => z = .returned (.string ⟨((t.drop x).take (y - x)).toArray⟩) ∧ Below w.heap.size w w' := callsIn_wide.1 (piece_in w h hg hx hy hA)
end Go.Proofs.YtcjmfoadimpffaaGreatDoor.Gap
namespace Go.Proofs.YtcjmfoadimpffaaGreatDoor.Gap
open Go.RowKit Bod

/-- a text is copied into the array -/
theorem copy_str {w : World} {b : Nat} {r : Option Nat} {A : List UInt8} {p e l : Nat} (h : PA w b r A p e l) {off : Nat} (s : ByteArray) (h1 : off + s.size ≤ A.length) (ty : TypeId) :
    ∃ w1, (∀ k, (Builtin.copy_ #[140, 9] ty #[cutV (ad r) off A.length A.length, .string s]).run Tryz.prog (w.drewN k) = .ok (goInt s.size) (w1.drewN k)) ∧ PA w1 b r (splice A off s.data.toList) p e l ∧ Ch b r w w1 := by
  have hcl : s.data.toList.length = s.size := by rw [Lib.size_eq]
  by_cases hn : s.size = 0
  · have e0 : s.data.toList = [] := List.eq_nil_of_length_eq_zero (by rw [hcl]; exact hn)
    refine ⟨w, fun k => ?_, by rw [e0]; simpa [splice] using h, Ch.refl _ _ _⟩
    unfold cutV sliced
    rw [hn]
    exact Lib.run_copy_empty_string (P := Tryz.prog) _ 140 9 ty 5 _ _ _ s Tryz.underlying140 (by have := infoB; rw [this]; rfl) hn
  · cases r with
    | none => have := h.nil rfl; subst this; rw [List.length_nil] at h1; omega
    | some j =>
      refine ⟨w.setRow j (Lib.byteCells (splice A off s.data.toList)).toArray, fun k => ?_, h.setRow (length_splice _ _ _ (by omega)), Ch.setRow b j w _⟩
      unfold cutV sliced ad
      rw [if_neg (by omega)]
      have hrow := (h.row j rfl).2
      have := Lib.run_copy_row_string (P := Tryz.prog) (w.drewN k) 140 9 ty 5 j off (A.length - off) (A.length - off) s (Lib.byteCells A).toArray 5 Tryz.underlying140 infoB hrow (by omega) (by simp [bc_len]; omega)
      simp only [Option.map_some, adr, Nat.zero_add, Nat.mul_one]
      rw [this, bc_splice, bc_len, hcl]
      simp
      rfl

set_option maxRecDepth 100000 in
set_option maxHeartbeats 4000000 in
theorem exch_in {b : Nat} {r : Option Nat} {A : List UInt8} {p e l q c : Nat} {t : List UInt8} (put : ByteArray) (w : World) (h : PA w b r A p e l) (hg : Gap A p e t) (hq : q + c ≤ t.length) (hn : t.length - c + put.size ≤ l) (hl : l ≤ 1073741824) (hA : A.length ≤ 4294967296) :
    CallsIn .wide 0 Tryz.prog 131 #[.pointer (some ⟨b, 0, none⟩), .int .i64 q, .int .i64 c, .string put] w fun x w' => x = .returned (.tuple #[]) ∧ ∃ r' A' e', PA w' b r' A' (q + put.size) e' l ∧ Gap A' (q + put.size) e' (t.take q ++ put.data.toList ++ t.drop (q + c)) ∧ A'.length ≤ 2 * max (t.length - c + put.size) 64 ∧ (A.length ≤ l → A'.length ≤ l) ∧ Ch b r w w' ∧ Nw w r r' := by
  obtain ⟨n, hn'⟩ : ∃ n, t.length - c + put.size = n := ⟨_, rfl⟩
  rw [hn'] at hn ⊢
  obtain ⟨t1, ht1⟩ : ∃ t1, t.take q ++ t.drop (q + c) = t1 := ⟨_, rfl⟩
  obtain ⟨t2, ht2⟩ : ∃ t2, t.take q ++ put.data.toList ++ t.drop (q + c) = t2 := ⟨_, rfl⟩
  rw [ht2]
  have hl1 : t1.length = t.length - c := by rw [← ht1]; simp; omega
  have hq2 : t1.take q ++ put.data.toList ++ t1.drop q = t2 := by
    have e1 : (t.take q).length = q := by simp; omega
    rw [← ht2, ← ht1, List.take_append_of_le_length (by omega), List.drop_append_of_le_length (by omega), List.drop_of_length_le (by omega), List.take_of_length_le (by omega)]
    rfl
  have CS : Hid (Calls Tryz.prog 162 #[.pointer (some ⟨b, 0, none⟩), .int .i64 q] w fun x w' => x = .returned (.tuple #[]) ∧ ∃ A' e', PA w' b r A' q e' l ∧ Gap A' q e' t ∧ A'.length = A.length ∧ Ch b r w w') := shift_any w h hg (by omega) hA
  have HT : Hid (q + c ≤ t.length ∧ t1.length + put.size = n ∧ n ≤ l ∧ l ≤ 1073741824 ∧ A.length ≤ 4294967296 ∧ t1.length = t.length - c ∧ t.take q ++ t.drop (q + c) = t1 ∧ t1.take q ++ put.data.toList ++ t1.drop q = t2) := ⟨hq, by omega, hn, hl, hA, hl1, ht1, hq2⟩
  obtain ⟨n0, hn0⟩ : ∃ n0, t1.length = n0 := ⟨_, rfl⟩
  have k4 : IntKind.i64.wrap ((n0 : Int) + put.size) = n := by rw [IntKind.wrap_i64]; omega
  have k5 : IntKind.i64.wrap ((q : Int) + put.size) = (q + put.size : Nat) := by rw [IntKind.wrap_i64]; omega
  have HN0 : Hid (t1.length = n0) := hn0
  clear h hg hq hn hl hA hn' ht1 ht2 hl1 hq2 hn0
  refine callsIn_of_wp_marks Tryz.func131 rfl trivial ?_ rfl
  simp only [Tryz.ntmps131, List.size_toArray, List.length_cons, List.length_nil, Nat.reduceAdd, Nat.reduceSub, Array.replicate_succ, Array.replicate_zero, List.push_toArray, List.append_toArray, List.nil_append, List.cons_append]
  gi_wp2_with (first
    | (refine ⟨trivial, rfl, ?_⟩; gi_at_call 162; refine (callsIn_wide.2 CS.out).mono ?_; clear CS; rintro x w1 ⟨rfl, A1, e1, P1, G1, L1, C1⟩; have HQ : Hid (PA w1 b r A1 q e1 l ∧ Gap A1 q e1 t ∧ A1.length = A.length ∧ Ch b r w w1) := ⟨P1, G1, L1, C1⟩; obtain ⟨⟨-, -, u2, -⟩, -, -, v2, -⟩ := box4 P1.box; obtain ⟨e2, he2⟩ : ∃ e2, e1 + c = e2 := ⟨_, rfl⟩; have HE2 : Hid (e1 + c = e2 ∧ e2 ≤ A1.length) := (by obtain ⟨a1, a2, a3, a4, a5, a6, -⟩ := HT.out; have := G1.len; have := G1.eA; exact ⟨he2, by omega⟩); have k6 : IntKind.i64.wrap ((e1 : Int) + c) = e2 := (by obtain ⟨a1, a2, a3, a4, a5, a6, -⟩ := HT.out; have := HE2.out; rw [IntKind.wrap_i64]; omega); clear P1 G1 L1 C1 he2)
    | (refine ⟨trivial, rfl, ?_⟩; gi_at_call 98; refine (callsIn_wide.2 (len_any _ (HQ.out.1.setE e2) (by have := HQ.out.2.1.pe; have := HE2.out; omega) HE2.out.2 (by obtain ⟨a1, a2, a3, a4, a5, a6, -⟩ := HT.out; have := HQ.out.2.2.1; omega))).mono ?_; rw [show q + (A1.length - e2) = n0 from by obtain ⟨a1, a2, a3, a4, a5, a6, -⟩ := HT.out; have := HE2.out; have := HN0.out; have := HQ.out.2.1.len; omega]; rintro x w2 ⟨rfl, k2, rfl⟩)
    | (refine ⟨trivial, rfl, ?_⟩; gi_at_call 163; refine (callsIn_wide.2 (room_any _ ((HQ.out.1.setE e2).drewN k2) (t := t1) (by obtain ⟨a1, a2, a3, a4, a5, a6, a7, -⟩ := HT.out; rw [← a7, ← HE2.out.1]; exact HQ.out.2.1.cut (by rw [HE2.out.1]; exact HE2.out.2)) (n := n) (by obtain ⟨a1, a2, a3, a4, a5, a6, -⟩ := HT.out; omega) HT.out.2.2.1 HT.out.2.2.2.1 (by obtain ⟨a1, a2, a3, a4, a5, a6, -⟩ := HT.out; have := HQ.out.2.2.1; omega))).mono ?_; rintro x w3 ⟨rfl, r3, A3, e3, P3, G3, L3, M3, J3, C3, N3⟩))
  obtain ⟨⟨c0, c1, c2, c3⟩, f0, f1, f2, f3⟩ := box4 P3.box
  have hgl := G3.len
  have hge := G3.eA
  have hgp := G3.pe
  have hfit : q + put.size ≤ e3 := by obtain ⟨a1, a2, a3, a4, a5, a6, -⟩ := HT.out; omega
  obtain ⟨w4, hrun, P4, C4⟩ := copy_str P3 (off := q) put (by omega) 3
  obtain ⟨⟨d0, d1, d2, d3⟩, g0, g1, g2, g3⟩ := box4 P4.box
  have hcl : put.data.toList.length = put.size := by rw [Lib.size_eq]
  have hl4 : (splice A3 q put.data.toList).length = A3.length := length_splice _ _ _ (by omega)
  have HX : Hid ((∀ k, (Builtin.copy_ #[140, 9] 3 #[cutV (ad r3) q A3.length A3.length, .string put]).run Tryz.prog (w3.drewN k) = .ok (goInt put.size) (w4.drewN k)) ∧ PA w4 b r3 (splice A3 q put.data.toList) q e3 l ∧ Ch b r w w4 ∧ Nw w r r3 ∧ Gap (splice A3 q put.data.toList) (q + put.size) e3 t2 ∧ (splice A3 q put.data.toList).length ≤ 2 * max n 64 ∧ (A.length ≤ l → (splice A3 q put.data.toList).length ≤ l)) := by
    have x0 : Ch b r w ((w1.setCell ⟨b, 2, none⟩ (.int .i64 e2)).drewN k2) := (HQ.out.2.2.2.trans (Nw.refl _ _) (Ch.set b r w1 2 _)).trans (Nw.refl _ _) (Ch.drewN b r _ k2)
    have x1 : Nw w r r3 := (Nw.refl w r).trans x0.2.2.2.1 N3
    refine ⟨hrun, P4, (x0.trans (Nw.refl _ _) C3).trans x1 C4, x1, ?_, by rw [hl4]; exact M3, fun hl => by rw [hl4]; exact J3 (by rw [HQ.out.2.2.1]; exact hl)⟩
    have := G3.put (x := put.data.toList) (by omega)
    rw [hcl, HT.out.2.2.2.2.2.2.2] at this
    exact this
  rw [hl4] at d0
  obtain ⟨N, hN⟩ : ∃ N, A3.length = N := ⟨_, rfl⟩
  have HNN : Hid (A3.length = N) := hN
  rw [hN] at c0 d0
  have s1 : ∀ W, (Instr.sliceAt 140 (.slice (ad r3) N N) (some (.int .i64 q)) none none).run Tryz.prog W = .ok (cutV (ad r3) q N N) W := fun W => run_cut _ N q (by omega) W
  obtain ⟨W, hW0, hW1⟩ : ∃ W : Bool → World, W false = w3 ∧ W true = w4 := ⟨fun s => if s then w4 else w3, rfl, rfl⟩
  obtain ⟨U, hU, hU'⟩ := both W
  have C0 : ∀ m, (U m).cell? ⟨b, 0, none⟩ = some (.slice (ad r3) N N) := fun m => by obtain ⟨s, k, hm⟩ := hU' m; rw [hm]; cases s <;> simp [hW0, hW1, c0, d0]
  have C1 : ∀ m, (U m).cell? ⟨b, 1, none⟩ = some (.int .i64 q) := fun m => by obtain ⟨s, k, hm⟩ := hU' m; rw [hm]; cases s <;> simp [hW0, hW1, c1, d1]
  have HU : Hid (∀ s k, ∃ m, (W s).drewN k = U m) := hU
  have HW : Hid (W true = w4) := hW1
  have HW0 : Hid (W false = w3) := hW0
  clear P3 G3 L3 M3 J3 C3 N3 hrun P4 C4 hl4 hW0 hW1 hU hU' hgl hge hgp hfit hN hcl HQ HE2 k6 k4 u2 v2 HT HN0
  refine region_mid W HW0.out U HU.out 14 rfl (fun _ => trivial) (by kernel_rfl) (by kernel_rfl) (by kernel_rfl) (by kernel_rfl) rfl rfl rfl ?_
  dsimp only [List.dropLast, List.take, List.drop]
  repeat (gi_big_quiet_step (fail))
  refine wpQuietIn_nil ?_
  refine ⟨.int .i64 put.size, fun k => ?_, ?_⟩
  · rw [HW0.out, HW.out]
    refine exec_copy (.tmp 38) (.tmp 39) 140 9 rfl _ _ rfl rfl ?_
    have := HX.out.1 k
    rw [HNN.out] at this
    exact this
  simp only [Act.put, List.setIfInBounds_toArray, List.set_cons_succ, List.set_cons_zero]
  repeat (gi_big_quiet_step (fail))
  refine wpQuietIn_nil ?_
  intro k
  rw [HW.out]
  gi_wp2
  obtain ⟨_, x1, x2, x3, x4, x5, x6⟩ := HX.out
  refine ⟨.tuple #[], by simp [results, Tryz.results131, go_sem], rfl, r3, _, e3, (x1.drewN k).setP _, x4, x5, x6, ?_, x3⟩
  exact (x2.trans x3 (Ch.drewN b r3 w4 k)).trans x3 (Ch.set b r3 _ 1 _)
theorem exch_any {b : Nat} {r : Option Nat} {A : List UInt8} {p e l q c : Nat} {t : List UInt8} (put : ByteArray) (w : World) (h : PA w b r A p e l) (hg : Gap A p e t) (hq : q + c ≤ t.length) (hn : t.length - c + put.size ≤ l) (hl : l ≤ 1073741824) (hA : A.length ≤ 4294967296) :
    Calls Tryz.prog 131 #[.pointer (some ⟨b, 0, none⟩), .int .i64 q, .int .i64 c, .string put] w fun x w' => x = .returned (.tuple #[]) ∧ ∃ r' A' e', PA w' b r' A' (q + put.size) e' l ∧ Gap A' (q + put.size) e' (t.take q ++ put.data.toList ++ t.drop (q + c)) ∧ A'.length ≤ 2 * max (t.length - c + put.size) 64 ∧ (A.length ≤ l → A'.length ≤ l) ∧ Ch b r w w' ∧ Nw w r r' :=
  callsIn_wide.1 (exch_in put w h hg hq hn hl hA)
end Go.Proofs.YtcjmfoadimpffaaGreatDoor.Gap
namespace Go.Proofs.YtcjmfoadimpffaaGreatDoor.Gap
open Go.RowKit Bod

theorem ext_list (s : ByteArray) (x y : Nat) : s.extract x y = ⟨((s.data.toList.drop x).take (y - x)).toArray⟩ := by
  apply ByteArray.ext
  apply Array.toList_inj.1
  simp [Array.toList_extract, List.extract_eq_take_drop]
theorem sz_list (s : ByteArray) : s.data.toList.length = s.size := by rw [Lib.size_eq]
/-- the empty buffer with the limit 0 -/
def g0 : Gp := ⟨eBA, 0, 0⟩
theorem g0_ok : g0.ok := ⟨Nat.le_refl _, Nat.le_refl _, by decide⟩
/-- the block b is the buffer g, with the capacity n -/
structure PB (W : World) (b : Nat) (r : Option Nat) (g : Gp) (n : Nat) : Prop where
  ex : ∃ A e, PA W b r A g.p e g.l ∧ Gap A g.p e g.s.data.toList ∧ A.length = n
  cap : n ≤ 2 * max g.s.size 64
  lm : n ≤ g.l
  ok : g.ok
theorem PB.lt {W : World} {b : Nat} {r : Option Nat} {g : Gp} {n : Nat} (h : PB W b r g n) : b < W.heap.size := by
  obtain ⟨A, e, h1, _⟩ := h.ex
  exact h1.lt
theorem PB.small {W : World} {b : Nat} {r : Option Nat} {g : Gp} {n : Nat} (h : PB W b r g n) : n ≤ 4294967296 := by
  have := h.cap; have := h.ok.2; omega
theorem PB.full {W : World} {b : Nat} {r : Option Nat} {g : Gp} {n : Nat} (h : PB W b r g n) : g.s.size ≤ n := by
  obtain ⟨A, e, _, h2, h3⟩ := h.ex
  have := h2.pe; have := h2.eA
  have h4 := h2.len
  rw [sz_list] at h4
  omega
theorem PB.below {W W' : World} {b : Nat} {r : Option Nat} {g : Gp} {n : Nat} (h : PB W b r g n) (hb : Below W.heap.size W W') : PB W' b r g n :=
  ⟨h.ex.imp fun _ h => h.imp fun _ h => ⟨h.1.below hb, h.2⟩, h.cap, h.lm, h.ok⟩
theorem PB.kept {W W' : World} {b b' : Nat} {r r' : Option Nat} {g : Gp} {n : Nat} (h : PB W b r g n) (hc : Ch b' r' W W') (h1 : b ≠ b') (h2 : r' ≠ some b) (h3 : ∀ k, r = some k → k ≠ b' ∧ r' ≠ some k) : PB W' b r g n :=
  ⟨h.ex.imp fun _ h => h.imp fun _ h => ⟨h.1.kept hc h1 h2 h3, h.2⟩, h.cap, h.lm, h.ok⟩
theorem PB.row {W : World} {b : Nat} {r : Option Nat} {g : Gp} {n : Nat} (h : PB W b r g n) {k : Nat} (hk : r = some k) : k ≠ b ∧ k < W.heap.size := by
  obtain ⟨A, e, h1, _⟩ := h.ex
  exact ⟨(h1.row k hk).1, h1.rlt hk⟩
/-- the value v is the buffer g, with the capacity n: a block and its row, or none -/
def Is (W : World) (v : Value) : Option (Nat × Option Nat) → Gp → Nat → Prop
  | none, g, n => v = .pointer none ∧ g = g0 ∧ n = 0
  | some (b, r), g, n => v = .pointer (some ⟨b, 0, none⟩) ∧ PB W b r g n
def Chs : Option (Nat × Option Nat) → World → World → Prop
  | none, w, w' => Below w.heap.size w w'
  | some (b, r), w, w' => Ch b r w w'
def Nws (w : World) : Option (Nat × Option Nat) → Option (Nat × Option Nat) → Prop
  | none, o2 => o2 = none
  | some (b, r), o2 => ∃ r2, o2 = some (b, r2) ∧ Nw w r r2
theorem Is.ok {W : World} {v : Value} {o : Option (Nat × Option Nat)} {g : Gp} {n : Nat} (h : Is W v o g n) : g.ok := by
  cases o with
  | none => obtain ⟨_, rfl, _⟩ := h; exact g0_ok
  | some x => exact h.2.ok
theorem Is.below {W W' : World} {v : Value} {o : Option (Nat × Option Nat)} {g : Gp} {n : Nat} (h : Is W v o g n) (hb : Below W.heap.size W W') : Is W' v o g n := by
  cases o with
  | none => exact h
  | some x => exact ⟨h.1, h.2.below hb⟩
theorem Chs.below {o : Option (Nat × Option Nat)} {w w' : World} (h : Below w.heap.size w w') : Chs o w w' := by
  cases o with
  | none => exact h
  | some x => exact Ch.below h
theorem Nws.refl (w : World) (o : Option (Nat × Option Nat)) : Nws w o o := by
  cases o with
  | none => rfl
  | some x => exact ⟨_, rfl, .inl rfl⟩
/-- what the call of orEmpty leaves -/
structure Od (w : World) (v : Value) (o : Option (Nat × Option Nat)) (g : Gp) (n : Nat) (b : Nat) (r : Option Nat) (w1 : World) : Prop where
  pb : PB w1 b r g n
  bel : Below w.heap.size w w1
  fin : ∀ w2 r2 g2 n2, Ch b r w1 w2 → Nw w1 r r2 → PB w2 b r2 g2 n2 → (g = g0 → g2 = g0) → ∃ o2, Is w2 v o2 g2 n2 ∧ Chs o w w2 ∧ Nws w o o2

set_option maxRecDepth 100000 in
set_option maxHeartbeats 1000000 in
theorem ore_is {w : World} {v : Value} {o : Option (Nat × Option Nat)} {g : Gp} {n : Nat} (h : Is w v o g n) :
    Calls Tryz.prog 96 #[v] w fun x w1 => ∃ b r, x = .returned (.pointer (some ⟨b, 0, none⟩)) ∧ Od w v o g n b r w1 := by
  cases o with
  | some x =>
    obtain ⟨b, r⟩ := x
    obtain ⟨rfl, h2⟩ := h
    exact (ore_any b w).mono fun x w1 ⟨e1, e2⟩ => ⟨b, r, e1, by rw [e2]; exact h2, by rw [e2]; exact Below.refl _ _, fun w2 r2 g2 n2 q1 q2 q3 _ => ⟨some (b, r2), ⟨rfl, q3⟩, by rw [e2] at q1; exact q1, ⟨r2, rfl, by rw [e2] at q2; exact q2⟩⟩⟩
  | none =>
    obtain ⟨rfl, rfl, rfl⟩ := h
    have hnew : (w.alloc (.cells #[.slice none 0 0, .int .i64 0, .int .i64 0, .int .i64 0] 154)).heap[w.heap.size]? = some (.cells #[.slice none 0 0, .int .i64 0, .int .i64 0, .int .i64 0] 154 (0, 0)) := World.alloc_heap_new w _
    have hB : Below w.heap.size w (w.alloc (.cells #[.slice none 0 0, .int .i64 0, .int .i64 0, .int .i64 0] 154)) := (Below.refl _ w).alloc (Nat.le_refl _) _
    have HO : Hid (Od w (.pointer none) none g0 0 w.heap.size none (w.alloc (.cells #[.slice none 0 0, .int .i64 0, .int .i64 0, .int .i64 0] 154))) := by
      refine ⟨⟨⟨[], 0, ⟨hnew, fun k hk => (by cases hk), fun _ => rfl⟩, ⟨Nat.le_refl _, Nat.le_refl _, rfl⟩, rfl⟩, by decide, Nat.le_refl _, g0_ok⟩, hB, fun w2 r2 g2 n2 q1 q2 q3 q4 => ?_⟩
      obtain rfl := q4 rfl
      refine ⟨none, ⟨rfl, rfl, Nat.le_zero.1 q3.lm⟩, ?_, rfl⟩
      have hs : w.heap.size ≤ (w.alloc (.cells #[.slice none 0 0, .int .i64 0, .int .i64 0, .int .i64 0] 154)).heap.size := hB.size
      exact ⟨q1.1.trans hB.os, q1.2.1.trans hB.tape, q1.2.2.1.trans hB.output, Nat.le_trans hs q1.2.2.2.1, fun k hk => by
        rw [q1.2.2.2.2 k (by omega) (by omega) (fun e => by cases e)]
        exact hB.block k hk⟩
    clear hnew hB
    go_enter Tryz.func96, Tryz.ntmps96
    go_wp2
    go_ret
    exact ⟨_, _, rfl, HO.out⟩

set_option maxRecDepth 100000 in
set_option maxHeartbeats 1000000 in
theorem len_is {w : World} {v : Value} {o : Option (Nat × Option Nat)} {g : Gp} {n : Nat} (h : Is w v o g n) :
    Calls Tryz.prog 98 #[v] w fun x w' => x = .returned (.int .i64 g.s.size) ∧ Below w.heap.size w w' := by
  have CO := ore_is h
  clear h
  go_enter Tryz.func98, Tryz.ntmps98
  go_wp2_with (go_at_call 96; refine CO.mono ?_; clear CO; rintro x w1 ⟨b, r, rfl, hO⟩; have HO : Hid (Od w v o g n b r w1) := hO; obtain ⟨A, e, hP, hg, hA⟩ := hO.pb.ex; obtain ⟨⟨c0, c1, c2, c3⟩, -⟩ := box4 hP.box; rw [hA] at c0; have k1 : IntKind.i64.wrap ((g.p : Int) + n) = (g.p : Int) + n := (by have := hO.pb.small; have := hO.pb.ok.1; have := hO.pb.ok.2; rw [IntKind.wrap_i64]; omega); have HF : Hid ((g.p : Int) + n - e = g.s.size) := (show _ = _ by have h1 := hg.len; have h2 := hg.eA; rw [sz_list] at h1; omega); have k2 : IntKind.i64.wrap ((g.p : Int) + n - e) = (g.p : Int) + n - e := (by have := HF.out; have := hO.pb.ok.2; rw [IntKind.wrap_i64]; omega); clear hO hP hg hA)
  go_quiet (fail)
  go_wp2
  go_ret
  exact ⟨ret_int HF.out, belN HO.out.bel _⟩



set_option maxRecDepth 100000 in
set_option maxHeartbeats 1000000 in
theorem limit_is {w : World} {v : Value} {o : Option (Nat × Option Nat)} {g : Gp} {n : Nat} (h : Is w v o g n) :
    Calls Tryz.prog 72 #[v] w fun x w' => x = .returned (.int .i64 g.l) ∧ Below w.heap.size w w' := by
  have CO := ore_is h
  clear h
  go_enter Tryz.func72, Tryz.ntmps72
  go_wp2_with (go_at_call 96; refine CO.mono ?_; clear CO; rintro x w1 ⟨b, r, rfl, hO⟩; have HO : Hid (Od w v o g n b r w1) := hO; obtain ⟨A, e, hP, hg, hA⟩ := hO.pb.ex; obtain ⟨⟨c0, c1, c2, c3⟩, -⟩ := box4 hP.box; clear hO hP hg hA)
  go_ret
  exact ⟨rfl, HO.out.bel⟩

theorem len_pb {w : World} {b : Nat} {r : Option Nat} {g : Gp} {n : Nat} (h : PB w b r g n) :
    Calls Tryz.prog 98 #[.pointer (some ⟨b, 0, none⟩)] w fun x w' => x = .returned (.int .i64 g.s.size) ∧ ∃ k, w' = w.drewN k := by
  obtain ⟨A, e, hP, hg, hA⟩ := h.ex
  have h1 := hg.len
  rw [sz_list] at h1
  have := len_any w hP hg.pe hg.eA (by rw [hA]; exact h.small)
  rw [← h1] at this
  exact this

set_option maxRecDepth 100000 in
set_option maxHeartbeats 1000000 in
theorem fits_pb {w : World} {b : Nat} {r : Option Nat} {g : Gp} {n : Nat} (h : PB w b r g n) (c : Nat) (hc : c ≤ g.s.size) (put : ByteArray) :
    Calls Tryz.prog 130 #[.pointer (some ⟨b, 0, none⟩), .int .i64 c, .string put] w fun x w' => x = .returned (.bool (decide (g.s.size - c + put.size ≤ g.l))) ∧ ∃ k, w' = w.drewN k := by
  obtain ⟨A, e, hP, hg, hA⟩ := h.ex
  obtain ⟨⟨c0, c1, c2, c3⟩, -⟩ := box4 hP.box
  obtain ⟨o1, o2, o3⟩ := h.ok
  obtain ⟨z, hz⟩ : ∃ z, g.s.size - c = z := ⟨_, rfl⟩
  obtain ⟨y, hy⟩ : ∃ y, g.l - z = y := ⟨_, rfl⟩
  have k1 : IntKind.i64.wrap ((g.s.size : Int) - c) = z := by rw [IntKind.wrap_i64]; omega
  have k2 : IntKind.i64.wrap ((g.l : Int) - z) = y := by rw [IntKind.wrap_i64]; omega
  have HF : Hid (decide (put.size ≤ y) = decide (g.s.size - c + put.size ≤ g.l)) := by
    show _ = _
    rw [decide_eq_decide]
    omega
  have hL : ∀ k, Calls Tryz.prog 98 #[.pointer (some ⟨b, 0, none⟩)] (w.drewN k) fun x w' => x = .returned (.int .i64 g.s.size) ∧ ∃ k, w' = w.drewN k := fun k => by
    have hk : PB (w.drewN k) b r g n := ⟨h.ex.imp fun _ h => h.imp fun _ h => ⟨h.1.drewN k, h.2⟩, h.cap, h.lm, h.ok⟩
    exact (len_pb hk).mono fun x w' ⟨e1, j, e2⟩ => ⟨e1, k + j, by rw [e2]; simp⟩
  have HL : Hid (∀ k, Calls Tryz.prog 98 #[.pointer (some ⟨b, 0, none⟩)] (w.drewN k) fun x w' => x = .returned (.int .i64 g.s.size) ∧ ∃ k, w' = w.drewN k) := hL
  clear h hP hg hA hz hy hL o1 o2 o3
  go_enter Tryz.func130, Tryz.ntmps130
  go_wp2
  go_quiet ((go_at_call 98; exact HL.out _))
  go_wp2
  go_ret
  exact ⟨ret_bool HF.out, ⟨_, rfl⟩⟩
end Go.Proofs.YtcjmfoadimpffaaGreatDoor.Gap