/-
  What package gap's exchange does: a text comes in the place of some bytes, and the gap lies behind it; the capacity is lawful. Conditions: the bytes that go are in the text, and the text that comes of it is not longer than the limit.
-/
import Derived.Test.YtgagpmeknpjkpaaGreatDoorGRoom
namespace Go.Proofs.YtgagpmeknpjkpaaGreatDoor
open Go.RowKit Bod

/-- a text is copied into the array -/
theorem copy_str {w : World} {b : Nat} {r : Option Nat} {A : List UInt8} {p e l : Nat} (h : PA w b r A p e l) {off : Nat} (s : ByteArray) (h1 : off + s.size ≤ A.length) (ty : TypeId) :
    ∃ w1, (∀ k, (Builtin.copy_ #[39, 9] ty #[cutV (ad r) off A.length A.length, .string s]).run Tryz.prog (w.drewN k) = .ok (goInt s.size) (w1.drewN k)) ∧ PA w1 b r (splice A off s.data.toList) p e l ∧ Ch b r w w1 := by
  have hcl : s.data.toList.length = s.size := by rw [Lib.size_eq]
  by_cases hn : s.size = 0
  · have e0 : s.data.toList = [] := List.eq_nil_of_length_eq_zero (by rw [hcl]; exact hn)
    refine ⟨w, fun k => ?_, by rw [e0]; simpa [splice] using h, Ch.refl _ _ _⟩
    unfold cutV sliced
    rw [hn]
    exact Lib.run_copy_empty_string (P := Tryz.prog) _ 39 9 ty 5 _ _ _ s Tryz.underlying39 (by have := infoB; rw [this]; rfl) hn
  · cases r with
    | none => have := h.nil rfl; subst this; rw [List.length_nil] at h1; omega
    | some j =>
      refine ⟨w.setRow j (Lib.byteCells (splice A off s.data.toList)).toArray, fun k => ?_, h.setRow (length_splice _ _ _ (by omega)), Ch.setRow b j w _⟩
      unfold cutV sliced ad
      rw [if_neg (by omega)]
      have hrow := (h.row j rfl).2
      have := Lib.run_copy_row_string (P := Tryz.prog) (w.drewN k) 39 9 ty 5 j off (A.length - off) (A.length - off) s (Lib.byteCells A).toArray 5 Tryz.underlying39 infoB hrow (by omega) (by simp [bc_len]; omega)
      simp only [Option.map_some, adr, Nat.zero_add, Nat.mul_one]
      rw [this, bc_splice, bc_len, hcl]
      simp
      rfl

set_option maxRecDepth 100000 in
set_option maxHeartbeats 4000000 in
theorem exch_in {b : Nat} {r : Option Nat} {A : List UInt8} {p e l q c : Nat} {t : List UInt8} (put : ByteArray) (w : World) (h : PA w b r A p e l) (hg : Gap A p e t) (hq : q + c ≤ t.length) (hn : t.length - c + put.size ≤ l) (hl : l ≤ 1073741824) (hA : A.length ≤ 4294967296) :
    CallsIn .wide 0 Tryz.prog 48 #[.pointer (some ⟨b, 0, none⟩), .int .i64 q, .int .i64 c, .string put] w fun x w' => x = .returned (.tuple #[]) ∧ ∃ r' A' e', PA w' b r' A' (q + put.size) e' l ∧ Gap A' (q + put.size) e' (t.take q ++ put.data.toList ++ t.drop (q + c)) ∧ A'.length ≤ 2 * max (t.length - c + put.size) 64 ∧ (A.length ≤ l → A'.length ≤ l) ∧ Ch b r w w' ∧ Nw w r r' := by
  obtain ⟨n, hn'⟩ : ∃ n, t.length - c + put.size = n := ⟨_, rfl⟩
  rw [hn'] at hn ⊢
  obtain ⟨t1, ht1⟩ : ∃ t1, t.take q ++ t.drop (q + c) = t1 := ⟨_, rfl⟩
  obtain ⟨t2, ht2⟩ : ∃ t2, t.take q ++ put.data.toList ++ t.drop (q + c) = t2 := ⟨_, rfl⟩
  rw [ht2]
  have hl1 : t1.length = t.length - c := by rw [← ht1]; simp; omega
  have hq2 : t1.take q ++ put.data.toList ++ t1.drop q = t2 := by
    have e1 : (t.take q).length = q := by simp; omega
    rw [← ht2, ← ht1, List.take_append_of_le_length (by omega), List.drop_append_of_le_length (by omega), List.drop_of_length_le (by omega), List.take_of_length_le (by omega)]
    rfl
  have CS : Hid (Calls Tryz.prog 49 #[.pointer (some ⟨b, 0, none⟩), .int .i64 q] w fun x w' => x = .returned (.tuple #[]) ∧ ∃ A' e', PA w' b r A' q e' l ∧ Gap A' q e' t ∧ A'.length = A.length ∧ Ch b r w w') := shift_any w h hg (by omega) hA
  have HT : Hid (q + c ≤ t.length ∧ t1.length + put.size = n ∧ n ≤ l ∧ l ≤ 1073741824 ∧ A.length ≤ 4294967296 ∧ t1.length = t.length - c ∧ t.take q ++ t.drop (q + c) = t1 ∧ t1.take q ++ put.data.toList ++ t1.drop q = t2) := ⟨hq, by omega, hn, hl, hA, hl1, ht1, hq2⟩
  obtain ⟨n0, hn0⟩ : ∃ n0, t1.length = n0 := ⟨_, rfl⟩
  have k4 : IntKind.i64.wrap ((n0 : Int) + put.size) = n := by rw [IntKind.wrap_i64]; omega
  have k5 : IntKind.i64.wrap ((q : Int) + put.size) = (q + put.size : Nat) := by rw [IntKind.wrap_i64]; omega
  have HN0 : Hid (t1.length = n0) := hn0
  clear h hg hq hn hl hA hn' ht1 ht2 hl1 hq2 hn0
  refine callsIn_of_wp_marks Tryz.func48 rfl trivial ?_ rfl
  simp only [Tryz.ntmps48, List.size_toArray, List.length_cons, List.length_nil, Nat.reduceAdd, Nat.reduceSub, Array.replicate_succ, Array.replicate_zero, List.push_toArray, List.append_toArray, List.nil_append, List.cons_append]
  gi_wp2_with (first
    | (refine ⟨trivial, rfl, ?_⟩; gi_at_call 49; refine (callsIn_wide.2 CS.out).mono ?_; clear CS; rintro x w1 ⟨rfl, A1, e1, P1, G1, L1, C1⟩; have HQ : Hid (PA w1 b r A1 q e1 l ∧ Gap A1 q e1 t ∧ A1.length = A.length ∧ Ch b r w w1) := ⟨P1, G1, L1, C1⟩; obtain ⟨⟨-, -, u2, -⟩, -, -, v2, -⟩ := box4 P1.box; obtain ⟨e2, he2⟩ : ∃ e2, e1 + c = e2 := ⟨_, rfl⟩; have HE2 : Hid (e1 + c = e2 ∧ e2 ≤ A1.length) := (by obtain ⟨a1, a2, a3, a4, a5, a6, -⟩ := HT.out; have := G1.len; have := G1.eA; exact ⟨he2, by omega⟩); have k6 : IntKind.i64.wrap ((e1 : Int) + c) = e2 := (by obtain ⟨a1, a2, a3, a4, a5, a6, -⟩ := HT.out; have := HE2.out; rw [IntKind.wrap_i64]; omega); clear P1 G1 L1 C1 he2)
    | (refine ⟨trivial, rfl, ?_⟩; gi_at_call 15; refine (callsIn_wide.2 (len_any _ (HQ.out.1.setE e2) (by have := HQ.out.2.1.pe; have := HE2.out; omega) HE2.out.2 (by obtain ⟨a1, a2, a3, a4, a5, a6, -⟩ := HT.out; have := HQ.out.2.2.1; omega))).mono ?_; rw [show q + (A1.length - e2) = n0 from by obtain ⟨a1, a2, a3, a4, a5, a6, -⟩ := HT.out; have := HE2.out; have := HN0.out; have := HQ.out.2.1.len; omega]; rintro x w2 ⟨rfl, k2, rfl⟩)
    | (refine ⟨trivial, rfl, ?_⟩; gi_at_call 64; refine (callsIn_wide.2 (room_any _ ((HQ.out.1.setE e2).drewN k2) (t := t1) (by obtain ⟨a1, a2, a3, a4, a5, a6, a7, -⟩ := HT.out; rw [← a7, ← HE2.out.1]; exact HQ.out.2.1.cut (by rw [HE2.out.1]; exact HE2.out.2)) (n := n) (by obtain ⟨a1, a2, a3, a4, a5, a6, -⟩ := HT.out; omega) HT.out.2.2.1 HT.out.2.2.2.1 (by obtain ⟨a1, a2, a3, a4, a5, a6, -⟩ := HT.out; have := HQ.out.2.2.1; omega))).mono ?_; rintro x w3 ⟨rfl, r3, A3, e3, P3, G3, L3, M3, J3, C3, N3⟩))
  obtain ⟨⟨c0, c1, c2, c3⟩, f0, f1, f2, f3⟩ := box4 P3.box
  have hgl := G3.len
  have hge := G3.eA
  have hgp := G3.pe
  have hfit : q + put.size ≤ e3 := by obtain ⟨a1, a2, a3, a4, a5, a6, -⟩ := HT.out; omega
  obtain ⟨w4, hrun, P4, C4⟩ := copy_str P3 (off := q) put (by omega) 3
  obtain ⟨⟨d0, d1, d2, d3⟩, g0, g1, g2, g3⟩ := box4 P4.box
  have hcl : put.data.toList.length = put.size := by rw [Lib.size_eq]
  have hl4 : (splice A3 q put.data.toList).length = A3.length := length_splice _ _ _ (by omega)
  have HX : Hid ((∀ k, (Builtin.copy_ #[39, 9] 3 #[cutV (ad r3) q A3.length A3.length, .string put]).run Tryz.prog (w3.drewN k) = .ok (goInt put.size) (w4.drewN k)) ∧ PA w4 b r3 (splice A3 q put.data.toList) q e3 l ∧ Ch b r w w4 ∧ Nw w r r3 ∧ Gap (splice A3 q put.data.toList) (q + put.size) e3 t2 ∧ (splice A3 q put.data.toList).length ≤ 2 * max n 64 ∧ (A.length ≤ l → (splice A3 q put.data.toList).length ≤ l)) := by
    have x0 : Ch b r w ((w1.setCell ⟨b, 2, none⟩ (.int .i64 e2)).drewN k2) := (HQ.out.2.2.2.trans (Nw.refl _ _) (Ch.set b r w1 2 _)).trans (Nw.refl _ _) (Ch.drewN b r _ k2)
    have x1 : Nw w r r3 := (Nw.refl w r).trans x0.2.2.2.1 N3
    refine ⟨hrun, P4, (x0.trans (Nw.refl _ _) C3).trans x1 C4, x1, ?_, by rw [hl4]; exact M3, fun hl => by rw [hl4]; exact J3 (by rw [HQ.out.2.2.1]; exact hl)⟩
    have := G3.put (x := put.data.toList) (by omega)
    rw [hcl, HT.out.2.2.2.2.2.2.2] at this
    exact this
  rw [hl4] at d0
  obtain ⟨N, hN⟩ : ∃ N, A3.length = N := ⟨_, rfl⟩
  have HNN : Hid (A3.length = N) := hN
  rw [hN] at c0 d0
  have s1 : ∀ W, (Instr.sliceAt 39 (.slice (ad r3) N N) (some (.int .i64 q)) none none).run Tryz.prog W = .ok (cutV (ad r3) q N N) W := fun W => run_cut _ N q (by omega) W
  obtain ⟨W, hW0, hW1⟩ : ∃ W : Bool → World, W false = w3 ∧ W true = w4 := ⟨fun s => if s then w4 else w3, rfl, rfl⟩
  obtain ⟨U, hU, hU'⟩ := both W
  have C0 : ∀ m, (U m).cell? ⟨b, 0, none⟩ = some (.slice (ad r3) N N) := fun m => by obtain ⟨s, k, hm⟩ := hU' m; rw [hm]; cases s <;> simp [hW0, hW1, c0, d0]
  have C1 : ∀ m, (U m).cell? ⟨b, 1, none⟩ = some (.int .i64 q) := fun m => by obtain ⟨s, k, hm⟩ := hU' m; rw [hm]; cases s <;> simp [hW0, hW1, c1, d1]
  have HU : Hid (∀ s k, ∃ m, (W s).drewN k = U m) := hU
  have HW : Hid (W true = w4) := hW1
  have HW0 : Hid (W false = w3) := hW0
  clear P3 G3 L3 M3 J3 C3 N3 hrun P4 C4 hl4 hW0 hW1 hU hU' hgl hge hgp hfit hN hcl HQ HE2 k6 k4 u2 v2 HT HN0
  refine region_mid W HW0.out U HU.out 14 rfl (fun _ => trivial) (by kernel_rfl) (by kernel_rfl) (by kernel_rfl) (by kernel_rfl) rfl rfl rfl ?_
  dsimp only [List.dropLast, List.take, List.drop]
  repeat (gi_big_quiet_step (fail))
  refine wpQuietIn_nil ?_
  refine ⟨.int .i64 put.size, fun k => ?_, ?_⟩
  · rw [HW0.out, HW.out]
    refine exec_copy (.tmp 38) (.tmp 39) 39 9 rfl _ _ rfl rfl ?_
    have := HX.out.1 k
    rw [HNN.out] at this
    exact this
  simp only [Act.put, List.setIfInBounds_toArray, List.set_cons_succ, List.set_cons_zero]
  repeat (gi_big_quiet_step (fail))
  refine wpQuietIn_nil ?_
  intro k
  rw [HW.out]
  gi_wp2
  obtain ⟨_, x1, x2, x3, x4, x5, x6⟩ := HX.out
  refine ⟨.tuple #[], by simp [results, Tryz.results48, go_sem], rfl, r3, _, e3, (x1.drewN k).setP _, x4, x5, x6, ?_, x3⟩
  exact (x2.trans x3 (Ch.drewN b r3 w4 k)).trans x3 (Ch.set b r3 _ 1 _)
theorem exch_any {b : Nat} {r : Option Nat} {A : List UInt8} {p e l q c : Nat} {t : List UInt8} (put : ByteArray) (w : World) (h : PA w b r A p e l) (hg : Gap A p e t) (hq : q + c ≤ t.length) (hn : t.length - c + put.size ≤ l) (hl : l ≤ 1073741824) (hA : A.length ≤ 4294967296) :
    Calls Tryz.prog 48 #[.pointer (some ⟨b, 0, none⟩), .int .i64 q, .int .i64 c, .string put] w fun x w' => x = .returned (.tuple #[]) ∧ ∃ r' A' e', PA w' b r' A' (q + put.size) e' l ∧ Gap A' (q + put.size) e' (t.take q ++ put.data.toList ++ t.drop (q + c)) ∧ A'.length ≤ 2 * max (t.length - c + put.size) 64 ∧ (A.length ≤ l → A'.length ≤ l) ∧ Ch b r w w' ∧ Nw w r r' :=
  callsIn_wide.1 (exch_in put w h hg hq hn hl hA)
end Go.Proofs.YtgagpmeknpjkpaaGreatDoor
