/-
  The walk of the law UnitSeams: for any two texts of together at most 1048576 letters it returns true: laid one behind the other they have the units of both, but for one character over the seam. Conditions: the two tables of unicode/utf8 lie as their text lays them.
-/
import Derived.Test.YtadgbbnkhjapnabDoorUCuts
import Derived.Test.YtadgbbnkhjapnabDoorUAlike
import Derived.Test.YtadgbbnkhjapnabDoorUMathC
import Derived.Test.YtadgbbnkhjapnabDoorUMathG
import Derived.OwnWalk
import Derived.Lib.QuietBelow
namespace Go.Proofs.YtadgbbnkhjapnabDoor.unitSeams
open Go.RowKit Go.Sort Bod

def cellsOf (L : List (Int × Int)) : List Value := L.flatMap fun p => [Value.int .i32 p.1, Value.int .i64 p.2]
theorem cellsOf_us (s : ByteArray) : ucells s (offs s 0) = cellsOf (us s 0) := by unfold ucells cellsOf us pr; rw [List.flatMap_map]
theorem cellsOf_append (a b : List (Int × Int)) : cellsOf (a ++ b) = cellsOf a ++ cellsOf b := by simp [cellsOf]
theorem cellsOf_len (L : List (Int × Int)) : (cellsOf L).length = L.length * 2 := by
  induction L with
  | nil => rfl
  | cons x r ih => simp only [cellsOf, List.flatMap_cons, List.length_append, List.length_cons, List.length_nil] at ih ⊢; omega
theorem cellsOf_one (L : List (Int × Int)) : ∀ u ∈ cellsOf L, u.oneCell' = true := by
  intro u hu
  simp only [cellsOf, List.mem_flatMap] at hu
  obtain ⟨p, _, hp⟩ := hu
  simp at hp
  rcases hp with rfl | rfl <;> rfl
theorem cellsOf_get : ∀ (L : List (Int × Int)) (j : Nat), j < L.length → (cellsOf L)[j * 2]? = some (.int .i32 (L.getD j (0, 0)).1) ∧ (cellsOf L)[j * 2 + 1]? = some (.int .i64 (L.getD j (0, 0)).2)
  | [], _, h => by simp at h
  | x :: xs, 0, _ => by simp [cellsOf]
  | x :: xs, j + 1, h => by
    have := cellsOf_get xs j (by simpa using h)
    simp only [cellsOf, List.flatMap_cons, List.getD_cons_succ] at this ⊢
    rw [show (j + 1) * 2 = j * 2 + 2 by omega]
    simpa using this
def RdL (W : World) (v : Value) (L : List (Int × Int)) : Prop := Rd W v L.length (fun j => (L.getD j (0, 0)).1) (fun j => (L.getD j (0, 0)).2)
theorem RdL.of_row {W : World} {base : Nat} {v : Value} {L : List (Int × Int)} {n : Nat} (hn : n = L.length) (h : W.ownsRow base 32 2 v n (cellsOf L)) : RdL W v L := by
  subst hn
  rcases h.2 with ⟨rfl, h0⟩ | ⟨g, cap, cur, rfl, _⟩
  · rw [RdL, h0]; exact ⟨none, 0, rfl, fun q => absurd rfl q⟩
  · refine ⟨_, cap, rfl, fun _ => ⟨g, 0, rfl, fun j hj => ?_⟩⟩
    obtain ⟨e1, e2⟩ := cellsOf_get L j hj
    rw [Nat.zero_add]
    exact ⟨(h.cellAt (j * 2) (by omega)).trans e1, (h.cellAt (j * 2 + 1) (by omega)).trans e2⟩
theorem row_join {W : World} {base n : Nat} {v : Value} {La Lb Ls : List (Int × Int)} (hL : Ls = La ++ Lb) (hn : n = La.length + Lb.length) (h : W.ownsRow base 32 2 v n ([] ++ cellsOf La ++ cellsOf Lb)) : RdL W v Ls := by
  subst hL
  refine RdL.of_row (base := base) (n := n) (by simp [hn]) ?_
  rw [cellsOf_append]; exact h
/-- n pairs of a list, read from a place within a row -/
theorem Rd.piece {W : World} {base g cap N : Nat} {L : List (Int × Int)} (h : W.ownsRow base 32 2 (.slice (some ⟨g, 0, none⟩) N cap) N (cellsOf L)) (hN : N = L.length) (k n cap' : Nat) (hk : k + n ≤ L.length) (c z : Nat → Int) (hcz : ∀ j, j < n → (c j, z j) = L.getD (k + j) (0, 0)) :
    Rd W (.slice (some ⟨g, k * 2, none⟩) n cap') n c z := by
  subst hN
  refine ⟨_, cap', rfl, fun _ => ⟨g, k * 2, rfl, fun j hj => ?_⟩⟩
  obtain ⟨e1, e2⟩ := cellsOf_get L (k + j) (by omega)
  have e := hcz j hj
  rw [← e] at e1 e2
  rw [show k * 2 + j * 2 = (k + j) * 2 by omega]
  exact ⟨(h.cellAt ((k + j) * 2) (by omega)).trans e1, (h.cellAt ((k + j) * 2 + 1) (by omega)).trans e2⟩
theorem row_below {base e size n : Nat} {v : Value} {xs : List Value} {W W' : World} (h : W.ownsRow base e size v n xs) (hb : Below W.heap.size W W') : W'.ownsRow base e size v n xs :=
  h.kept (row := none) ⟨hb.os, hb.tape, hb.output, hb.size, fun k hk _ => hb.block k hk⟩ (by cases hv : v.ownBlock with
    | none => exact .inl rfl
    | some _ => exact .inr (by simp))
/-- what Units answers, as a row of pairs -/
theorem units_row (s : ByteArray) (hs : s.size ≤ 1048576) (w W : World) (hb : Below w.heap.size w W) (hT : Lib.Utf8Tabs 0 1 w) (hlo0 : 0 < w.heap.size) (hlo1 : 1 < w.heap.size) :
    Calls Tryd.prog 10 #[.string s] W fun e W' => ∃ g, e = .returned (.slice (some ⟨g, 0, none⟩) (us s 0).length (us s 0).length) ∧ W'.ownsRow w.heap.size 32 2 (.slice (some ⟨g, 0, none⟩) (us s 0).length (us s 0).length) (us s 0).length (cellsOf (us s 0)) ∧ Below W.heap.size W W' := by
  have hl := offs_len_le s
  have h := units_any s (by unfold maxLen; omega) (by omega) W (tabs_below hT hb) (Nat.lt_of_lt_of_le hlo0 hb.size) (Nat.lt_of_lt_of_le hlo1 hb.size)
  have e : (us s 0).length = (offs s 0).length := by simp [us]
  rw [e]
  refine h.mono ?_
  rintro e W' ⟨g, rfl, hrow, hb2⟩
  refine ⟨g, rfl, ?_, hb2⟩
  rw [← cellsOf_us]
  exact ⟨hrow.1, by
    rcases hrow.2 with ⟨h0, _⟩ | ⟨g', cap', cur, hv, hbg, rest⟩
    · cases h0
    · exact .inr ⟨g', cap', cur, hv, Nat.le_trans hb.size hbg, rest⟩⟩

set_option maxRecDepth 100000 in
set_option maxHeartbeats 4000000 in
theorem walk_B (a b : ByteArray) (hsz : a.size + b.size ≤ 1048576) (hbd : B (a ++ b) a.size) (w : World) (hT : Lib.Utf8Tabs 0 1 w) (hlo0 : 0 < w.heap.size) (hlo1 : 1 < w.heap.size) :
    Calls Tryd.prog 4 #[.string a, .string b] w fun e w' => e = .returned (.bool true) ∧ Below w.heap.size w w' := by
  have CC : Hid (Calls Tryd.prog 8 #[] w fun e w' => e = .returned (.bool true) ∧ Below w.heap.size w w') := cuts_any w hT hlo0 hlo1
  have hus := us_seam_B hbd
  have hss := size_app a b
  have hlx : (us a 0).length ≤ a.size := by have := offs_len_le a; simpa [us] using this
  have hly : (us b 0).length ≤ b.size := by have := offs_len_le b; simpa [us] using this
  have hbz := bd_B hbd
  obtain ⟨s, hs⟩ : ∃ s, a ++ b = s := ⟨_, rfl⟩
  rw [hs] at hus hss hbz
  have hlen : (us s 0).length = (us a 0).length + (us b 0).length := by rw [hus]; simp
  have C1 : Hid _ := fun (W : World) (hb : Below w.heap.size w W) => units_row s (by omega) w W hb hT hlo0 hlo1
  have C2 : Hid _ := fun (W : World) (hb : Below w.heap.size w W) => units_row a (by omega) w W hb hT hlo0 hlo1
  have C3 : Hid _ := fun (W : World) (hb : Below w.heap.size w W) => units_row b (by omega) w W hb hT hlo0 hlo1
  have C4 : Hid (∀ (W : World), Below w.heap.size w W → Calls Tryd.prog 9 #[.string s, .int .i64 a.size] W fun e W' => e = .returned (.bool true) ∧ Below W.heap.size W W') := fun W hb => by
    rw [← hbz]; exact bound_any s a.size (by unfold maxLen; omega) W (tabs_below hT hb)
  obtain ⟨Ls, hLs⟩ : ∃ L, us s 0 = L := ⟨_, rfl⟩
  obtain ⟨La, hLa⟩ : ∃ L, us a 0 = L := ⟨_, rfl⟩
  obtain ⟨Lb, hLb⟩ : ∃ L, us b 0 = L := ⟨_, rfl⟩
  rw [hLs] at C1 hus hlen
  rw [hLa] at C2 hus hlen hlx
  rw [hLb] at C3 hus hlen hly
  have HU : Hid (Ls = La ++ Lb) := hus
  have HL : Hid (Ls.length = La.length + Lb.length) := hlen
  clear hlen
  have hadd : ¬ 9223372036854775807 < a.size + b.size := by omega
  obtain ⟨i0, hi, hz0, hz1, hz2⟩ := info_parts infoU
  have T1 : Hid True := trivial
  have T2 : Hid True := trivial
  have T3 : Hid True := trivial
  have T4 : Hid True := trivial
  clear hus hLs hLa hLb hT hlo0 hlo1 hbd hbz
  go_enter Tryd.func4, Tryd.ntmps4
  go_wp2_with (first | (go_at_call 8; refine (Hid.out CC).mono ?_; rintro e w1 ⟨rfl, hb1⟩; have hB1 : Hid (Below w.heap.size w w1) := hb1; clear hb1) | (go_at_call 10; have hq := T1; clear hq T1; refine (C1.out _ hB1.out).mono ?_; rintro e w2 ⟨gs, rfl, rowS, hb2⟩; have hB2 : Hid (Below w.heap.size w w2) := hB1.out.trans (hb2.mono hB1.out.size); clear hb2) | (go_at_call 10; have hq := T2; clear hq T2; refine (C2.out _ hB2.out).mono ?_; rintro e w3 ⟨ga, rfl, rowA, hb3⟩; have rowS3 := row_below rowS hb3; have hB3 : Hid (Below w.heap.size w w3) := hB2.out.trans (hb3.mono hB2.out.size); clear hb3 rowS) | (go_at_call 10; have hq := T3; clear hq T3; refine (C3.out _ hB3.out).mono ?_; rintro e w4 ⟨gb, rfl, rowB, hb4⟩; have rowS4 := row_below rowS3 hb4; have rowA4 := row_below rowA hb4; have hB4 : Hid (Below w.heap.size w w4) := hB3.out.trans (hb4.mono hB3.out.size); clear hb4 rowS3 rowA) | (go_at_call 9; refine (C4.out _ hB4.out).mono ?_; rintro e w5 ⟨rfl, hb5⟩; have rowS5 := row_below rowS4 hb5; have rowA5 := row_below rowA4 hb5; have rowB5 := row_below rowB hb5; have hB5 : Hid (Below w.heap.size w w5) := hB4.out.trans (hb5.mono hB4.out.size); clear hb5 rowS4 rowA4 rowB; have OW0 := World.ownsRow_lit (base := w5.heap.size) (e := 32) (size := 2) w5 #[] 0 (Nat.le_refl _) (by unfold maxLen; omega) rfl; have lS := (rowS5.lt gs rfl).2; have lA := (rowA5.lt ga rfl).2; have lB := (rowB5.lt gb rfl).2) | (at_builtin; have hq := T4; clear hq T4; refine wpList_append_own _ rfl _ _ 27 rfl w5.heap.size 32 i0 (.agg #[.int .i32 0, .int .i64 0]) 2 16 Tryd.underlying27 hi hz0 hz1 hz2 rfl (by decide) _ _ _ rfl OW0 ⟨ga, 0, none⟩ La.length La.length (cellsOf La) rfl (cellsOf_len La) ((rowA5.alloc _).cells rfl) (cellsOf_one La) (by unfold maxLen; omega) (by omega) (by simp) ?_; intro v6 w6 row6 hg6 _; have hne : ∀ k, k < w5.heap.size → some k ≠ Value.ownBlock (.slice (some ⟨w5.heap.size, 0, none⟩) 0 0) := (fun k hk e => by simp [Value.ownBlock] at e; omega); have rowS6 := (rowS5.alloc (.cells #[] 32)).kept hg6 (.inr (hne _ lS)); have rowB6 := (rowB5.alloc (.cells #[] 32)).kept hg6 (.inr (hne _ lB)); have hB6 : Hid (Below w.heap.size w w6) := (hB5.out.alloc hB5.out.size _).grown hg6 (by have := hB5.out.size; simp; omega) (fun k e => by have := (OW0.lt k e).1; have := hB5.out.size; omega); have hs6 := hg6.size; clear rowS5 rowB5 rowA5 OW0 hg6 hne) | (at_builtin; refine wpList_append_own _ rfl _ _ 27 rfl w5.heap.size 32 i0 (.agg #[.int .i32 0, .int .i64 0]) 2 16 Tryd.underlying27 hi hz0 hz1 hz2 rfl (by decide) _ _ _ rfl row6 ⟨gb, 0, none⟩ Lb.length Lb.length (cellsOf Lb) rfl (cellsOf_len Lb) (rowB6.cells rfl) (cellsOf_one Lb) (by unfold maxLen; omega) (by omega) (by simp at hs6; omega) ?_; intro v7 w7 row7 hg7 _; have rowS7 := rowS6.kept hg7 (.inr (fun e => Nat.lt_irrefl _ (Nat.lt_of_lt_of_le lS (row6.lt gs e.symm).1))); have hB7 : Hid (Below w.heap.size w w7) := hB6.out.grown hg7 hB6.out.size (fun k e => Nat.le_trans hB5.out.size (row6.lt k e).1); have r7 : RdL w7 v7 Ls := row_join HU.out (by omega) row7; have rS : RdL w7 _ Ls := RdL.of_row rfl rowS7; clear row6 rowS6 rowB6 row7 rowS7 hg7) | (go_at_call 11; refine (alike_any (by unfold maxLen; rw [HL.out]; omega) rS r7).mono ?_; rintro e w8 ⟨rfl, hb8⟩))
  go_ret
  exact ⟨rfl, hB7.out.trans (hb8.mono hB7.out.size)⟩

set_option maxRecDepth 100000 in
set_option maxHeartbeats 4000000 in
theorem walk_C (a b : ByteArray) (hsz : a.size + b.size ≤ 1048576) (hbd : ¬ B (a ++ b) a.size) (w : World) (hT : Lib.Utf8Tabs 0 1 w) (hlo0 : 0 < w.heap.size) (hlo1 : 1 < w.heap.size) :
    Calls Tryd.prog 4 #[.string a, .string b] w fun e w' => e = .returned (.bool true) ∧ Below w.heap.size w w' := by
  have CC : Hid (Calls Tryd.prog 8 #[] w fun e w' => e = .returned (.bool true) ∧ Below w.heap.size w w') := cuts_any w hT hlo0 hlo1
  have hss := size_app a b
  have hlt : a.size < (a ++ b).size := by
    by_cases h : b.size = 0
    · exact absurd (by have := B_end (a ++ b); rwa [hss, h, Nat.add_zero] at this) hbd
    · omega
  have D := dnF_Dn hlt
  obtain ⟨d, hd⟩ : ∃ d, dnF (a ++ b) a.size = d := ⟨_, rfl⟩
  rw [hd] at D
  have hne : d ≠ a.size := fun q => hbd (q ▸ D.bd)
  have hdl := D.le
  have hdg := D.gt
  have hds : d < (a ++ b).size := by omega
  have hz4 := sz_le hds
  have hin := sz_in hds
  obtain ⟨P, hP1, hP2, hP3, hch⟩ := us_seam_C D hne hlt
  have v1 := down_in' D.bd hds hdl hdg
  have v2 := up_in' D.bd hds (by omega) hdg
  have v3 := bd_in (by omega) hdg
  obtain ⟨s, hs⟩ : ∃ s, a ++ b = s := ⟨_, rfl⟩
  rw [hs] at hss hlt hdg hds hz4 hin hP1 hP3 hch v1 v2 v3
  obtain ⟨z, hz⟩ : ∃ z, sz s d = z := ⟨_, rfl⟩
  obtain ⟨c, hc⟩ : ∃ c, ch s d = c := ⟨_, rfl⟩
  have hq : pr s d = (c, (z : Int)) := by unfold pr; rw [hz, hc]
  rw [hq, hz] at hP1
  rw [hz] at hdg hz4 hin hP3 v2
  rw [hc] at hch
  obtain ⟨e, he⟩ : ∃ e, d + z = e := ⟨_, rfl⟩
  rw [he] at hdg hin hP1 hP3 v2
  obtain ⟨R, hR⟩ : ∃ R, us s e = R := ⟨_, rfl⟩
  rw [hR] at hP1 hP3
  have hlx : (us a 0).length ≤ a.size := by have := offs_len_le a; simpa [us] using this
  have hly : (us b 0).length ≤ b.size := by have := offs_len_le b; simpa [us] using this
  have C1 : Hid _ := fun (W : World) (hb : Below w.heap.size w W) => units_row s (by omega) w W hb hT hlo0 hlo1
  have C2 : Hid _ := fun (W : World) (hb : Below w.heap.size w W) => units_row a (by omega) w W hb hT hlo0 hlo1
  have C3 : Hid _ := fun (W : World) (hb : Below w.heap.size w W) => units_row b (by omega) w W hb hT hlo0 hlo1
  have C4 : Hid (∀ (W : World), Below w.heap.size w W → Calls Tryd.prog 9 #[.string s, .int .i64 a.size] W fun e W' => e = .returned (.bool false) ∧ Below W.heap.size W W') := fun W hb => by
    rw [← v3]; exact bound_any s a.size (by unfold maxLen; omega) W (tabs_below hT hb)
  have C5 : Hid (∀ (W : World), Below w.heap.size w W → Calls Tryd.prog 12 #[.string s, .int .i64 a.size] W fun e W' => e = .returned (.int .i64 d) ∧ Below W.heap.size W W') := fun W hb => by
    rw [← v1]; exact down_any s a.size (by unfold maxLen; omega) W (tabs_below hT hb)
  have C6 : Hid (∀ (W : World), Below w.heap.size w W → Calls Tryd.prog 13 #[.string s, .int .i64 a.size] W fun e' W' => e' = .returned (.int .i64 e) ∧ Below W.heap.size W W') := fun W hb => by
    rw [← v2]; exact up_any s a.size (by unfold maxLen; omega) W (tabs_below hT hb)
  obtain ⟨Ls, hLs⟩ : ∃ L, us s 0 = L := ⟨_, rfl⟩
  obtain ⟨La, hLa⟩ : ∃ L, us a 0 = L := ⟨_, rfl⟩
  obtain ⟨Lb, hLb⟩ : ∃ L, us b 0 = L := ⟨_, rfl⟩
  rw [hLs] at C1 hP1
  rw [hLa] at C2 hP2 hlx
  rw [hLb] at C3 hP3 hly
  obtain ⟨p, hp⟩ : ∃ p, P.length = p := ⟨_, rfl⟩
  have n1 : Ls.length = p + 1 + R.length := by rw [hP1, ← hp]; simp; omega
  have n2 : La.length = p + (a.size - d) := by rw [hP2, ← hp]; simp
  have n3 : Lb.length = (e - a.size) + R.length := by rw [hP3]; simp
  obtain ⟨be, hbe⟩ : ∃ be, a.size - d = be := ⟨_, rfl⟩
  obtain ⟨bh, hbh⟩ : ∃ bh, e - a.size = bh := ⟨_, rfl⟩
  have k1 : (a.size : Int) - (d : Int) = (be : Int) := by omega
  have k2 : (e : Int) - (a.size : Int) = (bh : Int) := by omega
  have k3 : (La.length : Int) - (be : Int) = (p : Int) := by omega
  have k4 : (e : Int) - (d : Int) = (z : Int) := by omega
  have hadd : ¬ 9223372036854775807 < a.size + b.size := by omega
  have t1 : decide (a.size ≤ d) = false := by simp; omega
  have t2 : decide (e ≤ a.size) = false := by simp; omega
  have t3 : decide ((z : Int) < 2) = false := by simp; omega
  have t4 : decide (4 < (z : Int)) = false := by simp; omega
  have t5 : decide (La.length < be) = false := by simp; omega
  have t6 : decide (Lb.length < bh) = false := by simp; omega
  have HL1 : Hid (Ls = P ++ (c, (z : Int)) :: R) := hP1
  have HL2 : Hid (La = P ++ List.replicate be (-1, 1)) := by rw [hbe] at hP2; exact hP2
  have HL3 : Hid (Lb = List.replicate bh (-1, 1) ++ R) := by rw [hbh] at hP3; exact hP3
  have HN : Hid (Ls.length = p + 1 + R.length ∧ La.length = p + be ∧ Lb.length = bh + R.length ∧ P.length = p) := ⟨n1, by omega, by omega, hp⟩
  have T1 : Hid True := trivial
  have T2 : Hid True := trivial
  have T3 : Hid True := trivial
  clear hP1 hP2 hP3 hLs hLa hLb hT hlo0 hlo1 hbd v1 v2 v3 D hd hR hq hc hp n1 n2 n3 hbe hbh hz he
  go_enter Tryd.func4, Tryd.ntmps4
  go_wp2_with (first | (go_at_call 8; refine (Hid.out CC).mono ?_; rintro _ w1 ⟨rfl, hb1⟩; have hB1 : Hid (Below w.heap.size w w1) := hb1; clear hb1) | (go_at_call 10; have hq := T1; clear hq T1; refine (C1.out _ hB1.out).mono ?_; rintro _ w2 ⟨gs, rfl, rowS, hb2⟩; have hB2 : Hid (Below w.heap.size w w2) := hB1.out.trans (hb2.mono hB1.out.size); clear hb2) | (go_at_call 10; have hq := T2; clear hq T2; refine (C2.out _ hB2.out).mono ?_; rintro _ w3 ⟨ga, rfl, rowA, hb3⟩; have rowS3 := row_below rowS hb3; have hB3 : Hid (Below w.heap.size w w3) := hB2.out.trans (hb3.mono hB2.out.size); clear hb3 rowS) | (go_at_call 10; have hq := T3; clear hq T3; refine (C3.out _ hB3.out).mono ?_; rintro _ w4 ⟨gb, rfl, rowB, hb4⟩; have rowS4 := row_below rowS3 hb4; have rowA4 := row_below rowA hb4; have hB4 : Hid (Below w.heap.size w w4) := hB3.out.trans (hb4.mono hB3.out.size); clear hb4 rowS3 rowA) | (go_at_call 9; refine (C4.out _ hB4.out).mono ?_; rintro _ w5 ⟨rfl, hb5⟩; have rowS5 := row_below rowS4 hb5; have rowA5 := row_below rowA4 hb5; have rowB5 := row_below rowB hb5; have hB5 : Hid (Below w.heap.size w w5) := hB4.out.trans (hb5.mono hB4.out.size); clear hb5 rowS4 rowA4 rowB) | (go_at_call 12; refine (C5.out _ hB5.out).mono ?_; rintro _ w6 ⟨rfl, hb6⟩; have rowS6 := row_below rowS5 hb6; have rowA6 := row_below rowA5 hb6; have rowB6 := row_below rowB5 hb6; have hB6 : Hid (Below w.heap.size w w6) := hB5.out.trans (hb6.mono hB5.out.size); clear hb6 rowS5 rowA5 rowB5) | (go_at_call 13; refine (C6.out _ hB6.out).mono ?_; rintro _ w7 ⟨rfl, hb7⟩; have rowS7 := row_below rowS6 hb7; have rowA7 := row_below rowA6 hb7; have rowB7 := row_below rowB6 hb7; have hB7 : Hid (Below w.heap.size w w7) := hB6.out.trans (hb7.mono hB6.out.size); clear hb7 rowS6 rowA6 rowB6))
  obtain ⟨N1, N2, N3, N4⟩ := HN.out
  have hw1 : IntKind.i64.wrap ((p : Int) + 1) = (p : Int) + 1 := by rw [IntKind.wrap_i64]; omega
  have hw2 : IntKind.i64.wrap ((p : Int) + 1 + (Lb.length : Int)) = (p : Int) + 1 + (Lb.length : Int) := by rw [IntKind.wrap_i64]; omega
  have hw3 : IntKind.i64.wrap ((p : Int) + 1 + (Lb.length : Int) - (bh : Int)) = (Ls.length : Int) := by rw [IntKind.wrap_i64]; omega
  have hw4 : IntKind.i64.wrap (z : Int) = (z : Int) := by rw [IntKind.wrap_i64]; omega
  have gL : ∀ j, j < p → La.getD j (0, 0) = Ls.getD j (0, 0) := fun j hj => by
    rw [HL1.out, HL2.out]; simp [List.getD, List.getElem?_append_left (show j < P.length by omega)]
  have gM : Ls.getD p (0, 0) = (c, (z : Int)) := by rw [HL1.out, ← N4]; simp
  have gR : ∀ j, j < R.length → Ls.getD (p + 1 + j) (0, 0) = R.getD j (0, 0) ∧ Lb.getD (bh + j) (0, 0) = R.getD j (0, 0) := fun j hj => by
    rw [HL1.out, HL3.out]
    constructor
    · simp only [List.getD]
      rw [List.getElem?_append_right (by omega), show p + 1 + j - P.length = j + 1 by omega]; rfl
    · simp only [List.getD]
      rw [List.getElem?_append_right (by simp), List.length_replicate, Nat.add_sub_cancel_left]
  obtain ⟨m1, m2⟩ := cellsOf_get Ls p (by omega)
  rw [gM] at m1 m2
  have cS0 : w7.cell? ⟨gs, p * 2, none⟩ = some (.int .i32 c) := (rowS7.cellAt (p * 2) (by omega)).trans m1
  have cS1 : w7.cell? ⟨gs, p * 2 + 1, none⟩ = some (.int .i64 z) := (rowS7.cellAt (p * 2 + 1) (by omega)).trans m2
  have q0 := cell_regrown cS0
  have q1 := cell_regrown cS1
  have cA1 : ∀ dd os, Calls Tryd.prog 11 #[.slice (some ⟨gs, 0, none⟩) p Ls.length, .slice (some ⟨ga, 0, none⟩) p La.length] (grow (redrawn w7 dd) os) fun e w'' => e = .returned (.bool true) ∧ ∃ p : Regrown, w'' = grow (redrawn w7 p.d) p.os := fun dd os => by
    have r1 := Rd.piece rowS7 rfl 0 p Ls.length (by omega) (fun j => (Ls.getD j (0, 0)).1) (fun j => (Ls.getD j (0, 0)).2) (fun j hj => by rw [Nat.zero_add])
    have r2 := Rd.piece rowA7 rfl 0 p La.length (by omega) (fun j => (Ls.getD j (0, 0)).1) (fun j => (Ls.getD j (0, 0)).2) (fun j hj => by rw [Nat.zero_add, gL j hj])
    exact Calls.regrown_of (alike_any (by unfold maxLen; omega) (r1.below (below_regrown w7 dd os)) (r2.below (below_regrown w7 dd os)))
  have rr1 : Rd w7 (.slice (some ⟨gs, (p + 1) * 2, none⟩) R.length R.length) R.length (fun j => (R.getD j (0, 0)).1) (fun j => (R.getD j (0, 0)).2) := Rd.piece rowS7 rfl (p + 1) R.length R.length (by omega) _ _ (fun j hj => by rw [(gR j hj).1])
  have rr2 : Rd w7 (.slice (some ⟨gb, bh * 2, none⟩) R.length R.length) R.length (fun j => (R.getD j (0, 0)).1) (fun j => (R.getD j (0, 0)).2) := Rd.piece rowB7 rfl bh R.length R.length (by omega) _ _ (fun j hj => by rw [(gR j hj).2])
  have HR1 : Hid _ := rr1
  have HR2 : Hid _ := rr2
  have b1 : (p : Int) ≤ (Ls.length : Int) := by omega
  have b2 : (p : Int) ≤ (La.length : Int) := by omega
  have b3 : (p : Int) + 1 ≤ (Ls.length : Int) := by omega
  have b4 : (bh : Int) ≤ (Lb.length : Int) := by omega
  have b5 : (p : Int) < (Ls.length : Int) := by omega
  have b6 : p < Ls.length := by omega
  have HN2 : Hid (Ls.length = p + 1 + R.length ∧ La.length = p + be ∧ Lb.length = bh + R.length) := ⟨N1, N2, N3⟩
  have b7 : 0 ≤ (p : Int) + 1 := by omega
  have b8 : 0 ≤ (bh : Int) := by omega
  by_cases hR0 : R.length = 0
  · have x1 : Ls.length = p + 1 := by omega
    have x3 : Lb.length = bh := by omega
    have y1 : (p : Int) ≤ (p : Int) + 1 := by omega
    have y2 : (p : Int) < (p : Int) + 1 := by omega
    have y3 : p < p + 1 := by omega
    rw [x1] at cA1 hw3
    rw [x3] at hw2 hw3
    have cA2 : ∀ dd os, Calls Tryd.prog 11 #[.slice (some ⟨gs, 0, none⟩) 0 0, .slice (some ⟨gb, 0, none⟩) 0 0] (grow (redrawn w7 dd) os) fun e w'' => e = .returned (.bool true) ∧ ∃ p : Regrown, w'' = grow (redrawn w7 p.d) p.os := fun dd os => Calls.regrown_of (alike_none _ _ _ _ _)
    clear rr1 rr2 HR1 HR2 m1 m2 gL gM gR N1 N2 N3 N4 rowS7 rowA7 rowB7 cS0 cS1 b1 b3 b4 b5 b6 hR0
    refine wp_region_quiet_below (by kernel_rfl) (by kernel_rfl) ?_
    repeat (quiet_step (fail))
    quiet_step (exact cA1 _ _)
    clear cA1
    repeat (quiet_step (fail))
    quiet_step (exact cA2 _ _)
    clear cA2
    repeat (quiet_step (fail))
    refine wpQuiet_nil ?_
    intro _ hw'
    obtain ⟨⟨dq, osq⟩, hw''⟩ := hw'
    subst hw''
    go_wp2
    go_ret
    exact ⟨rfl, hB7.out.trans ((below_regrown w7 dq osq).mono hB7.out.size)⟩
  · have f1 : (Ls.length = p + 1) = False := by simp; omega
    have f3 : (Lb.length = bh) = False := by simp; omega
    have x1 : Ls.length - (p + 1) = R.length := by omega
    have x3 : Lb.length - bh = R.length := by omega
    have cA2 : ∀ dd os, Calls Tryd.prog 11 #[.slice (some ⟨gs, (p + 1) * 2, none⟩) R.length R.length, .slice (some ⟨gb, bh * 2, none⟩) R.length R.length] (grow (redrawn w7 dd) os) fun e w'' => e = .returned (.bool true) ∧ ∃ p : Regrown, w'' = grow (redrawn w7 p.d) p.os := fun dd os =>
      Calls.regrown_of (alike_any (by unfold maxLen; omega) (rr1.below (below_regrown w7 dd os)) (rr2.below (below_regrown w7 dd os)))
    clear rr1 rr2 HR1 HR2 m1 m2 gL gM gR N1 N2 N3 N4 rowS7 rowA7 rowB7 cS0 cS1 hR0
    refine wp_region_quiet_below (by kernel_rfl) (by kernel_rfl) ?_
    repeat (quiet_step (fail))
    quiet_step (exact cA1 _ _)
    clear cA1
    repeat (quiet_step (fail))
    quiet_step (exact cA2 _ _)
    clear cA2
    repeat (quiet_step (fail))
    refine wpQuiet_nil ?_
    intro _ hw'
    obtain ⟨⟨dq, osq⟩, hw''⟩ := hw'
    subst hw''
    go_wp2
    go_ret
    exact ⟨rfl, hB7.out.trans ((below_regrown w7 dq osq).mono hB7.out.size)⟩

theorem walk_of {H : Type} (a b : ByteArray) (w : World) (hT : Lib.Utf8Tabs 0 1 w) (hlo0 : 0 < w.heap.size) (hlo1 : 1 < w.heap.size) (_ha : a.size ≤ 140737488351232) (_hb : b.size ≤ 140737488351232) (hk : Rows.uptoSmall H ([DataW.lit (.string a.data.toList), DataW.lit (.string b.data.toList)] ++ []) = true) :
    Calls Tryd.prog 4 #[.string a, .string b] w fun e w' => e = .returned (.bool true) ∧ Below w.heap.size w w' := by
  have h : Rows.uptoBulkAll ([DataW.lit (H := H) (.string a.data.toList), DataW.lit (.string b.data.toList)] ++ []) ≤ 1048576 := of_decide_eq_true hk
  simp only [List.append_nil, Rows.uptoBulkAll, Rows.uptoBulk] at h
  have hsz : a.size + b.size ≤ 1048576 := by rw [Lib.size_eq, Lib.size_eq]; omega
  by_cases hB : B (a ++ b) a.size
  · exact walk_B a b hsz hB w hT hlo0 hlo1
  · exact walk_C a b hsz hB w hT hlo0 hlo1
end Go.Proofs.YtadgbbnkhjapnabDoor.unitSeams
