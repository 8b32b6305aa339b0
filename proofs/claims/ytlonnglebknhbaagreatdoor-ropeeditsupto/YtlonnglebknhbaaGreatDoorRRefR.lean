/-
  The document's own rope (a text in a box): New, Slice, Measure, Replace, Split. Conditions: its text holds at most 1099511627776 bytes.
-/
import Derived.Test.YtlonnglebknhbaaGreatDoorRMeas
import Derived.BigRegion
namespace Go.Proofs.YtlonnglebknhbaaGreatDoor
open Go.RowKit Go.Shelf Bod Wid

theorem set7_belowB {w W : World} {b : Nat} (hb : w.heap.size ≤ b) (h : Below w.heap.size w W) (u0 u1 u2 u3 u4 u5 u6 : Value) : Below w.heap.size w (((((((W.setCell ⟨b, 0, none⟩ u0).setCell ⟨b, 1, none⟩ u1).setCell ⟨b, 2, none⟩ u2).setCell ⟨b, 3, none⟩ u3).setCell ⟨b, 4, none⟩ u4).setCell ⟨b, 5, none⟩ u5).setCell ⟨b, 6, none⟩ u6) :=
  ((((((h.setCell (p := ⟨b, 0, none⟩) hb _).setCell (p := ⟨b, 1, none⟩) hb _).setCell (p := ⟨b, 2, none⟩) hb _).setCell (p := ⟨b, 3, none⟩) hb _).setCell (p := ⟨b, 4, none⟩) hb _).setCell (p := ⟨b, 5, none⟩) hb _).setCell (p := ⟨b, 6, none⟩) hb _
/-- an answer's box lies as it was laid -/
def Bxb (w : World) (b : Nat) (W : World) : Prop := W.heap[b]? = some (.cells (scs sm0) 45 (0, 0)) ∧ Below w.heap.size w W
theorem Bxb.below {w W X : World} {b : Nat} (h : Bxb w b W) (hb : Below W.heap.size W X) : Bxb w b X := ⟨(hb.block _ (Array.getElem?_eq_some_iff.1 h.1).1).trans h.1, Below.on h.2 hb⟩
/-- the document's rope as a value -/
abbrev vr (s : ByteArray) : Value := .agg #[.string s]
set_option maxRecDepth 100000 in
set_option maxHeartbeats 1000000 in
theorem fnew_any (s : ByteArray) (w : World) : Calls Tryz.prog 11 #[.string s] w fun e W' => e = .returned (vr s) ∧ Below w.heap.size w W' := by
  go_enter Tryz.func11, Tryz.ntmps11
  go_wp2
  exact bodyPost_ret (v := vr s) (by simp [results, Tryz.results11, go_sem]) rfl ⟨rfl, (Below.refl _ w).alloc (Nat.le_refl _) _⟩
set_option maxRecDepth 100000 in
set_option maxHeartbeats 1000000 in
theorem finside_any (f g : Int) (n : Nat) (w : World) : Calls Tryz.prog 44 #[.int .i64 f, .int .i64 g, .int .i64 n] w fun e W' => e = .returned (.bool (wthn n f g)) ∧ w = W' := by
  unfold wthn
  by_cases c1 : 0 ≤ f
  · by_cases c2 : f ≤ g
    · simp only [decide_eq_true c1, decide_eq_true c2, Bool.true_and]
      go_enter Tryz.func44, Tryz.ntmps44
      go_wp2
      all_goals go_ret
      all_goals exact ⟨by simp_all, rfl⟩
    · simp only [decide_eq_true c1, decide_eq_false c2, Bool.true_and, Bool.false_and]
      go_enter Tryz.func44, Tryz.ntmps44
      go_wp2
      go_ret
      exact ⟨by simp_all, rfl⟩
  · simp only [decide_eq_false c1, Bool.false_and]
    go_enter Tryz.func44, Tryz.ntmps44
    go_wp2
    go_ret
    exact ⟨by simp_all, rfl⟩
set_option maxRecDepth 100000 in
set_option maxHeartbeats 1000000 in
theorem fslice_any (s : ByteArray) (f g : Int) (w : World) : Calls Tryz.prog 16 #[vr s, .int .i64 f, .int .i64 g] w fun e W' => e = .returned (.tuple #[.string (slR s f g).1, .int .i64 (slR s f g).2]) ∧ Below w.heap.size w W' := by
  have hb := (Below.refl _ w).alloc (Nat.le_refl _) (.cells #[.string s] 28)
  unfold slR
  cases hw : wthn s.size f g with
  | false =>
    have C1 : Hid (∀ W, Calls Tryz.prog 44 #[.int .i64 f, .int .i64 g, .int .i64 s.size] W fun e W' => e = .returned (.bool false) ∧ W = W') := fun W => (finside_any f g s.size W).mono fun e W' ⟨h1, h2⟩ => ⟨by rw [h1, hw], h2⟩
    simp only [Bool.false_eq_true, if_false]
    clear hw
    go_enter Tryz.func16, Tryz.ntmps16
    go_wp2_with (go_at_call 44; refine (C1.out _).mono ?_; clear C1; rintro e w1 ⟨rfl, rfl⟩)
    exact bodyPost_ret (v := .tuple #[.string noB, .int .i64 1]) (by simp [results, Tryz.results16, go_sem, noB]) rfl ⟨rfl, hb⟩
  | true =>
    have C1 : Hid (∀ W, Calls Tryz.prog 44 #[.int .i64 f, .int .i64 g, .int .i64 s.size] W fun e W' => e = .returned (.bool true) ∧ W = W') := fun W => (finside_any f g s.size W).mono fun e W' ⟨h1, h2⟩ => ⟨by rw [h1, hw], h2⟩
    simp only [if_true]
    have hw' := hw
    simp [wthn] at hw'
    obtain ⟨⟨c1, c2⟩, c3⟩ := hw'
    obtain ⟨i, hi⟩ : ∃ i : Nat, f.toNat = i := ⟨_, rfl⟩
    obtain ⟨j, hj⟩ : ∃ j : Nat, g.toNat = j := ⟨_, rfl⟩
    have e1 : f = (i : Int) := by omega
    have e2 : g = (j : Int) := by omega
    rw [hi, hj]
    subst e1
    subst e2
    have d1 : i ≤ j := by omega
    have d2 : j ≤ s.size := by omega
    clear hw hi hj c1 c2 c3
    go_enter Tryz.func16, Tryz.ntmps16
    go_wp2_with (go_at_call 44; refine (C1.out _).mono ?_; clear C1; rintro e w1 ⟨rfl, rfl⟩)
    exact bodyPost_ret (v := .tuple #[.string (s.extract i j), .int .i64 0]) (by simp [results, Tryz.results16, go_sem]) rfl ⟨rfl, hb⟩
set_option maxRecDepth 100000 in
set_option maxHeartbeats 1000000 in
theorem fmeas_any (s : ByteArray) (hs : s.size ≤ 1099511627776) (f g : Int) (w : World) : Calls Tryz.prog 18 #[vr s, .int .i64 f, .int .i64 g] w fun e W' => e = .returned (.tuple #[sv (msR s f g).1, .int .i64 (msR s f g).2]) ∧ Below w.heap.size w W' := by
  obtain ⟨W0, hW0⟩ : ∃ W0, (w.alloc (.cells #[.string s] 28)).alloc (.cells #[.int .i64 0, .int .i64 0, .int .i64 0, .int .i64 0, .int .i64 0, .string ⟨#[]⟩, .string ⟨#[]⟩] 45) = W0 := ⟨_, rfl⟩
  have b0 : Bxb w (w.heap.size + 1) W0 := by rw [← hW0]; exact ⟨(push2' w.heap _ _).2, ((Below.refl _ w).alloc (Nat.le_refl _) _).alloc (by simp) _⟩
  have c0 : W0.cell? ⟨w.heap.size, 0, none⟩ = some (.string s) := by rw [← hW0]; simp
  have hl0 : w.heap.size < W0.heap.size := by rw [← hW0]; simp; omega
  unfold msR
  cases hw : wthn s.size f g with
  | false =>
    have C1 : Hid (Calls Tryz.prog 44 #[.int .i64 f, .int .i64 g, .int .i64 s.size] W0 fun e W' => e = .returned (.bool false) ∧ W0 = W') := (finside_any f g s.size W0).mono fun e W' ⟨h1, h2⟩ => ⟨by rw [h1, hw], h2⟩
    simp only [Bool.false_eq_true, if_false]
    have HB : Hid (Bxb w (w.heap.size + 1) W0) := b0
    obtain ⟨⟨z0, z1, z2, z3, z4, z5, z6⟩, f0, f1, f2, f3, f4, f5, f6⟩ := box7 b0.1
    have hl1 : w.heap.size + 1 < W0.heap.size := (Array.getElem?_eq_some_iff.1 b0.1).1
    clear hw b0
    go_enter Tryz.func18, Tryz.ntmps18
    go_wp2_with (go_at_call 44; refine C1.out.mono ?_; clear C1 hW0; rintro e w1 ⟨rfl, rfl⟩)
    exact bodyPost_ret (v := .tuple #[sv sm0, .int .i64 1]) (by simp [results, Tryz.results18, go_sem, z0, z1, z2, z3, z4, z5, z6, sm0]) rfl ⟨rfl, set7_belowB (Nat.le_succ _) HB.out.2 _ _ _ _ _ _ _⟩
  | true =>
    have hw' := hw
    simp [wthn] at hw'
    obtain ⟨⟨c1, c2⟩, c3⟩ := hw'
    obtain ⟨i, hi⟩ : ∃ i : Nat, f.toNat = i := ⟨_, rfl⟩
    obtain ⟨j, hj⟩ : ∃ j : Nat, g.toNat = j := ⟨_, rfl⟩
    have e1 : f = (i : Int) := by omega
    have e2 : g = (j : Int) := by omega
    simp only [if_true]
    rw [hi, hj]
    subst e1
    subst e2
    have d1 : i ≤ j := by omega
    have d2 : j ≤ s.size := by omega
    have C1 : Hid (Calls Tryz.prog 44 #[.int .i64 i, .int .i64 j, .int .i64 s.size] W0 fun e W' => e = .returned (.bool true) ∧ W0 = W') := (finside_any i j s.size W0).mono fun e W' ⟨h1, h2⟩ => ⟨by rw [h1, hw], h2⟩
    have C2 : Hid (Calls Tryz.prog 40 #[.string (s.extract i j)] W0 fun e W' => e = .returned (sv (smr (s.extract i j))) ∧ Hid (Bxb w (w.heap.size + 1) W')) := (rmeasure_any (s.extract i j) (by rw [size_extract _ _ _ (by omega)]; omega) W0).mono fun e W' ⟨h1, h2⟩ => ⟨h1, b0.below h2⟩
    generalize smr (s.extract i j) = M at C2 ⊢
    clear hw hi hj c1 c2 c3 b0
    go_enter Tryz.func18, Tryz.ntmps18
    go_wp2_with (first | (go_at_call 44; refine C1.out.mono ?_; clear C1 hW0; rintro e w1 ⟨rfl, rfl⟩) | (go_at_call 40; refine C2.out.mono ?_; clear C2; rintro e w2 ⟨rfl, h⟩; obtain ⟨⟨z0, z1, z2, z3, z4, z5, z6⟩, f0, f1, f2, f3, f4, f5, f6⟩ := box7 h.out.1; have hl1 : w.heap.size + 1 < w2.heap.size := (Array.getElem?_eq_some_iff.1 h.out.1).1))
    exact bodyPost_ret (v := .tuple #[sv M, .int .i64 0]) (by simp [results, Tryz.results18, go_sem, z0, z1, z2, z3, z4, z5, z6]) rfl ⟨rfl, set7_belowB (Nat.le_succ _) h.out.2 _ _ _ _ _ _ _⟩
/-- the text that Replace makes -/
def rpT (s : ByteArray) (i c : Nat) (put : ByteArray) : ByteArray := s.extract 0 i ++ put ++ s.extract (i + c) s.size
set_option maxRecDepth 100000 in
set_option maxHeartbeats 1000000 in
theorem frep_ok (s : ByteArray) (i c : Nat) (put : ByteArray) (hs : s.size + put.size ≤ 1099511627776) (hc : i + c ≤ s.size) (w : World) :
    Calls Tryz.prog 13 #[vr s, .int .i64 i, .int .i64 c, .string put] w fun e W' => e = .returned (.tuple #[vr (rpT s i c put), .string (s.extract i (i + c)), .int .i64 0]) ∧ Below w.heap.size w W' := by
  obtain ⟨j, hj⟩ : ∃ j, i + c = j := ⟨_, rfl⟩
  unfold rpT
  rw [hj]
  have e1 : (i : Int) + c = (j : Int) := by omega
  have b1 : i ≤ j := by omega
  have b2 : j ≤ s.size := by omega
  have b3 : s.size ≤ 1099511627776 := by omega
  have b4 : put.size ≤ 1099511627776 := by omega
  have b5 : ¬ (s.size : Int) - i < c := by omega
  have b6 : ¬ (s.size : Int) < i := by omega
  have z1 : (s.extract 0 i).size ≤ 1099511627776 := by rw [size_extract _ _ _ (by omega)]; omega
  have z2 : (s.extract j s.size).size ≤ 1099511627776 := by rw [size_extract _ _ _ (by omega)]; omega
  clear hs hc hj
  go_enter Tryz.func13, Tryz.ntmps13
  go_wp2
  go_region
  go_wp2
  exact bodyPost_ret (v := .tuple #[vr (s.extract 0 i ++ put ++ s.extract j s.size), .string (s.extract i j), .int .i64 0]) (by simp [results, Tryz.results13, go_sem]) rfl ⟨rfl, (((Below.refl _ w).alloc (Nat.le_refl _) _).alloc (by simp) _).drew⟩
set_option maxRecDepth 100000 in
set_option maxHeartbeats 1000000 in
theorem frep_no (s : ByteArray) (a c : Int) (put : ByteArray) (hs : s.size ≤ 1099511627776) (ha : -9223372036854775808 ≤ a ∧ a ≤ 9223372036854775807) (hc : a < 0 ∨ c < 0 ∨ (s.size : Int) < a + c) (w : World) :
    Calls Tryz.prog 13 #[vr s, .int .i64 a, .int .i64 c, .string put] w fun e W' => e = .returned (.tuple #[vr noB, .string noB, .int .i64 1]) ∧ Below w.heap.size w W' := by
  have hb := ((Below.refl _ w).alloc (Nat.le_refl _) (.cells #[.string s] 28)).alloc (by simp) (.cells #[.string ⟨#[]⟩] 28)
  have fin : ∀ W, Below w.heap.size w W → Below w.heap.size w (W.setCell ⟨w.heap.size + 1, 0, none⟩ (.string ⟨#[]⟩)) := fun W h => h.setCell (p := ⟨w.heap.size + 1, 0, none⟩) (Nat.le_succ _) _
  by_cases c1 : a < 0
  · clear hc
    go_enter Tryz.func13, Tryz.ntmps13
    go_wp2
    exact bodyPost_ret (v := .tuple #[vr noB, .string noB, .int .i64 1]) (by simp [results, Tryz.results13, go_sem, noB]) rfl ⟨rfl, by first | exact hb | exact fin _ hb⟩
  · by_cases c2 : c < 0
    · clear hc
      go_enter Tryz.func13, Tryz.ntmps13
      go_wp2
      exact bodyPost_ret (v := .tuple #[vr noB, .string noB, .int .i64 1]) (by simp [results, Tryz.results13, go_sem, noB]) rfl ⟨rfl, by first | exact hb | exact fin _ hb⟩
    · by_cases c3 : (s.size : Int) < a
      · clear hc
        go_enter Tryz.func13, Tryz.ntmps13
        go_wp2
        exact bodyPost_ret (v := .tuple #[vr noB, .string noB, .int .i64 1]) (by simp [results, Tryz.results13, go_sem, noB]) rfl ⟨rfl, by first | exact hb | exact fin _ hb⟩
      · have c4 : (s.size : Int) - a < c := by omega
        have c5 : 0 ≤ a := by omega
        clear hc
        go_enter Tryz.func13, Tryz.ntmps13
        go_wp2
        exact bodyPost_ret (v := .tuple #[vr noB, .string noB, .int .i64 1]) (by simp [results, Tryz.results13, go_sem, noB]) rfl ⟨rfl, by first | exact hb | exact fin _ hb⟩
set_option maxRecDepth 100000 in
set_option maxHeartbeats 1000000 in
theorem fsplit_ok (s : ByteArray) (i : Nat) (hc : i ≤ s.size) (w : World) :
    Calls Tryz.prog 20 #[vr s, .int .i64 i] w fun e W' => e = .returned (.tuple #[vr (s.extract 0 i), vr (s.extract i s.size), .int .i64 0]) ∧ Below w.heap.size w W' := by
  have b6 : ¬ (s.size : Int) < i := by omega
  go_enter Tryz.func20, Tryz.ntmps20
  go_wp2
  go_region
  go_wp2
  exact bodyPost_ret (v := .tuple #[vr (s.extract 0 i), vr (s.extract i s.size), .int .i64 0]) (by simp [results, Tryz.results20, go_sem]) rfl ⟨rfl, ((((Below.refl _ w).alloc (Nat.le_refl _) _).alloc (by simp) _).alloc (by simp; omega) _).drew⟩
set_option maxRecDepth 100000 in
set_option maxHeartbeats 1000000 in
theorem fsplit_no (s : ByteArray) (a : Int) (hc : wthn s.size 0 a = false) (w : World) :
    Calls Tryz.prog 20 #[vr s, .int .i64 a] w fun e W' => e = .returned (.tuple #[vr noB, vr noB, .int .i64 1]) ∧ Below w.heap.size w W' := by
  have hb := (((Below.refl _ w).alloc (Nat.le_refl _) (.cells #[.string s] 28)).alloc (by simp) (.cells #[.string ⟨#[]⟩] 28)).alloc (by simp; omega) (.cells #[.string ⟨#[]⟩] 28)
  have hc' : a < 0 ∨ (s.size : Int) < a := by simp [wthn] at hc; omega
  clear hc
  by_cases c1 : a < 0
  · clear hc'
    go_enter Tryz.func20, Tryz.ntmps20
    go_wp2
    exact bodyPost_ret (v := .tuple #[vr noB, vr noB, .int .i64 1]) (by simp [results, Tryz.results20, go_sem, noB]) rfl ⟨rfl, hb⟩
  · have c2 : (s.size : Int) < a := by omega
    clear hc'
    go_enter Tryz.func20, Tryz.ntmps20
    go_wp2
    exact bodyPost_ret (v := .tuple #[vr noB, vr noB, .int .i64 1]) (by simp [results, Tryz.results20, go_sem, noB]) rfl ⟨rfl, hb⟩
end Go.Proofs.YtlonnglebknhbaaGreatDoor
