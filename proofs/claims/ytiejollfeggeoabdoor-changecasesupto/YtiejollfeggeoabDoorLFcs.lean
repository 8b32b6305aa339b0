/-
  The walk of the law ChangeCases: the commands of case put the forms of what a kill of the words would cut. Conditions: those of walk_of.
-/
import Derived.Test.YtiejollfeggeoabDoorFBox
namespace Go.Proofs.YtiejollfeggeoabDoor.changeCases
open Go.RowKit Go.Shelf Go.Sort Bod Wid

theorem of_case (s : ByteArray) (k c i r : Int) (hk : k = 26 ∨ k = 27 ∨ k = 28) : ofP s k c i r = caseP k s (snp s i) (rpt (aheadW (words s) s.size) (cntP c) (snp s i)) := by
  unfold ofP
  rcases hk with rfl | rfl | rfl
  all_goals
    rw [if_pos (by decide)]
    rfl
theorem of_kill (s : ByteArray) (c i r : Int) : ofP s 16 c i r = killP s (snp s i) (rpt (aheadW (words s) s.size) (cntP c) (snp s i)) := by
  unfold ofP
  rw [if_pos (by decide)]
  rfl
/-- what is read and written: the four changes -/
def chK (s : ByteArray) (a R : Nat) : Chg := ⟨a, R - a, ⟨#[]⟩, a, s.extract a R, false⟩
def chF (k : Int) (s : ByteArray) (a R : Nat) : Chg := ⟨a, R - a, frm k (s.extract a R), R, ⟨#[]⟩, false⟩
theorem kill_is {s : ByteArray} {a R : Nat} (h : a < R) : killP s a R = (chK s a R, 0) := by
  unfold killP chK
  rw [if_neg (by omega), Nat.min_eq_left (by omega), Nat.max_eq_right (by omega), decide_eq_false (by omega)]
theorem case_is {k : Int} {s : ByteArray} {a R : Nat} (h : a < R) (hR : R ≤ s.size) : caseP k s a R = (chF k s a R, 0) := by
  unfold caseP chF
  rw [if_neg (by omega), frm_size, size_extract s a R hR, show a + (R - a) = R by omega]
set_option maxRecDepth 100000 in
set_option maxHeartbeats 4000000 in
theorem walk (hM : Tryd.prog.follows .mixedOrders = true) (s : ByteArray) (hs : s.size ≤ 1048576) (x : Ak) (hx : x.fit) (w : World) (hT : Tw w) :
    Calls Tryd.prog 3 #[.string s, akv x] w fun e W' => e = .returned (.bool true) ∧ Below w.heap.size w W' := by
  have C0 : Hid (∀ W, Bx w x [] W → Calls Tryd.prog 4 #[] W fun e W' => e = .returned (.bool true) ∧ Hid (Bx w x [] W')) := fun W hW => (awake_any hM W (hT.below hW.bel)).mono fun e W' ⟨k1, k2⟩ => ⟨k1, hW.below k2⟩
  have HB : Hid (Bx w x [] (w.alloc (.cells #[.int .i64 x.k, .int .i64 x.c, .int .i64 x.i, .int .i64 x.r] 23))) := bx0 w x
  have CO := fun (k : Int) W (hW : Below w.heap.size w W) => Of_any hM s (by omega) k x.c x.i x.r hx.2.2.1.2 hx.2.2.2.2 ⟨#[]⟩ 0 W (hT.below hW)
  have e16 := of_kill s x.c x.i x.r
  have e26 := of_case s 26 x.c x.i x.r (.inl rfl)
  have e27 := of_case s 27 x.c x.i x.r (.inr (.inl rfl))
  have e28 := of_case s 28 x.c x.i x.r (.inr (.inr rfl))
  have hacb := (snp_is s x.i).cb
  obtain ⟨a, ha⟩ : ∃ a, snp s x.i = a := ⟨_, rfl⟩
  rw [ha] at e16 e26 e27 e28 hacb
  have hst : stF 16 s = aheadW (words s) s.size := rfl
  have hR := rst_right (k := 16) (s := s) rfl (cntP x.c) a hacb
  rw [hst] at hR
  obtain ⟨R, hRe⟩ : ∃ R, rpt (aheadW (words s) s.size) (cntP x.c) a = R := ⟨_, rfl⟩
  rw [hRe] at e16 e26 e27 e28 hR
  unfold akv
  by_cases h0 : R = a
  · have f16 : ofP s 16 x.c x.i x.r = (chz, 8) := by rw [e16, h0]; unfold killP; rw [if_pos rfl]
    have f26 : ofP s 26 x.c x.i x.r = (chz, 8) := by rw [e26, h0]; unfold caseP; rw [if_pos rfl]
    have f27 : ofP s 27 x.c x.i x.r = (chz, 8) := by rw [e27, h0]; unfold caseP; rw [if_pos rfl]
    have f28 : ofP s 28 x.c x.i x.r = (chz, 8) := by rw [e28, h0]; unfold caseP; rw [if_pos rfl]
    have D : Hid (∀ (k : Int) W L, (k = 16 ∨ k = 26 ∨ k = 27 ∨ k = 28) → Bx w x L W → Calls Tryd.prog 5 #[.agg #[.int .i64 k, .int .i64 x.c, .string ⟨#[]⟩, .int .u8 0], .string s, .int .i64 x.i, .int .i64 x.r] W fun e W' => e = .returned (.tuple #[.agg #[.int .i64 0, .int .i64 0, .string ⟨#[]⟩, .int .i64 0, .string ⟨#[]⟩, .bool false], .int .i64 8]) ∧ Hid (Bx w x L W')) := fun k W L hk hW => by
      have := CO k W hW.bel
      have e : ofP s k x.c x.i x.r = (chz, 8) := by
        rcases hk with rfl | rfl | rfl | rfl
        · exact f16
        · exact f26
        · exact f27
        · exact f28
      rw [e] at this
      exact this.mono fun e W' ⟨k1, k2⟩ => ⟨k1, hW.below k2⟩
    have HN : Hid (∀ W L, Bx w x L W → Bx w x L (W.alloc (.cells #[.int .i64 0, .int .i64 0, .string ⟨#[]⟩, .int .i64 0, .string ⟨#[]⟩, .bool false] 28))) := fun W L h => h.below ((Below.refl _ W).alloc (Nat.le_refl _) _)
    clear CO e16 e26 e27 e28 f16 f26 f27 f28 hacb hR hRe ha hT hst h0 hx
    go_enter Tryd.func3, Tryd.ntmps3
    go_upto_region 3 with (go_at_call 4; refine (C0.out _ HB.out).mono ?_; clear C0 HB; rintro e w1 ⟨rfl, HB⟩)
    obtain ⟨c0, c1, c2, c3⟩ := HB.out.get
    go_upto_region 4 with (go_at_call 5; refine (D.out 16 _ _ (by simp) HB.out).mono ?_; clear HB c0 c1 c2 c3; rintro e w2 ⟨rfl, HB0⟩; have HB := HB0; clear HB0)
    have HC : Hid (Bx w x [] (w2.alloc (.cells #[.int .i64 0, .int .i64 0, .string ⟨#[]⟩, .int .i64 0, .string ⟨#[]⟩, .bool false] 28))) := HN.out _ _ HB.out
    generalize w2.alloc (.cells #[.int .i64 0, .int .i64 0, .string ⟨#[]⟩, .int .i64 0, .string ⟨#[]⟩, .bool false] 28) = w3 at HC ⊢
    clear HB
    obtain ⟨c0, c1, c2, c3⟩ := HC.out.get
    go_upto_region 5 with (go_at_call 5; refine (D.out 26 _ _ (by simp) HC.out).mono ?_; clear HC c0 c1 c2 c3; rintro e w4 ⟨rfl, HB⟩)
    have HC : Hid (Bx w x [] (w4.alloc (.cells #[.int .i64 0, .int .i64 0, .string ⟨#[]⟩, .int .i64 0, .string ⟨#[]⟩, .bool false] 28))) := HN.out _ _ HB.out
    generalize w4.alloc (.cells #[.int .i64 0, .int .i64 0, .string ⟨#[]⟩, .int .i64 0, .string ⟨#[]⟩, .bool false] 28) = w5 at HC ⊢
    clear HB
    obtain ⟨c0, c1, c2, c3⟩ := HC.out.get
    go_upto_region 6 with (go_at_call 5; refine (D.out 27 _ _ (by simp) HC.out).mono ?_; clear HC c0 c1 c2 c3; rintro e w6 ⟨rfl, HB⟩)
    have HC : Hid (Bx w x [] (w6.alloc (.cells #[.int .i64 0, .int .i64 0, .string ⟨#[]⟩, .int .i64 0, .string ⟨#[]⟩, .bool false] 28))) := HN.out _ _ HB.out
    generalize w6.alloc (.cells #[.int .i64 0, .int .i64 0, .string ⟨#[]⟩, .int .i64 0, .string ⟨#[]⟩, .bool false] 28) = w7 at HC ⊢
    clear HB
    obtain ⟨c0, c1, c2, c3⟩ := HC.out.get
    go_upto_region 7 with (go_at_call 5; refine (D.out 28 _ _ (by simp) HC.out).mono ?_; clear HC c0 c1 c2 c3; rintro e w8 ⟨rfl, HB⟩)
    have HC : Hid (Bx w x [] (w8.alloc (.cells #[.int .i64 0, .int .i64 0, .string ⟨#[]⟩, .int .i64 0, .string ⟨#[]⟩, .bool false] 28))) := HN.out _ _ HB.out
    generalize w8.alloc (.cells #[.int .i64 0, .int .i64 0, .string ⟨#[]⟩, .int .i64 0, .string ⟨#[]⟩, .bool false] 28) = w9 at HC ⊢
    clear HB
    go_wp2
    go_ret
    exact ⟨rfl, HC.out.bel⟩
  · have hlt : a < R := by omega
    have hRs : R ≤ s.size := hR.2.1
    have g16 := fun W (hW : Below w.heap.size w W) => CO 16 W hW
    have g26 := fun W (hW : Below w.heap.size w W) => CO 26 W hW
    have g27 := fun W (hW : Below w.heap.size w W) => CO 27 W hW
    have g28 := fun W (hW : Below w.heap.size w W) => CO 28 W hW
    rw [e16, kill_is hlt] at g16
    rw [e26, case_is hlt hRs] at g26
    rw [e27, case_is hlt hRs] at g27
    rw [e28, case_is hlt hRs] at g28
    have hz : (s.extract a R).size ≤ 1048576 := by rw [size_extract s a R hRs]; omega
    obtain ⟨p, hp⟩ : ∃ p, s.extract a R = p := ⟨_, rfl⟩
    unfold chK at g16
    unfold chF at g26 g27 g28
    rw [hp] at g16 g26 g27 g28 hz
    have u26 := fun W (hW : Below w.heap.size w W) => upper_any p (by unfold maxLen; omega) (by omega) W (hT.below hW).t (hT.below hW).lo0 (hT.below hW).lo1
    have u27 := fun W (hW : Below w.heap.size w W) => lower_any p (by unfold maxLen; omega) (by omega) W (hT.below hW).t (hT.below hW).lo0 (hT.below hW).lo1
    have u28 := fun W (hW : Below w.heap.size w W) => capital_any p (by unfold maxLen; omega) (by omega) W (hT.below hW).t (hT.below hW).lo0 (hT.below hW).lo1
    change ∀ W, Below w.heap.size w W → Calls Tryd.prog 6 #[.string p] W fun e W' => e = .returned (.string (frm 26 p)) ∧ Below W.heap.size W W' at u26
    change ∀ W, Below w.heap.size w W → Calls Tryd.prog 7 #[.string p] W fun e W' => e = .returned (.string (frm 27 p)) ∧ Below W.heap.size W W' at u27
    change ∀ W, Below w.heap.size w W → Calls Tryd.prog 8 #[.string p] W fun e W' => e = .returned (.string (frm 28 p)) ∧ Below W.heap.size W W' at u28
    generalize frm 26 p = y6 at g26 u26
    generalize frm 27 p = y7 at g27 u27
    generalize frm 28 p = y8 at g28 u28
    have G16 : Hid (∀ W L, Bx w x L W → Calls Tryd.prog 5 #[.agg #[.int .i64 16, .int .i64 x.c, .string ⟨#[]⟩, .int .u8 0], .string s, .int .i64 x.i, .int .i64 x.r] W fun e W' => e = .returned (.tuple #[.agg #[.int .i64 a, .int .i64 (R - a : Nat), .string ⟨#[]⟩, .int .i64 a, .string p, .bool false], .int .i64 0]) ∧ Hid (Bx w x L W')) := fun W L hW => (g16 W hW.bel).mono fun e W' ⟨k1, k2⟩ => ⟨k1, hW.below k2⟩
    have G26 : Hid (∀ W L, Bx w x L W → Calls Tryd.prog 5 #[.agg #[.int .i64 26, .int .i64 x.c, .string ⟨#[]⟩, .int .u8 0], .string s, .int .i64 x.i, .int .i64 x.r] W fun e W' => e = .returned (.tuple #[.agg #[.int .i64 a, .int .i64 (R - a : Nat), .string y6, .int .i64 R, .string ⟨#[]⟩, .bool false], .int .i64 0]) ∧ Hid (Bx w x L W')) := fun W L hW => (g26 W hW.bel).mono fun e W' ⟨k1, k2⟩ => ⟨k1, hW.below k2⟩
    have G27 : Hid (∀ W L, Bx w x L W → Calls Tryd.prog 5 #[.agg #[.int .i64 27, .int .i64 x.c, .string ⟨#[]⟩, .int .u8 0], .string s, .int .i64 x.i, .int .i64 x.r] W fun e W' => e = .returned (.tuple #[.agg #[.int .i64 a, .int .i64 (R - a : Nat), .string y7, .int .i64 R, .string ⟨#[]⟩, .bool false], .int .i64 0]) ∧ Hid (Bx w x L W')) := fun W L hW => (g27 W hW.bel).mono fun e W' ⟨k1, k2⟩ => ⟨k1, hW.below k2⟩
    have G28 : Hid (∀ W L, Bx w x L W → Calls Tryd.prog 5 #[.agg #[.int .i64 28, .int .i64 x.c, .string ⟨#[]⟩, .int .u8 0], .string s, .int .i64 x.i, .int .i64 x.r] W fun e W' => e = .returned (.tuple #[.agg #[.int .i64 a, .int .i64 (R - a : Nat), .string y8, .int .i64 R, .string ⟨#[]⟩, .bool false], .int .i64 0]) ∧ Hid (Bx w x L W')) := fun W L hW => (g28 W hW.bel).mono fun e W' ⟨k1, k2⟩ => ⟨k1, hW.below k2⟩
    have U26 : Hid (∀ W, Below w.heap.size w W → Calls Tryd.prog 6 #[.string p] W fun e W' => e = .returned (.string y6) ∧ Below W.heap.size W W') := u26
    have U27 : Hid (∀ W, Below w.heap.size w W → Calls Tryd.prog 7 #[.string p] W fun e W' => e = .returned (.string y7) ∧ Below W.heap.size W W') := u27
    have U28 : Hid (∀ W, Below w.heap.size w W → Calls Tryd.prog 8 #[.string p] W fun e W' => e = .returned (.string y8) ∧ Below W.heap.size W W') := u28
    have HM : Hid (Tryd.prog.follows .mixedOrders = true) := hM
    have s1 : (a : Int) + (R - a : Nat) = R := by omega
    have s2 : (R : Int) ≤ 1048576 := by omega
    clear CO e16 e26 e27 e28 g16 g26 g27 g28 u26 u27 u28 hacb hR hRe ha hT hst h0 hx hp hM
    go_enter Tryd.func3, Tryd.ntmps3
    go_upto_region 3 with (go_at_call 4; refine (C0.out _ HB.out).mono ?_; clear C0 HB; rintro e w1 ⟨rfl, HB⟩)
    obtain ⟨c0, c1, c2, c3⟩ := HB.out.get
    go_upto_region 4 with (go_at_call 5; refine (G16.out _ _ HB.out).mono ?_; clear G16 HB c0 c1 c2 c3; rintro e w2 ⟨rfl, HB⟩)
    have HC : Hid (Bx w x [(w2.heap.size, ⟨a, R - a, ⟨#[]⟩, a, p, false⟩)] (w2.alloc (.cells #[.int .i64 a, .int .i64 (R - a : Nat), .string ⟨#[]⟩, .int .i64 a, .string p, .bool false] 28))) := HB.out.new ⟨a, R - a, ⟨#[]⟩, a, p, false⟩
    generalize w2.alloc (.cells #[.int .i64 a, .int .i64 (R - a : Nat), .string ⟨#[]⟩, .int .i64 a, .string p, .bool false] 28) = w3 at HC ⊢
    generalize w2.heap.size = b1 at HC ⊢
    clear HB
    obtain ⟨c0, c1, c2, c3⟩ := HC.out.get
    go_upto_region 5 with (go_at_call 5; refine (G26.out _ _ HC.out).mono ?_; clear G26 HC c0 c1 c2 c3; rintro e w4 ⟨rfl, HB⟩)
    have HC : Hid (Bx w x [(b1, ⟨a, R - a, ⟨#[]⟩, a, p, false⟩), (w4.heap.size, ⟨a, R - a, y6, R, ⟨#[]⟩, false⟩)] (w4.alloc (.cells #[.int .i64 a, .int .i64 (R - a : Nat), .string y6, .int .i64 R, .string ⟨#[]⟩, .bool false] 28))) := HB.out.new ⟨a, R - a, y6, R, ⟨#[]⟩, false⟩
    generalize w4.alloc (.cells #[.int .i64 a, .int .i64 (R - a : Nat), .string y6, .int .i64 R, .string ⟨#[]⟩, .bool false] 28) = w5 at HC ⊢
    generalize w4.heap.size = b2 at HC ⊢
    clear HB
    obtain ⟨c0, c1, c2, c3⟩ := HC.out.get
    go_upto_region 6 with (go_at_call 5; refine (G27.out _ _ HC.out).mono ?_; clear G27 HC c0 c1 c2 c3; rintro e w6 ⟨rfl, HB⟩)
    have HC : Hid (Bx w x [(b1, ⟨a, R - a, ⟨#[]⟩, a, p, false⟩), (b2, ⟨a, R - a, y6, R, ⟨#[]⟩, false⟩), (w6.heap.size, ⟨a, R - a, y7, R, ⟨#[]⟩, false⟩)] (w6.alloc (.cells #[.int .i64 a, .int .i64 (R - a : Nat), .string y7, .int .i64 R, .string ⟨#[]⟩, .bool false] 28))) := HB.out.new ⟨a, R - a, y7, R, ⟨#[]⟩, false⟩
    generalize w6.alloc (.cells #[.int .i64 a, .int .i64 (R - a : Nat), .string y7, .int .i64 R, .string ⟨#[]⟩, .bool false] 28) = w7 at HC ⊢
    generalize w6.heap.size = b3 at HC ⊢
    clear HB
    obtain ⟨c0, c1, c2, c3⟩ := HC.out.get
    go_upto_region 7 with (go_at_call 5; refine (G28.out _ _ HC.out).mono ?_; clear G28 HC c0 c1 c2 c3; rintro e w8 ⟨rfl, HB⟩)
    have HC : Hid (Bx w x [(b1, ⟨a, R - a, ⟨#[]⟩, a, p, false⟩), (b2, ⟨a, R - a, y6, R, ⟨#[]⟩, false⟩), (b3, ⟨a, R - a, y7, R, ⟨#[]⟩, false⟩), (w8.heap.size, ⟨a, R - a, y8, R, ⟨#[]⟩, false⟩)] (w8.alloc (.cells #[.int .i64 a, .int .i64 (R - a : Nat), .string y8, .int .i64 R, .string ⟨#[]⟩, .bool false] 28))) := HB.out.new ⟨a, R - a, y8, R, ⟨#[]⟩, false⟩
    generalize w8.alloc (.cells #[.int .i64 a, .int .i64 (R - a : Nat), .string y8, .int .i64 R, .string ⟨#[]⟩, .bool false] 28) = w9 at HC ⊢
    generalize w8.heap.size = b4 at HC ⊢
    clear HB
    obtain ⟨m0, m1, m2, m3, m4, m5⟩ := HC.out.at' (b := b1) (c := ⟨a, R - a, ⟨#[]⟩, a, p, false⟩) (by simp)
    obtain ⟨n0, n1, n2, n3, n4, n5⟩ := HC.out.at' (b := b2) (c := ⟨a, R - a, y6, R, ⟨#[]⟩, false⟩) (by simp)
    obtain ⟨o0, o1, o2, o3, o4, o5⟩ := HC.out.at' (b := b3) (c := ⟨a, R - a, y7, R, ⟨#[]⟩, false⟩) (by simp)
    obtain ⟨q0, q1, q2, q3, q4, q5⟩ := HC.out.at' (b := b4) (c := ⟨a, R - a, y8, R, ⟨#[]⟩, false⟩) (by simp)
    simp only at m0 m1 m2 m3 m4 m5 n0 n1 n2 n3 n4 n5 o0 o1 o2 o3 o4 o5 q0 q1 q2 q3 q4 q5
    go_upto_region 12 with fail
    have e1 := cell_rgw m0
    have e2 := cell_rgw m1
    have e3 := cell_rgw m4
    have e4 := cell_rgw n0
    have e5 := cell_rgw n1
    have e6 := cell_rgw n2
    have e7 := cell_rgw o0
    have e8 := cell_rgw o1
    have e9 := cell_rgw o2
    have k1 := call_rgw (W := w9) fun W hW => U26.out W (below_on HC.out.bel hW)
    have k2 := call_rgw (W := w9) fun W hW => U27.out W (below_on HC.out.bel hW)
    refine wp_region_quiet_below HM.out (by kernel_rfl) ?_
    repeat (go_big_quiet_step (first | exact k1 _ _ | exact k2 _ _))
    refine wpQuiet_nil ?_
    intro _ hw'
    obtain ⟨⟨dq, osq⟩, hw''⟩ := hw'
    subst hw''
    have HD : Hid (Bx w x [(b1, ⟨a, R - a, ⟨#[]⟩, a, p, false⟩), (b2, ⟨a, R - a, y6, R, ⟨#[]⟩, false⟩), (b3, ⟨a, R - a, y7, R, ⟨#[]⟩, false⟩), (b4, ⟨a, R - a, y8, R, ⟨#[]⟩, false⟩)] (Go.Sort.grow (redrawn w9 dq) osq)) := HC.out.below (below_regrown w9 dq osq)
    generalize Go.Sort.grow (redrawn w9 dq) osq = w10 at HD ⊢
    clear e1 e2 e3 e4 e5 e6 e7 e8 e9 k1 k2 U26 U27 HC m0 m1 m2 m3 m4 m5 n0 n1 n2 n3 n4 n5 o0 o1 o2 o3 o4 o5 q0 q1 q2 q3 q4 q5
    obtain ⟨m0, m1, _, _, m4, _⟩ := HD.out.at' (b := b1) (c := ⟨a, R - a, ⟨#[]⟩, a, p, false⟩) (by simp)
    obtain ⟨_, _, _, n3, n4, _⟩ := HD.out.at' (b := b2) (c := ⟨a, R - a, y6, R, ⟨#[]⟩, false⟩) (by simp)
    obtain ⟨_, _, _, o3, o4, _⟩ := HD.out.at' (b := b3) (c := ⟨a, R - a, y7, R, ⟨#[]⟩, false⟩) (by simp)
    obtain ⟨q0, q1, q2, q3, q4, _⟩ := HD.out.at' (b := b4) (c := ⟨a, R - a, y8, R, ⟨#[]⟩, false⟩) (by simp)
    simp only at m0 m1 m4 n3 n4 o3 o4 q0 q1 q2 q3 q4
    go_upto_region 14 with fail
    have e1 := cell_rgw m0
    have e2 := cell_rgw m1
    have e3 := cell_rgw m4
    have e4 := cell_rgw n3
    have e5 := cell_rgw n4
    have e6 := cell_rgw o3
    have e7 := cell_rgw o4
    have e8 := cell_rgw q0
    have e9 := cell_rgw q1
    have f1 := cell_rgw q2
    have f2 := cell_rgw q3
    have f3 := cell_rgw q4
    have k1 := call_rgw (W := w10) fun W hW => U28.out W (below_on HD.out.bel hW)
    refine wp_region_quiet_below HM.out (by kernel_rfl) ?_
    repeat (go_big_quiet_step (exact k1 _ _))
    refine wpQuiet_nil ?_
    intro _ hw'
    obtain ⟨⟨dq, osq⟩, hw''⟩ := hw'
    subst hw''
    have HC := HD.out.bel
    have hF := below_on HC (below_regrown w10 dq osq)
    generalize Go.Sort.grow (redrawn w10 dq) osq = w11 at hF ⊢
    clear e1 e2 e3 e4 e5 e6 e7 e8 e9 f1 f2 f3 k1
    go_wp2
    go_ret
    exact ⟨by simp, hF⟩
theorem walk_of {H : Type} {d : DataW H} (s : ByteArray) (x : Ak) (w : World) (hT : Lib.Utf8Tabs 1 2 w) (hlo0 : 1 < w.heap.size) (hlo1 : 2 < w.heap.size) (_hs : s.size ≤ 140737488351232) (hx : x.fit) (hk : Rows.uptoSmall H ([DataW.lit (.string s.data.toList), d] ++ []) = true) :
    Calls Tryd.prog 3 #[.string s, akv x] w fun e w' => e = .returned (.bool true) ∧ Below w.heap.size w w' := by
  have h : Rows.uptoBulkAll ([DataW.lit (H := H) (.string s.data.toList), d] ++ []) ≤ 1048576 := of_decide_eq_true hk
  simp only [List.append_nil, Rows.uptoBulkAll, Rows.uptoBulk] at h
  exact walk (by kernel_rfl) s (by rw [Lib.size_eq]; omega) x hx w ⟨hT, hlo0, hlo1⟩
end Go.Proofs.YtiejollfeggeoabDoor.changeCases
