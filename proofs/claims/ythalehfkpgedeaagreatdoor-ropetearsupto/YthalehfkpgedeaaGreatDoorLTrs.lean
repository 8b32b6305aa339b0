/-
  The law RopeTears returns true for every text and number: a rope split anywhere and laid together again has the text and the sum that it had. Its conditions: the text holds at most 1048576 letters; the two tables of unicode/utf8 start as the program's text lays them (the card ties that).
-/
import Derived.Test.YthalehfkpgedeaaGreatDoorRLaw
namespace Go.Proofs.YthalehfkpgedeaaGreatDoor.ropeTears
open Go.RowKit Go.Shelf Bod Wid

abbrev ptr (b : Nat) : Value := .pointer (some ⟨b, 0, none⟩)
set_option maxRecDepth 100000 in
set_option maxHeartbeats 2000000 in
theorem walk (s : ByteArray) (at' : Nat) (hs : s.size ≤ 1048576) (hat : at' ≤ 65535) (w : World) (hE : Ev w) :
    Calls Tryz.prog 6 #[.string s, .int .u16 at'] w fun e w' => e = .returned (.bool true) ∧ Below w.heap.size w w' := by
  have HM : Hid (Tryz.prog.follows .mixedOrders = true) := by show _ = _; kernel_rfl
  obtain ⟨N, hN⟩ : ∃ N, s.size = N := ⟨_, rfl⟩
  obtain ⟨n, hn⟩ : ∃ n, at' % (N + 1) = n := ⟨_, rfl⟩
  have hnN : n ≤ N := by have := Nat.mod_lt at' (show 0 < N + 1 by omega); omega
  have hrem : (at' : Int) % ((N : Int) + 1) = (n : Int) := by
    have := rem_nat at' (N + 1) (by omega)
    rw [hn] at this
    rw [← this]
    rfl
  have tg := tof_good s
  have tx := tof_text s
  obtain ⟨gA, xA, gB, xB⟩ := spl_ok tg (n := n) (by rw [tx]; omega)
  rw [tx] at xA xB
  obtain ⟨A, hA⟩ : ∃ A, (spl (tof s) n).1 = A := ⟨_, rfl⟩
  obtain ⟨B, hB⟩ : ∃ B, (spl (tof s) n).2 = B := ⟨_, rfl⟩
  rw [hA] at gA xA
  rw [hB] at gB xB
  have zA : A.text.size = n := by rw [xA, size_extract _ _ _ (by omega)]; omega
  have zB : B.text.size = N - n := by rw [xB, size_extract _ _ _ (Nat.le_refl _), hN]
  have ecut := extract_cut s n (by omega)
  have cAB := tog_ok _ (Nat.le_refl [A, B].length) (good_two gA gB)
  have cBA := tog_ok _ (Nat.le_refl [B, A].length) (good_two gB gA)
  rw [joT_two, xA, xB] at cAB cBA
  rw [ecut] at cAB
  obtain ⟨sa, hsa⟩ : ∃ sa, s.extract 0 n = sa := ⟨_, rfl⟩
  obtain ⟨sb, hsb⟩ : ∃ sb, s.extract n s.size = sb := ⟨_, rfl⟩
  rw [hsa] at xA ecut cBA
  rw [hsb] at xB ecut cBA
  have hsb' : s.extract n N = sb := by rw [← hN]; exact hsb
  obtain ⟨m, hm⟩ : ∃ m, smr s = m := ⟨_, rfl⟩
  obtain ⟨ma, hma⟩ : ∃ m, smr sa = m := ⟨_, rfl⟩
  obtain ⟨mb, hmb⟩ : ∃ m, smr sb = m := ⟨_, rfl⟩
  -- the calls
  have C0 : Hid (Calls Tryz.prog 9 #[] w fun e W' => e = .returned (.bool true) ∧ Hid (Below w.heap.size w W')) := holds_any w hE
  have C1 : Hid (∀ W, Hid (Below w.heap.size w W) → Calls Tryz.prog 10 #[.string s] W fun e W' => ∃ b, e = .returned (ptr b) ∧ Hid (Rp W' (tof s) (ptr b) ∧ Below w.heap.size w W')) := fun W hW => (rnew_any s (by unfold B40; omega) W (hE.below hW)).mono fun e W' h => by
    obtain ⟨b, h1, h2, h3⟩ := MkR.rp h
    exact ⟨b, h1, h2, Below.on hW h3⟩
  have C2 : Hid (∀ W r, Hid (Rp W (tof s) (ptr r) ∧ Below w.heap.size w W) → Calls Tryz.prog 22 #[ptr r] W fun e W' => e = .returned (.int .i64 N) ∧ Hid (Rp W' (tof s) (ptr r) ∧ Below w.heap.size w W')) := fun W r ⟨h1, hW⟩ => (rlen_any h1).mono fun e W' ⟨k1, k2⟩ => ⟨by rw [k1, tx, hN], h1.below k2, Below.on hW k2⟩
  have C3 : Hid (∀ W r, Hid (Rp W (tof s) (ptr r) ∧ Below w.heap.size w W) → Calls Tryz.prog 20 #[ptr r, .int .i64 n] W fun e W' => ∃ a b, e = .returned (.tuple #[ptr a, ptr b, .int .i64 0]) ∧ Hid (Rp W' (tof s) (ptr r) ∧ Rp W' A (ptr a) ∧ Rp W' B (ptr b) ∧ Below w.heap.size w W')) := fun W r ⟨h1, hW⟩ =>
    (rsplit_ok h1 tg n (by rw [tx]; unfold B40; omega) (by rw [tx]; omega) (hE.below hW)).mono fun e W' ⟨a, b, k1, k2, k3, k4⟩ => ⟨a, b, k1, h1.below k4, hA ▸ k2, hB ▸ k3, Below.on hW k4⟩
  have C4 : Hid (∀ W r a b, Hid (Rp W (tof s) (ptr r) ∧ Rp W A (ptr a) ∧ Rp W B (ptr b) ∧ Below w.heap.size w W) → Calls Tryz.prog 22 #[ptr a] W fun e W' => e = .returned (.int .i64 n) ∧ Hid (Rp W' (tof s) (ptr r) ∧ Rp W' A (ptr a) ∧ Rp W' B (ptr b) ∧ Below w.heap.size w W')) := fun W r a b ⟨h1, h2, h3, hW⟩ => (rlen_any h2).mono fun e W' ⟨k1, k2⟩ => ⟨by rw [k1, zA], h1.below k2, h2.below k2, h3.below k2, Below.on hW k2⟩
  have C5 : Hid (∀ W r a b, Hid (Rp W (tof s) (ptr r) ∧ Rp W A (ptr a) ∧ Rp W B (ptr b) ∧ Below w.heap.size w W) → Calls Tryz.prog 22 #[ptr b] W fun e W' => e = .returned (.int .i64 ((N : Int) - n)) ∧ Hid (Rp W' (tof s) (ptr r) ∧ Rp W' A (ptr a) ∧ Rp W' B (ptr b) ∧ Below w.heap.size w W')) := fun W r a b ⟨h1, h2, h3, hW⟩ => (rlen_any h3).mono fun e W' ⟨k1, k2⟩ => ⟨by rw [k1, zB, show ((N - n : Nat) : Int) = (N : Int) - n by omega], h1.below k2, h2.below k2, h3.below k2, Below.on hW k2⟩
  have C6 : Hid (∀ W r a b, Hid (Rp W (tof s) (ptr r) ∧ Rp W A (ptr a) ∧ Rp W B (ptr b) ∧ Below w.heap.size w W) → Calls Tryz.prog 12 #[.slice (some ⟨W.heap.size, 0, none⟩) 2 2] (W.alloc (.cells #[ptr a, ptr b] 25)) fun e W' => ∃ c, e = .returned (ptr c) ∧ Hid (Rp W' (tof s) (ptr r) ∧ Rp W' A (ptr a) ∧ Rp W' B (ptr b) ∧ Rp W' (tog [A, B]) (ptr c) ∧ Below w.heap.size w W')) := fun W r a b ⟨h1, h2, h3, hW⟩ =>
    (concat_two hE hW h2 h3 gA gB (by unfold B40; omega)).mono fun e W' ⟨c, k1, k2, k3⟩ => ⟨c, k1, h1.below k3, h2.below k3, h3.below k3, k2, Below.on hW k3⟩
  have C7 : Hid (∀ W r a b c, Hid (Rp W (tof s) (ptr r) ∧ Rp W A (ptr a) ∧ Rp W B (ptr b) ∧ Rp W (tog [A, B]) (ptr c) ∧ Below w.heap.size w W) → Calls Tryz.prog 12 #[.slice (some ⟨W.heap.size, 0, none⟩) 2 2] (W.alloc (.cells #[ptr b, ptr a] 25)) fun e W' => ∃ d, e = .returned (ptr d) ∧ Hid (Rp W' (tof s) (ptr r) ∧ Rp W' A (ptr a) ∧ Rp W' B (ptr b) ∧ Rp W' (tog [A, B]) (ptr c) ∧ Rp W' (tog [B, A]) (ptr d) ∧ Below w.heap.size w W')) := fun W r a b c ⟨h1, h2, h3, h4, hW⟩ =>
    (concat_two hE hW h3 h2 gB gA (by unfold B40; omega)).mono fun e W' ⟨d, k1, k2, k3⟩ => ⟨d, k1, h1.below k3, h2.below k3, h3.below k3, h4.below k3, k2, Below.on hW k3⟩
  have Q : Hid (∀ W r a b c d, Hid (Rp W (tof s) (ptr r) ∧ Rp W A (ptr a) ∧ Rp W B (ptr b) ∧ Rp W (tog [A, B]) (ptr c) ∧ Rp W (tog [B, A]) (ptr d) ∧ Below w.heap.size w W) → (∀ dd os, Calls Tryz.prog 23 #[ptr c] (Go.Sort.grow (redrawn W dd) os) fun e w'' => e = .returned (.string s) ∧ ∃ p : Regrown, w'' = Go.Sort.grow (redrawn W p.d) p.os) ∧ (∀ dd os, Calls Tryz.prog 24 #[ptr c] (Go.Sort.grow (redrawn W dd) os) fun e w'' => e = .returned (sv m) ∧ ∃ p : Regrown, w'' = Go.Sort.grow (redrawn W p.d) p.os) ∧ (∀ dd os, Calls Tryz.prog 24 #[ptr r] (Go.Sort.grow (redrawn W dd) os) fun e w'' => e = .returned (sv m) ∧ ∃ p : Regrown, w'' = Go.Sort.grow (redrawn W p.d) p.os) ∧ (∀ dd os, Calls Tryz.prog 23 #[ptr d] (Go.Sort.grow (redrawn W dd) os) fun e w'' => e = .returned (.string (sb ++ sa)) ∧ ∃ p : Regrown, w'' = Go.Sort.grow (redrawn W p.d) p.os)) := fun W r a b c d ⟨h1, h2, h3, h4, h5, hW⟩ =>
    ⟨regrown fun X hX => (rtext_any (h4.below hX) (by rw [cAB.2]; unfold B40; omega)).mono fun e W' ⟨k1, k2⟩ => ⟨by rw [k1, cAB.2], k2⟩,
     regrown fun X hX => (rsum_any (h4.below hX)).mono fun e W' ⟨k1, k2⟩ => ⟨by rw [k1, cAB.2, hm], k2⟩,
     regrown fun X hX => (rsum_any (h1.below hX)).mono fun e W' ⟨k1, k2⟩ => ⟨by rw [k1, tx, hm], k2⟩,
     regrown fun X hX => (rtext_any (h5.below hX) (by rw [cBA.2, ← hsa, ← hsb, size_app, size_extract _ _ _ (Nat.le_refl _), size_extract _ _ _ (by omega)]; unfold B40; omega)).mono fun e W' ⟨k1, k2⟩ => ⟨by rw [k1, cBA.2], k2⟩⟩
  have HG : Hid (∀ W r a b c d dd os, Hid (Rp W (tof s) (ptr r) ∧ Rp W A (ptr a) ∧ Rp W B (ptr b) ∧ Rp W (tog [A, B]) (ptr c) ∧ Rp W (tog [B, A]) (ptr d) ∧ Below w.heap.size w W) → Hid (Rp (Go.Sort.grow (redrawn W dd) os) (tof s) (ptr r) ∧ Rp (Go.Sort.grow (redrawn W dd) os) A (ptr a) ∧ Rp (Go.Sort.grow (redrawn W dd) os) B (ptr b) ∧ Below w.heap.size w (Go.Sort.grow (redrawn W dd) os))) := fun W r a b c d dd os ⟨h1, h2, h3, h4, h5, hW⟩ => by
    have hb := below_regrown W dd os
    exact ⟨h1.below hb, h2.below hb, h3.below hb, Below.on hW hb⟩
  have D1 : Hid (∀ W r a b, Hid (Rp W (tof s) (ptr r) ∧ Rp W A (ptr a) ∧ Rp W B (ptr b) ∧ Below w.heap.size w W) → Calls Tryz.prog 16 #[ptr r, .int .i64 0, .int .i64 n] W fun e W' => e = .returned (.tuple #[.string sa, .int .i64 0]) ∧ Hid (Rp W' (tof s) (ptr r) ∧ Rp W' A (ptr a) ∧ Rp W' B (ptr b) ∧ Below w.heap.size w W')) := fun W r a b ⟨h1, h2, h3, hW⟩ => (rslice_any h1 (by rw [tx]; unfold B40; omega) 0 n).mono fun e W' ⟨k1, k2⟩ => by
    have e0 : slR (tof s).text 0 n = (sa, 0) := by
      unfold slR
      rw [tx, if_pos (by simp [wthn]; omega), ← hsa]
      rfl
    rw [e0] at k1
    exact ⟨k1, h1.below k2, h2.below k2, h3.below k2, Below.on hW k2⟩
  have D2 : Hid (∀ W r a b, Hid (Rp W (tof s) (ptr r) ∧ Rp W A (ptr a) ∧ Rp W B (ptr b) ∧ Below w.heap.size w W) → Calls Tryz.prog 16 #[ptr r, .int .i64 n, .int .i64 N] W fun e W' => e = .returned (.tuple #[.string sb, .int .i64 0]) ∧ Hid (Rp W' (tof s) (ptr r) ∧ Rp W' A (ptr a) ∧ Rp W' B (ptr b) ∧ Below w.heap.size w W')) := fun W r a b ⟨h1, h2, h3, hW⟩ => (rslice_any h1 (by rw [tx]; unfold B40; omega) n N).mono fun e W' ⟨k1, k2⟩ => by
    have e0 : slR (tof s).text n N = (sb, 0) := by
      unfold slR
      rw [tx, if_pos (by simp [wthn]; omega), ← hsb']
      rfl
    rw [e0] at k1
    exact ⟨k1, h1.below k2, h2.below k2, h3.below k2, Below.on hW k2⟩
  have D3 : Hid (∀ W r a b, Hid (Rp W (tof s) (ptr r) ∧ Rp W A (ptr a) ∧ Rp W B (ptr b) ∧ Below w.heap.size w W) → Calls Tryz.prog 23 #[ptr a] W fun e W' => e = .returned (.string sa) ∧ Hid (Rp W' (tof s) (ptr r) ∧ Rp W' A (ptr a) ∧ Rp W' B (ptr b) ∧ Below w.heap.size w W')) := fun W r a b ⟨h1, h2, h3, hW⟩ => (rtext_any h2 (by unfold B40; omega)).mono fun e W' ⟨k1, k2⟩ => ⟨by rw [k1, xA], h1.below k2, h2.below k2, h3.below k2, Below.on hW k2⟩
  have D4 : Hid (∀ W r a b, Hid (Rp W (tof s) (ptr r) ∧ Rp W A (ptr a) ∧ Rp W B (ptr b) ∧ Below w.heap.size w W) → Calls Tryz.prog 23 #[ptr b] W fun e W' => e = .returned (.string sb) ∧ Hid (Rp W' (tof s) (ptr r) ∧ Rp W' A (ptr a) ∧ Rp W' B (ptr b) ∧ Below w.heap.size w W')) := fun W r a b ⟨h1, h2, h3, hW⟩ => (rtext_any h3 (by unfold B40; omega)).mono fun e W' ⟨k1, k2⟩ => ⟨by rw [k1, xB], h1.below k2, h2.below k2, h3.below k2, Below.on hW k2⟩
  have D5 : Hid (∀ W r a b, Hid (Rp W (tof s) (ptr r) ∧ Rp W A (ptr a) ∧ Rp W B (ptr b) ∧ Below w.heap.size w W) → Calls Tryz.prog 24 #[ptr a] W fun e W' => e = .returned (sv ma) ∧ Hid (Rp W' (tof s) (ptr r) ∧ Rp W' B (ptr b) ∧ Below w.heap.size w W')) := fun W r a b ⟨h1, h2, h3, hW⟩ => (rsum_any h2).mono fun e W' ⟨k1, k2⟩ => ⟨by rw [k1, xA, hma], h1.below k2, h3.below k2, Below.on hW k2⟩
  have D6 : Hid (∀ W r b, Hid (Rp W (tof s) (ptr r) ∧ Rp W B (ptr b) ∧ Below w.heap.size w W) → Calls Tryz.prog 24 #[ptr b] W fun e W' => e = .returned (sv mb) ∧ Hid (Rp W' (tof s) (ptr r) ∧ Below w.heap.size w W')) := fun W r b ⟨h1, h3, hW⟩ => (rsum_any h3).mono fun e W' ⟨k1, k2⟩ => ⟨by rw [k1, xB, hmb], h1.below k2, Below.on hW k2⟩
  have D7 : Hid (∀ W r, Hid (Rp W (tof s) (ptr r) ∧ Below w.heap.size w W) → Calls Tryz.prog 25 #[.slice (some ⟨W.heap.size, 0, none⟩) 2 2] (W.alloc (.cells (scs2 ma mb) 48)) fun e W' => e = .returned (sv m) ∧ Hid (Rp W' (tof s) (ptr r) ∧ Below w.heap.size w W')) := fun W r ⟨h1, hW⟩ => by
    have hb := (Below.refl _ W).alloc (Nat.le_refl _) (.cells (scs2 ma mb) 48)
    have hb2 := Below.on hW hb
    have e0 : cat [sa, sb] = s := by rw [cat_two, ecut]
    rw [← hma, ← hmb] at hb hb2 ⊢
    have := mjoin_any [sa, sb] _ _ (two_sums W sa sb) (by rw [e0]; omega) (by simp) (hE.below hb2).t (hE.below hb2).l0 (hE.below hb2).l1
    rw [e0, hm] at this
    exact this.mono fun e W' ⟨k1, k2⟩ => ⟨k1, (h1.below hb).below k2, Below.on hb2 k2⟩
  have D8 : Hid (∀ W r, Hid (Rp W (tof s) (ptr r) ∧ Below w.heap.size w W) → Calls Tryz.prog 24 #[ptr r] W fun e W' => e = .returned (sv m) ∧ Below w.heap.size w W') := fun W r ⟨h1, hW⟩ => (rsum_any h1).mono fun e W' ⟨k1, k2⟩ => ⟨by rw [k1, tx, hm], Below.on hW k2⟩
  have q1 := fun W => sv_eq m W
  have q2 := fun W => sv_neq m W
  have b1 : N ≤ 1048576 := by omega
  have zsa : sa.size ≤ 1048576 := by rw [← hsa, size_extract _ _ _ (by omega)]; omega
  have zsb : sb.size ≤ 1048576 := by rw [← hsb, size_extract _ _ _ (Nat.le_refl _)]; omega
  clear hE tg tx gA xA gB xB hA hB zA zB ecut cAB cBA hm hma hmb hn
  go_enter Tryz.func6, Tryz.ntmps6
  go_wp2_with (first | (go_at_call 9; refine C0.out.mono ?_; clear C0; rintro e w1 ⟨rfl, h1⟩) | (go_at_call 10; refine (C1.out _ h1).mono ?_; clear C1 h1; rintro e w2 ⟨r, rfl, h1⟩) | (go_at_call 22; refine (C2.out _ _ h1).mono ?_; clear C2 h1; rintro e w3 ⟨rfl, h1⟩) | (go_at_call 20; refine (C3.out _ _ h1).mono ?_; clear C3 h1; rintro e w4 ⟨a, b, rfl, h1⟩) | (go_at_call 22; refine (C4.out _ _ _ _ h1).mono ?_; clear C4 h1; rintro e w5 ⟨rfl, h1⟩) | (go_at_call 22; refine (C5.out _ _ _ _ h1).mono ?_; clear C5 h1; rintro e w6 ⟨rfl, h1⟩) | (go_at_call 12; refine (C6.out _ _ _ _ h1).mono ?_; clear C6 h1; rintro e w7 ⟨c, rfl, h1⟩) | (go_at_call 12; refine (C7.out _ _ _ _ _ h1).mono ?_; clear C7 h1; rintro e w8 ⟨d, rfl, h1⟩))
  obtain ⟨q3, q4, q5, q6⟩ := Q.out _ _ _ _ _ _ h1
  refine wp_region_quiet_below HM.out (by kernel_rfl) ?_
  repeat (go_big_quiet_step (fail))
  go_big_quiet_step (exact q3 _ _)
  repeat (go_big_quiet_step (fail))
  go_big_quiet_step (exact q4 _ _)
  repeat (go_big_quiet_step (fail))
  go_big_quiet_step (exact q5 _ _)
  repeat (go_big_quiet_step (fail))
  go_big_quiet_step (exact q6 _ _)
  repeat (go_big_quiet_step (fail))
  refine wpQuiet_nil ?_
  intro _ hw'
  obtain ⟨⟨dq, osq⟩, hw''⟩ := hw'
  subst hw''
  dsimp only
  have h2 := HG.out _ _ _ _ _ _ dq osq h1
  clear h1 Q HG q3 q4 q5 q6
  go_wp2_with (first | (go_at_call 16; refine (D1.out _ _ _ _ h2).mono ?_; clear D1 h2; rintro e w9 ⟨rfl, h2⟩) | (go_at_call 16; refine (D2.out _ _ _ _ h2).mono ?_; clear D2 h2; rintro e w10 ⟨rfl, h2⟩) | (go_at_call 23; refine (D3.out _ _ _ _ h2).mono ?_; clear D3 h2; rintro e w11 ⟨rfl, h2⟩) | (go_at_call 23; refine (D4.out _ _ _ _ h2).mono ?_; clear D4 h2; rintro e w12 ⟨rfl, h2⟩) | (go_at_call 24; refine (D5.out _ _ _ _ h2).mono ?_; clear D5 h2; rintro e w13 ⟨rfl, h2⟩) | (go_at_call 24; refine (D6.out _ _ _ h2).mono ?_; clear D6 h2; rintro e w14 ⟨rfl, h2⟩) | (go_at_call 25; refine (D7.out _ _ h2).mono ?_; clear D7 h2; rintro e w15 ⟨rfl, h2⟩) | (go_at_call 24; refine (D8.out _ _ h2).mono ?_; clear D8 h2; rintro e w16 ⟨rfl, h2⟩))
  go_ret
  exact ⟨rfl, h2⟩
theorem walk_of {H : Type} (s : ByteArray) (a : Int) (w : World) (hT : Lib.Utf8Tabs 1 2 w) (hlo0 : 1 < w.heap.size) (hlo1 : 2 < w.heap.size) (_hs : s.size ≤ 140737488351232) (ha : 0 ≤ a ∧ a ≤ 65535) (hk : Rows.uptoSmall H ([DataW.lit (.string s.data.toList), DataW.lit (.int .u16 a)] ++ []) = true) :
    Calls Tryz.prog 6 #[.string s, .int .u16 a] w fun e w' => e = .returned (.bool true) ∧ Below w.heap.size w w' := by
  have h : Rows.uptoBulkAll ([DataW.lit (H := H) (.string s.data.toList), DataW.lit (.int .u16 a)] ++ []) ≤ 1048576 := of_decide_eq_true hk
  simp only [List.append_nil, Rows.uptoBulkAll, Rows.uptoBulk] at h
  have hz : s.size ≤ 1048576 := by rw [Lib.size_eq]; omega
  obtain ⟨n, rfl⟩ : ∃ n : Nat, a = n := ⟨a.toNat, by omega⟩
  exact walk s n hz (by omega) w ⟨hT, hlo0, hlo1⟩
end Go.Proofs.YthalehfkpgedeaaGreatDoor.ropeTears
