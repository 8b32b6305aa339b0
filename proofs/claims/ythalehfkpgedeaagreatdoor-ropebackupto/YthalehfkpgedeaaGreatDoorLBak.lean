/-
  The law RopeBack returns true for all texts and numbers: an edit and the one that takes it back leave the text that was. Its conditions: both texts together hold at most 1048576 letters; the two tables of unicode/utf8 start as the program's text lays them (the card ties that).
-/
import Derived.Test.YthalehfkpgedeaaGreatDoorRLaw
namespace Go.Proofs.YthalehfkpgedeaaGreatDoor.ropeBack
open Go.RowKit Go.Shelf Bod Wid

abbrev ptr (b : Nat) : Value := .pointer (some ⟨b, 0, none⟩)
set_option maxRecDepth 100000 in
set_option maxHeartbeats 2000000 in
theorem walk (s put : ByteArray) (a c : Nat) (hs : s.size + put.size ≤ 1048576) (ha : a ≤ 65535) (hc : c ≤ 65535) (w : World) (hE : Ev w) :
    Calls Tryz.prog 7 #[.string s, .string put, .int .u16 a, .int .u16 c] w fun e w' => e = .returned (.bool true) ∧ Below w.heap.size w w' := by
  have HM : Hid (Tryz.prog.follows .mixedOrders = true) := by show _ = _; kernel_rfl
  obtain ⟨N, hN⟩ : ∃ N, s.size = N := ⟨_, rfl⟩
  obtain ⟨P, hP⟩ : ∃ P, put.size = P := ⟨_, rfl⟩
  obtain ⟨i, hi⟩ : ∃ i, a % (N + 1) = i := ⟨_, rfl⟩
  have hiN : i ≤ N := by have := Nat.mod_lt a (show 0 < N + 1 by omega); omega
  obtain ⟨n, hn⟩ : ∃ n, c % (N - i + 1) = n := ⟨_, rfl⟩
  have hnN : i + n ≤ N := by have := Nat.mod_lt c (show 0 < N - i + 1 by omega); omega
  have r1 : (a : Int) % ((N : Int) + 1) = (i : Int) := by
    have := rem_nat a (N + 1) (by omega)
    rw [hi] at this
    rw [← this]
    rfl
  have r2 : (c : Int) % ((N : Int) - i + 1) = (n : Int) := by
    have := rem_nat c (N - i + 1) (by omega)
    rw [hn] at this
    rw [← this, show ((N - i + 1 : Nat) : Int) = (N : Int) - i + 1 by omega]
  obtain ⟨j, hj⟩ : ∃ j, i + n = j := ⟨_, rfl⟩
  have r3 : (i : Int) + n = (j : Int) := by omega
  have tg := tof_good s
  have tx := tof_text s
  obtain ⟨gT, xT⟩ := rep_ok put tg (n := i) (m := i + n) (by rw [tx]; omega) (by rw [tx]; omega)
  rw [hj, tx] at xT
  rw [hj] at gT
  obtain ⟨T, hT⟩ : ∃ T, rep (tof s) i j put = T := ⟨_, rfl⟩
  rw [hT] at gT xT
  obtain ⟨s1, e1⟩ : ∃ x, s.extract 0 i = x := ⟨_, rfl⟩
  obtain ⟨s2, e2⟩ : ∃ x, s.extract i j = x := ⟨_, rfl⟩
  obtain ⟨s3, e3⟩ : ∃ x, s.extract j s.size = x := ⟨_, rfl⟩
  have e3' : s.extract j N = s3 := by rw [← hN]; exact e3
  rw [e1, e3] at xT
  have z1 : s1.size = i := by rw [← e1, size_extract _ _ _ (by omega)]; omega
  have z2 : s2.size = n := by rw [← e2, size_extract _ _ _ (by omega)]; omega
  have z3 : s3.size = N - j := by rw [← e3, size_extract _ _ _ (Nat.le_refl _), hN]
  have es : s = s1 ++ (s2 ++ s3) := by
    have h1 := extract_cut s i (by omega)
    have h2 : s.extract i s.size = s2 ++ s3 := by
      rw [← e2, ← e3]
      apply ext_data
      rw [data_app, data_extract', data_extract', data_extract']
      have hl : s.data.toList.length = s.size := rfl
      have e4 : s.data.toList.drop j = (s.data.toList.drop i).drop (j - i) := by rw [List.drop_drop]; congr 1; omega
      rw [List.take_of_length_le (l := s.data.toList.drop i) (by rw [List.length_drop, hl]; exact Nat.le_refl _), List.take_of_length_le (l := s.data.toList.drop j) (by rw [List.length_drop, hl]; exact Nat.le_refl _), e4, List.take_append_drop]
    rw [← h1, e1, h2]
  have zT : T.text.size = N - n + P := by rw [xT, size_app, size_app, z1, z3, hP]; omega
  obtain ⟨gU, xU⟩ := rep_ok s2 gT (n := i) (m := i + P) (by omega) (by omega)
  obtain ⟨U, hU⟩ : ∃ U, rep T i (i + P) s2 = U := ⟨_, rfl⟩
  rw [hU] at gU xU
  have xT' : T.text = s1 ++ (put ++ s3) := by rw [xT, app_assoc]
  have x1 : T.text.extract 0 i = s1 := by rw [xT', ext_left (by omega), ← z1, ext_all]
  have x2 : T.text.extract i (i + P) = put := by
    rw [xT', ext_app, z1, ext_nil (by omega), noB_app, Nat.sub_self, show i + P - i = P by omega, ← hP, ext_left (Nat.le_refl _), ext_all]
  have x3 : T.text.extract (i + P) T.text.size = s3 := by
    have := exd_right (a := s1 ++ put) (b := s3) (n := i + P) (by rw [size_app]; omega)
    rw [← xT] at this
    rw [this, size_app, z1, hP, Nat.sub_self, ext_all]
  rw [x1, x3, app_assoc, ← es] at xU
  obtain ⟨m, hm⟩ : ∃ m, smr s = m := ⟨_, rfl⟩
  have C0 : Hid (Calls Tryz.prog 9 #[] w fun e W' => e = .returned (.bool true) ∧ Hid (Below w.heap.size w W')) := holds_any w hE
  have C1 : Hid (∀ W, Hid (Below w.heap.size w W) → Calls Tryz.prog 10 #[.string s] W fun e W' => ∃ b, e = .returned (ptr b) ∧ Hid (Rp W' (tof s) (ptr b) ∧ Below w.heap.size w W')) := fun W hW => (rnew_any s (by unfold B40; omega) W (hE.below hW)).mono fun e W' h => by
    obtain ⟨b, h1, h2, h3⟩ := MkR.rp h
    exact ⟨b, h1, h2, Below.on hW h3⟩
  have C2 : Hid (∀ W r, Hid (Rp W (tof s) (ptr r) ∧ Below w.heap.size w W) → Calls Tryz.prog 14 #[ptr r, .int .i64 i, .int .i64 n, .string put] W fun e W' => ∃ b, e = .returned (.tuple #[ptr b, .string s2, .int .i64 0]) ∧ Hid (Rp W' (tof s) (ptr r) ∧ Rp W' T (ptr b) ∧ Below w.heap.size w W')) := fun W r ⟨h1, hW⟩ =>
    (Go.Proofs.YthalehfkpgedeaaGreatDoor.rrep_ok h1 tg i n put (by rw [tx]; unfold B40; omega) (by rw [tx]; omega) (hE.below hW)).mono fun e W' ⟨b, k1, k2, k3⟩ => ⟨b, by rw [k1, tx, hj, e2], h1.below k3, by rw [hj, hT] at k2; exact k2, Below.on hW k3⟩
  have Q : Hid (∀ W r t, Hid (Rp W (tof s) (ptr r) ∧ Rp W T (ptr t) ∧ Below w.heap.size w W) → (∀ dd os, Calls Tryz.prog 23 #[ptr t] (Go.Sort.grow (redrawn W dd) os) fun e w'' => e = .returned (.string (s1 ++ put ++ s3)) ∧ ∃ p : Regrown, w'' = Go.Sort.grow (redrawn W p.d) p.os)) := fun W r t ⟨h1, h2, hW⟩ =>
    regrown fun X hX => (rtext_any (h2.below hX) (by unfold B40; omega)).mono fun e W' ⟨k1, k2⟩ => ⟨by rw [k1, xT], k2⟩
  have HG : Hid (∀ W r t dd os, Hid (Rp W (tof s) (ptr r) ∧ Rp W T (ptr t) ∧ Below w.heap.size w W) → Hid (Rp (Go.Sort.grow (redrawn W dd) os) (tof s) (ptr r) ∧ Rp (Go.Sort.grow (redrawn W dd) os) T (ptr t) ∧ Below w.heap.size w (Go.Sort.grow (redrawn W dd) os))) := fun W r t dd os ⟨h1, h2, hW⟩ => by
    have hb := below_regrown W dd os
    exact ⟨h1.below hb, h2.below hb, Below.on hW hb⟩
  have D1 : Hid (∀ W r t, Hid (Rp W (tof s) (ptr r) ∧ Rp W T (ptr t) ∧ Below w.heap.size w W) → Calls Tryz.prog 14 #[ptr t, .int .i64 i, .int .i64 P, .string s2] W fun e W' => ∃ u, e = .returned (.tuple #[ptr u, .string put, .int .i64 0]) ∧ Hid (Rp W' (tof s) (ptr r) ∧ Rp W' T (ptr t) ∧ Rp W' U (ptr u) ∧ Below w.heap.size w W')) := fun W r t ⟨h1, h2, hW⟩ =>
    (Go.Proofs.YthalehfkpgedeaaGreatDoor.rrep_ok h2 gT i P s2 (by unfold B40; omega) (by omega) (hE.below hW)).mono fun e W' ⟨u, k1, k2, k3⟩ => ⟨u, by rw [k1, x2], h1.below k3, h2.below k3, by rw [hU] at k2; exact k2, Below.on hW k3⟩
  have D2 : Hid (∀ W r t u, Hid (Rp W (tof s) (ptr r) ∧ Rp W T (ptr t) ∧ Rp W U (ptr u) ∧ Below w.heap.size w W) → Calls Tryz.prog 23 #[ptr u] W fun e W' => e = .returned (.string s) ∧ Hid (Rp W' (tof s) (ptr r) ∧ Rp W' T (ptr t) ∧ Rp W' U (ptr u) ∧ Below w.heap.size w W')) := fun W r t u ⟨h1, h2, h3, hW⟩ => (rtext_any h3 (by rw [xU]; unfold B40; omega)).mono fun e W' ⟨k1, k2⟩ => ⟨by rw [k1, xU], h1.below k2, h2.below k2, h3.below k2, Below.on hW k2⟩
  have D3 : Hid (∀ W r t u, Hid (Rp W (tof s) (ptr r) ∧ Rp W T (ptr t) ∧ Rp W U (ptr u) ∧ Below w.heap.size w W) → Calls Tryz.prog 24 #[ptr u] W fun e W' => e = .returned (sv m) ∧ Hid (Rp W' (tof s) (ptr r) ∧ Rp W' T (ptr t) ∧ Below w.heap.size w W')) := fun W r t u ⟨h1, h2, h3, hW⟩ => (rsum_any h3).mono fun e W' ⟨k1, k2⟩ => ⟨by rw [k1, xU, hm], h1.below k2, h2.below k2, Below.on hW k2⟩
  have D4 : Hid (∀ W r t, Hid (Rp W (tof s) (ptr r) ∧ Rp W T (ptr t) ∧ Below w.heap.size w W) → Calls Tryz.prog 24 #[ptr r] W fun e W' => e = .returned (sv m) ∧ Hid (Rp W' (tof s) (ptr r) ∧ Rp W' T (ptr t) ∧ Below w.heap.size w W')) := fun W r t ⟨h1, h2, hW⟩ => (rsum_any h1).mono fun e W' ⟨k1, k2⟩ => ⟨by rw [k1, tx, hm], h1.below k2, h2.below k2, Below.on hW k2⟩
  have D5 : Hid (∀ W r t, Hid (Rp W (tof s) (ptr r) ∧ Rp W T (ptr t) ∧ Below w.heap.size w W) → Calls Tryz.prog 23 #[ptr r] W fun e W' => e = .returned (.string s) ∧ Hid (Rp W' (tof s) (ptr r) ∧ Rp W' T (ptr t) ∧ Below w.heap.size w W')) := fun W r t ⟨h1, h2, hW⟩ => (rtext_any h1 (by rw [tx]; unfold B40; omega)).mono fun e W' ⟨k1, k2⟩ => ⟨by rw [k1, tx], h1.below k2, h2.below k2, Below.on hW k2⟩
  have D6 : Hid (∀ W r t, Hid (Rp W (tof s) (ptr r) ∧ Rp W T (ptr t) ∧ Below w.heap.size w W) → Calls Tryz.prog 22 #[ptr t] W fun e W' => e = .returned (.int .i64 ((N : Int) - n + P)) ∧ Below w.heap.size w W') := fun W r t ⟨h1, h2, hW⟩ => (rlen_any h2).mono fun e W' ⟨k1, k2⟩ => ⟨by rw [k1, zT, show ((N - n + P : Nat) : Int) = (N : Int) - n + P by omega], Below.on hW k2⟩
  have q1 := fun W => sv_eq m W
  have b1 : N ≤ 1048576 := by omega
  have b2 : P ≤ 1048576 := by omega
  have b3 : j ≤ N := by omega
  have b4 : i ≤ j := by omega
  have zs1 : s1.size ≤ 1048576 := by omega
  have zs3 : s3.size ≤ 1048576 := by omega
  have b5 : n ≤ N := by omega
  clear hE tg tx gT xT hT gU xU hU xT' x1 x2 x3 es zT hm hi hn z1 z2 z3 hs hj
  go_enter Tryz.func7, Tryz.ntmps7
  go_wp2_with (first | (go_at_call 9; refine C0.out.mono ?_; clear C0; rintro e w1 ⟨rfl, h1⟩) | (go_at_call 10; refine (C1.out _ h1).mono ?_; clear C1 h1; rintro e w2 ⟨r, rfl, h1⟩) | (go_at_call 14; refine (C2.out _ _ h1).mono ?_; clear C2 h1; rintro e w3 ⟨t, rfl, h1⟩))
  have q3 := Q.out _ _ _ h1
  refine wp_region_quiet_below HM.out (by kernel_rfl) ?_
  repeat (go_big_quiet_step (fail))
  go_big_quiet_step (exact q3 _ _)
  repeat (go_big_quiet_step (fail))
  refine wpQuiet_nil ?_
  intro _ hw'
  obtain ⟨⟨dq, osq⟩, hw''⟩ := hw'
  subst hw''
  dsimp only
  have h2 := HG.out _ _ _ dq osq h1
  clear h1 Q HG q3
  go_wp2_with (first | (go_at_call 14; refine (D1.out _ _ _ h2).mono ?_; clear D1 h2; rintro e w4 ⟨u, rfl, h2⟩) | (go_at_call 23; refine (D2.out _ _ _ _ h2).mono ?_; clear D2 h2; rintro e w5 ⟨rfl, h2⟩) | (go_at_call 24; refine (D3.out _ _ _ _ h2).mono ?_; clear D3 h2; rintro e w6 ⟨rfl, h2⟩) | (go_at_call 24; refine (D4.out _ _ _ h2).mono ?_; clear D4 h2; rintro e w7 ⟨rfl, h2⟩) | (go_at_call 23; refine (D5.out _ _ _ h2).mono ?_; clear D5 h2; rintro e w8 ⟨rfl, h2⟩) | (go_at_call 22; refine (D6.out _ _ _ h2).mono ?_; clear D6 h2; rintro e w9 ⟨rfl, h2⟩))
  go_ret
  exact ⟨rfl, h2⟩
theorem walk_of {H : Type} (s put : ByteArray) (a c : Int) (w : World) (hT : Lib.Utf8Tabs 1 2 w) (hlo0 : 1 < w.heap.size) (hlo1 : 2 < w.heap.size) (_hs : s.size ≤ 140737488351232) (_hp : put.size ≤ 140737488351232) (ha : 0 ≤ a ∧ a ≤ 65535) (hc : 0 ≤ c ∧ c ≤ 65535) (hk : Rows.uptoSmall H ([DataW.lit (.string s.data.toList), DataW.lit (.string put.data.toList), DataW.lit (.int .u16 a), DataW.lit (.int .u16 c)] ++ []) = true) :
    Calls Tryz.prog 7 #[.string s, .string put, .int .u16 a, .int .u16 c] w fun e w' => e = .returned (.bool true) ∧ Below w.heap.size w w' := by
  have h : Rows.uptoBulkAll ([DataW.lit (H := H) (.string s.data.toList), DataW.lit (.string put.data.toList), DataW.lit (.int .u16 a), DataW.lit (.int .u16 c)] ++ []) ≤ 1048576 := of_decide_eq_true hk
  simp only [List.append_nil, Rows.uptoBulkAll, Rows.uptoBulk] at h
  have hz : s.size + put.size ≤ 1048576 := by rw [Lib.size_eq, Lib.size_eq]; omega
  obtain ⟨n, rfl⟩ : ∃ n : Nat, a = n := ⟨a.toNat, by omega⟩
  obtain ⟨m, rfl⟩ : ∃ n : Nat, c = n := ⟨c.toNat, by omega⟩
  exact walk s put n m hz (by omega) (by omega) w ⟨hT, hlo0, hlo1⟩
end Go.Proofs.YthalehfkpgedeaaGreatDoor.ropeBack
