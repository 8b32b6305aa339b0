/-
  What package gap's Text, Slice, Byte and Halves answer, of a buffer or of none. No conditions beyond.
-/
import Derived.Test.YtgagpmeknpjkpaaGreatDoorGOpen
namespace Go.Proofs.YtgagpmeknpjkpaaGreatDoor
open Go.RowKit Bod

theorem piece_pb {w : World} {b : Nat} {r : Option Nat} {g : Gp} {n : Nat} (h : PB w b r g n) {x y : Nat} (hx : x ≤ y) (hy : y ≤ g.s.size) :
    Calls Tryz.prog 43 #[.pointer (some ⟨b, 0, none⟩), .int .i64 x, .int .i64 y] w fun z w' => z = .returned (.string (g.s.extract x y)) ∧ Below w.heap.size w w' := by
  obtain ⟨A, e, hP, hg, hA⟩ := h.ex
  have := piece_any w hP hg hx (by rw [sz_list]; exact hy) (by rw [hA]; exact h.small)
  rw [ext_list]
  exact this
theorem ext_all (s : ByteArray) : s.extract 0 s.size = s := by
  rw [ext_list]
  apply ByteArray.ext
  apply Array.toList_inj.1
  rw [Nat.sub_zero, List.drop_zero, List.take_of_length_le (by rw [sz_list]; exact Nat.le_refl _)]

set_option maxRecDepth 100000 in
set_option maxHeartbeats 1000000 in
theorem text_is {w : World} {v : Value} {o : Option (Nat × Option Nat)} {g : Gp} {n : Nat} (h : Is w v o g n) :
    Calls Tryz.prog 19 #[v] w fun x w' => x = .returned (.string g.s) ∧ Below w.heap.size w w' := by
  have CO := ore_is h
  have CL : Hid (∀ w1, Below w.heap.size w w1 → Calls Tryz.prog 15 #[v] w1 fun x w' => x = .returned (.int .i64 g.s.size) ∧ Below w1.heap.size w1 w') := fun w1 hb => len_is (h.below hb)
  have CP : Hid (∀ w1 b r, PB w1 b r g n → Calls Tryz.prog 43 #[.pointer (some ⟨b, 0, none⟩), .int .i64 0, .int .i64 g.s.size] w1 fun z w' => z = .returned (.string g.s) ∧ Below w1.heap.size w1 w') := fun w1 b r hp => by
    have := piece_pb hp (x := 0) (y := g.s.size) (Nat.zero_le _) (Nat.le_refl _)
    rw [ext_all] at this
    exact this
  clear h
  go_enter Tryz.func19, Tryz.ntmps19
  go_wp2_with (first | (go_at_call 42; refine CO.mono ?_; clear CO; rintro x w1 ⟨b, r, rfl, hO⟩; have HO : Hid (Od w v o g n b r w1) := hO; clear hO) | (go_at_call 15; refine (CL.out _ HO.out.bel).mono ?_; clear CL; rintro x w2 ⟨rfl, hb2⟩) | (go_at_call 43; refine (CP.out _ _ _ (HO.out.pb.below hb2)).mono ?_; clear CP; rintro x w3 ⟨rfl, hb3⟩))
  go_ret
  exact ⟨rfl, (HO.out.bel.trans (hb2.mono HO.out.bel.size)).trans (hb3.mono (Nat.le_trans HO.out.bel.size hb2.size))⟩

set_option maxRecDepth 100000 in
set_option maxHeartbeats 1000000 in
theorem slice_is {w : World} {v : Value} {o : Option (Nat × Option Nat)} {g : Gp} {n : Nat} (h : Is w v o g n) (f t : Int) :
    Calls Tryz.prog 34 #[v, .int .i64 f, .int .i64 t] w fun x w' => x = .returned (.tuple #[.string (gSlice g.s f t).1, .int .i64 (gSlice g.s f t).2]) ∧ Below w.heap.size w w' := by
  have CL : Hid (Calls Tryz.prog 15 #[v] w fun x w' => x = .returned (.int .i64 g.s.size) ∧ Below w.heap.size w w') := len_is h
  have CO : Hid (∀ w1, Below w.heap.size w w1 → Calls Tryz.prog 42 #[v] w1 fun x w2 => ∃ b r, x = .returned (.pointer (some ⟨b, 0, none⟩)) ∧ Od w1 v o g n b r w2) := fun w1 hb => ore_is (h.below hb)
  have CP : Hid (∀ w1 b r (x y : Nat), PB w1 b r g n → x ≤ y → y ≤ g.s.size → Calls Tryz.prog 43 #[.pointer (some ⟨b, 0, none⟩), .int .i64 x, .int .i64 y] w1 fun z w' => z = .returned (.string (g.s.extract x y)) ∧ Below w1.heap.size w1 w') := fun w1 b r x y hp h1 h2 => piece_pb hp h1 h2
  unfold gSlice gRng
  clear h
  by_cases h1 : f < 0
  · rw [decide_eq_true (.inl h1), if_pos rfl]
    go_enter Tryz.func34, Tryz.ntmps34
    go_wp2
    exact bodyPost_ret (v := .tuple #[.string eBA, .int .i64 1]) (by simp [results, Tryz.results34, go_sem, eBA]) rfl ⟨rfl, Below.refl _ _⟩
  · by_cases h2 : t < f
    · rw [decide_eq_true (.inr (.inl h2)), if_pos rfl]
      go_enter Tryz.func34, Tryz.ntmps34
      go_wp2
      exact bodyPost_ret (v := .tuple #[.string eBA, .int .i64 1]) (by simp [results, Tryz.results34, go_sem, eBA]) rfl ⟨rfl, Below.refl _ _⟩
    · by_cases h3 : (g.s.size : Int) < t
      · rw [decide_eq_true (.inr (.inr h3)), if_pos rfl]
        go_enter Tryz.func34, Tryz.ntmps34
        go_wp2_with (go_at_call 15; refine CL.out.mono ?_; clear CL; rintro x w2 ⟨rfl, hb2⟩)
        exact bodyPost_ret (v := .tuple #[.string eBA, .int .i64 1]) (by simp [results, Tryz.results34, go_sem, eBA]) rfl ⟨rfl, hb2⟩
      · rw [decide_eq_false (by omega), if_neg (by simp)]
        obtain ⟨x, rfl⟩ := Int.eq_ofNat_of_zero_le (show 0 ≤ f by omega)
        obtain ⟨y, rfl⟩ := Int.eq_ofNat_of_zero_le (show 0 ≤ t by omega)
        have HI : Hid (x ≤ y ∧ y ≤ g.s.size) := ⟨by omega, by omega⟩
        go_enter Tryz.func34, Tryz.ntmps34
        go_wp2_with (first | (go_at_call 15; refine CL.out.mono ?_; clear CL; rintro x w2 ⟨rfl, hb2⟩) | (go_at_call 42; refine (CO.out _ hb2).mono ?_; clear CO; rintro x w3 ⟨b, r, rfl, hO⟩; have HO : Hid (Od w2 v o g n b r w3) := hO; clear hO) | (go_at_call 43; refine (CP.out _ _ _ _ _ HO.out.pb HI.out.1 HI.out.2).mono ?_; clear CP; rintro x w4 ⟨rfl, hb4⟩))
        exact bodyPost_ret (v := .tuple #[.string (g.s.extract x y), .int .i64 0]) (by simp [results, Tryz.results34, go_sem]) rfl ⟨rfl, (hb2.trans (HO.out.bel.mono hb2.size)).trans (hb4.mono (Nat.le_trans hb2.size HO.out.bel.size))⟩

set_option maxRecDepth 100000 in
set_option maxHeartbeats 2000000 in
theorem halves_is {w : World} {v : Value} {o : Option (Nat × Option Nat)} {g : Gp} {n : Nat} (h : Is w v o g n) :
    Calls Tryz.prog 23 #[v] w fun x w' => x = .returned (.tuple #[.string (g.s.extract 0 g.p), .string (g.s.extract g.p g.s.size)]) ∧ Below w.heap.size w w' := by
  have CO := ore_is h
  have HOK : Hid g.ok := h.ok
  clear h
  obtain ⟨s1, hs1⟩ : ∃ s1, g.s.extract 0 g.p = s1 := ⟨_, rfl⟩
  obtain ⟨s2, hs2⟩ : ∃ s2, g.s.extract g.p g.s.size = s2 := ⟨_, rfl⟩
  have HM : Hid (Tryz.prog.follows .mixedOrders = true) := by show _ = _; kernel_rfl
  have HQ : Hid (∀ b r w1, PB w1 b r g n → ((∀ d os, Calls Tryz.prog 43 #[.pointer (some ⟨b, 0, none⟩), .int .i64 0, .int .i64 g.p] (Go.Sort.grow (redrawn w1 d) os) fun e w'' => e = .returned (.string s1) ∧ ∃ p : Regrown, w'' = Go.Sort.grow (redrawn w1 p.d) p.os) ∧ (∀ d os, Calls Tryz.prog 15 #[.pointer (some ⟨b, 0, none⟩)] (Go.Sort.grow (redrawn w1 d) os) fun e w'' => e = .returned (.int .i64 g.s.size) ∧ ∃ p : Regrown, w'' = Go.Sort.grow (redrawn w1 p.d) p.os) ∧ (∀ d os, Calls Tryz.prog 43 #[.pointer (some ⟨b, 0, none⟩), .int .i64 g.p, .int .i64 g.s.size] (Go.Sort.grow (redrawn w1 d) os) fun e w'' => e = .returned (.string s2) ∧ ∃ p : Regrown, w'' = Go.Sort.grow (redrawn w1 p.d) p.os))) := fun b r w1 hp => by
    refine ⟨fun d os => ?_, fun d os => ?_, fun d os => ?_⟩
    · rw [← hs1]; exact Calls.regrown_of (piece_pb (hp.below (below_regrown w1 d os)) (x := 0) (y := g.p) (Nat.zero_le _) HOK.out.1)
    · exact Calls.regrown_of ((len_pb (hp.below (below_regrown w1 d os))).mono fun e w' ⟨e1, k, e2⟩ => ⟨e1, by rw [e2]; exact belN (Below.refl _ _) k⟩)
    · rw [← hs2]; exact Calls.regrown_of (piece_pb (hp.below (below_regrown w1 d os)) (x := g.p) (y := g.s.size) HOK.out.1 (Nat.le_refl _))
  rw [hs1, hs2]
  clear hs1 hs2
  go_enter Tryz.func23, Tryz.ntmps23
  go_wp2_with (go_at_call 42; refine CO.mono ?_; clear CO; rintro x w1 ⟨b, r, rfl, hO⟩; have HO : Hid (Od w v o g n b r w1) := hO; obtain ⟨A, e, hP, hg, hA⟩ := hO.pb.ex; obtain ⟨⟨c0, c1, c2, c3⟩, -⟩ := box4 hP.box; clear hO hP hg hA c0 c2 c3)
  have r1 := fun d os => cell_regrown c1 d os
  obtain ⟨q1, q2, q3⟩ := HQ.out b r w1 HO.out.pb
  refine wp_region_quiet_below HM.out (by kernel_rfl) ?_
  repeat (go_big_quiet_step (fail))
  go_big_quiet_step (exact q1 _ _)
  repeat (go_big_quiet_step (fail))
  go_big_quiet_step (exact q2 _ _)
  repeat (go_big_quiet_step (fail))
  go_big_quiet_step (exact q3 _ _)
  repeat (go_big_quiet_step (fail))
  refine wpQuiet_nil ?_
  intro _ hw'
  obtain ⟨⟨dq, osq⟩, hw''⟩ := hw'
  subst hw''
  dsimp only
  have HB2 : Hid (Below w.heap.size w (Go.Sort.grow (redrawn w1 dq) osq)) := HO.out.bel.trans ((below_regrown w1 dq osq).mono HO.out.bel.size)
  go_wp2
  exact bodyPost_ret (v := .tuple #[.string s1, .string s2]) (by simp [results, Tryz.results23, go_sem]) rfl ⟨rfl, HB2.out⟩
end Go.Proofs.YtgagpmeknpjkpaaGreatDoor
