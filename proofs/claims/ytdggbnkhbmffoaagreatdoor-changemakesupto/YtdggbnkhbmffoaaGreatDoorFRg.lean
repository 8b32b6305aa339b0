/-
  The document's own changes (layer 17): Of: what FChg tells. Conditions: the text has at most 2097152 bytes.
-/
import Derived.Test.YtdggbnkhbmffoaaGreatDoorPkFR
import Derived.Test.YtdggbnkhbmffoaaGreatDoorFRf
namespace Go.Proofs.YtdggbnkhbmffoaaGreatDoor
open Go.RowKit Go.Shelf Go.Sort Bod Wid

/-- a call of Of: the command's box, and the answer's, still zero -/
structure Ro (w : World) (k c : Int) (x : ByteArray) (m : Int) (W : World) : Prop where
  bel : Below w.heap.size w W
  sc : W.heap[w.heap.size]? = some (.cells #[.int .i64 k, .int .i64 c, .string x, .int .u8 m] 35 (0, 0))
  rs : W.heap[w.heap.size + 1]? = some (.cells #[.int .i64 0, .int .i64 0, .string ⟨#[]⟩, .int .i64 0, .string ⟨#[]⟩, .bool false] 37 (0, 0))
section
variable {w W X : World} {x : ByteArray} {k c m : Int}
theorem Ro.below (h : Ro w k c x m W) (hb : Below W.heap.size W X) : Ro w k c x m X :=
  ⟨below_on h.bel hb, (hb.block _ (Array.getElem?_eq_some_iff.1 h.sc).1).trans h.sc, (hb.block _ (Array.getElem?_eq_some_iff.1 h.rs).1).trans h.rs⟩
theorem ro0 (w : World) (k c : Int) (x : ByteArray) (m : Int) : Ro w k c x m ((w.alloc (.cells #[.int .i64 k, .int .i64 c, .string x, .int .u8 m] 35)).alloc (.cells #[.int .i64 0, .int .i64 0, .string ⟨#[]⟩, .int .i64 0, .string ⟨#[]⟩, .bool false] 37)) := by
  refine ⟨((Below.refl _ w).alloc (Nat.le_refl _) _).alloc (by simp) _, ?_, ?_⟩
  · rw [Below.heap_alloc _ _ _ (by simp)]; exact World.alloc_heap_new _ _
  · have := World.alloc_heap_new (w.alloc (.cells #[.int .i64 k, .int .i64 c, .string x, .int .u8 m] 35)) (.cells #[.int .i64 0, .int .i64 0, .string ⟨#[]⟩, .int .i64 0, .string ⟨#[]⟩, .bool false] 37)
    rwa [show (w.alloc (.cells #[.int .i64 k, .int .i64 c, .string x, .int .u8 m] 35)).heap.size = w.heap.size + 1 by simp] at this
theorem Ro.fin (h : Ro w k c x m W) (u0 u1 u2 u3 u4 u5 : Value) : let W' := (((((W.setCell ⟨w.heap.size + 1, 0, none⟩ u0).setCell ⟨w.heap.size + 1, 1, none⟩ u1).setCell ⟨w.heap.size + 1, 2, none⟩ u2).setCell ⟨w.heap.size + 1, 3, none⟩ u3).setCell ⟨w.heap.size + 1, 4, none⟩ u4).setCell ⟨w.heap.size + 1, 5, none⟩ u5
    Below w.heap.size w W' ∧ (W'.cell? ⟨w.heap.size + 1, 0, none⟩ = some u0 ∧ W'.cell? ⟨w.heap.size + 1, 1, none⟩ = some u1 ∧ W'.cell? ⟨w.heap.size + 1, 2, none⟩ = some u2 ∧ W'.cell? ⟨w.heap.size + 1, 3, none⟩ = some u3 ∧ W'.cell? ⟨w.heap.size + 1, 4, none⟩ = some u4 ∧ W'.cell? ⟨w.heap.size + 1, 5, none⟩ = some u5) := by
  obtain ⟨q1, q2⟩ := cset u0 u1 u2 u3 u4 u5 h.bel (Nat.le_succ _) h.rs
  exact ⟨q1, (cbox q2).1⟩
theorem Ro.get (h : Ro w k c x m W) : (W.cell? ⟨w.heap.size, 0, none⟩ = some (.int .i64 k) ∧ W.cell? ⟨w.heap.size, 1, none⟩ = some (.int .i64 c)) ∧ (W.cell? ⟨w.heap.size + 1, 0, none⟩ = some (.int .i64 0) ∧ W.cell? ⟨w.heap.size + 1, 1, none⟩ = some (.int .i64 0) ∧ W.cell? ⟨w.heap.size + 1, 2, none⟩ = some (.string ⟨#[]⟩) ∧ W.cell? ⟨w.heap.size + 1, 3, none⟩ = some (.int .i64 0) ∧ W.cell? ⟨w.heap.size + 1, 4, none⟩ = some (.string ⟨#[]⟩) ∧ W.cell? ⟨w.heap.size + 1, 5, none⟩ = some (.bool false)) ∧
    W.frozen? ⟨w.heap.size + 1, 0, none⟩ = false ∧ W.frozen? ⟨w.heap.size + 1, 1, none⟩ = false ∧ W.frozen? ⟨w.heap.size + 1, 2, none⟩ = false ∧ W.frozen? ⟨w.heap.size + 1, 3, none⟩ = false ∧ W.frozen? ⟨w.heap.size + 1, 4, none⟩ = false ∧ W.frozen? ⟨w.heap.size + 1, 5, none⟩ = false ∧ w.heap.size + 1 < W.heap.size := by
  obtain ⟨⟨c0, c1, c2, c3⟩, -⟩ := box4 h.sc
  exact ⟨⟨c0, c1⟩, cbox h.rs⟩
end
theorem of_pre (s : ByteArray) (c i : Int) : ∃ (a n : Nat), snp s i = a ∧ cntP c = n ∧ 1 ≤ n ∧ n ≤ 1000 ∧ min (max c 1) 1000 = (n : Int) ∧ cbZ s a = true ∧ a ≤ s.size :=
  ⟨snp s i, cntP c, rfl, rfl, (cnt_in c).1, (cnt_in c).2.1, (cnt_in c).2.2.symm, (snp_is s i).cb, snp_le s i⟩
section
variable {w : World} {s x : ByteArray} {k c m : Int}
theorem ro_does (hd : doesP k = true) : ∀ W, Ro w k c x m W → Calls Tryz.prog 11 #[.int .i64 k] W fun e W' => e = .returned (.bool true) ∧ Hid (Ro w k c x m W') := fun W hW => (rdoes_any k W).mono fun e W' ⟨q1, q2⟩ => ⟨by rw [q1, hd], hW.below q2⟩
theorem ro_snap (hs : s.size ≤ 2097152) {i : Int} {a : Nat} (ha : snp s i = a) : ∀ W, Ro w k c x m W → Calls Tryz.prog 15 #[.string s, .int .i64 (min (max i 0) (s.size : Int))] W fun e W' => e = .returned (.int .i64 a) ∧ Hid (Ro w k c x m W') := fun W hW => (rsnap_any s (min (max i 0) (s.size : Int)) hs W).mono fun e W' ⟨z, q0, q1, q2⟩ => ⟨by rw [q0, ← ha, ← snp_clamp, q1.uniq (snp_is s _)], hW.below q2⟩
theorem ro_steps (hs : s.size ≤ 2097152) {a n tt : Nat} (hcb : cbZ s a = true) (hn : n ≤ 1000) (e1 : min (max c 1) 1000 = (n : Int)) (ht : rpt (stF k s) n a = tt) : ∀ W, Ro w k c x m W → Calls Tryz.prog 16 #[.int .i64 k, .string s, .int .i64 a, .int .i64 (min (max c 1) 1000)] W fun e W' => e = .returned (.int .i64 tt) ∧ Hid (Ro w k c x m W') := fun W hW => by
  rw [e1]
  exact (rsteps_any W s k a n hcb hs hn).mono fun e W' ⟨q1, q2⟩ => ⟨by rw [q1, ht], hW.below q2⟩
end
set_option maxRecDepth 100000 in
set_option maxHeartbeats 2000000 in
theorem rof_14 (s : ByteArray) (hs : s.size ≤ 2097152) (c i r : Int) (x : ByteArray) (m : Int) (w : World) :
    Calls Tryz.prog 8 #[.agg #[.int .i64 14, .int .i64 c, .string x, .int .u8 m], .string s, .int .i64 i, .int .i64 r] w fun e W' => e = .returned (rsv (ofP s 14 c i r)) ∧ Below w.heap.size w W' := by
  have HF : Hid (Ro w 14 c x m ((w.alloc (.cells #[.int .i64 14, .int .i64 c, .string x, .int .u8 m] 35)).alloc (.cells #[.int .i64 0, .int .i64 0, .string ⟨#[]⟩, .int .i64 0, .string ⟨#[]⟩, .bool false] 37))) := ro0 w 14 c x m
  obtain ⟨a, n, ha, hn, hn1, hn2, e1, hcb, hal⟩ := of_pre s c i
  obtain ⟨tt, htt⟩ : ∃ tt, rpt (stF 14 s) n a = tt := ⟨_, rfl⟩
  have CD : Hid (∀ W, Ro w 14 c x m W → Calls Tryz.prog 11 #[.int .i64 14] W fun e W' => e = .returned (.bool true) ∧ Hid (Ro w 14 c x m W')) := ro_does (by decide)
  have CN : Hid (∀ W, Ro w 14 c x m W → Calls Tryz.prog 15 #[.string s, .int .i64 (min (max i 0) (s.size : Int))] W fun e W' => e = .returned (.int .i64 a) ∧ Hid (Ro w 14 c x m W')) := ro_snap hs ha
  have CS : Hid (∀ W, Ro w 14 c x m W → Calls Tryz.prog 16 #[.int .i64 14, .string s, .int .i64 a, .int .i64 (min (max c 1) 1000)] W fun e W' => e = .returned (.int .i64 tt) ∧ Hid (Ro w 14 c x m W')) := ro_steps hs hcb hn2 e1 htt
  have HP : ofP s 14 c i r = makP 14 s n a (regP s r) := by unfold ofP; rw [if_pos (by decide), ha, hn]
  have hr := rst_right (k := 14) (s := s) (by decide) n a hcb
  rw [htt] at hr
  have HR : ofP s 14 c i r = cutP a tt := by rw [HP, ← htt]; rfl
  rw [HR]
  clear HP HR
  unfold cutP
  by_cases he : a = s.size
  · rw [if_pos (by omega)]
    clear hcb htt ha hn e1 hn1 hn2
    subst he
    clear hr
    go_enter Tryz.func8, Tryz.ntmps8
    go_upto_region 22 with (first | (go_at_call 11; refine (CD.out _ HF.out).mono ?_; clear CD HF; rintro e w1 ⟨rfl, HF⟩; obtain ⟨⟨c0, c1⟩, -⟩ := HF.out.get) | (go_at_call 15; refine (CN.out _ HF.out).mono ?_; clear CN HF c0 c1; rintro e w1 ⟨rfl, HF⟩; obtain ⟨⟨c0, c1⟩, -⟩ := HF.out.get) | (go_at_call 16; refine (CS.out _ HF.out).mono ?_; clear CS HF c0 c1; rintro e w1 ⟨rfl, HF⟩; obtain ⟨⟨c0, c1⟩, ⟨z0, z1, z2, z3, z4, z5⟩, f0, f1, f2, f3, f4, f5, hl⟩ := HF.out.get))
    go_wp2
    obtain ⟨k1, k2, k3, k4, k5, k6, k7⟩ := HF.out.fin (.int .i64 0) (.int .i64 0) (.string ⟨#[]⟩) (.int .i64 0) (.string ⟨#[]⟩) (.bool false)
    exact bodyPost_ret (v := rsv (chz, 8)) (by simp [results, Tryz.results8, go_sem, rsv, chc, chz, k2, k3, k4, k5, k6, k7]) rfl ⟨rfl, k1⟩
  · rw [if_neg (by omega)]
    have he' : ¬ (a : Int) = s.size := by omega
    rw [show min a tt = a by omega, show max a tt = tt by omega]
    have CX : Hid (∀ W, Ro w 14 c x m W → Calls Tryz.prog 21 #[.int .i64 a, .int .i64 tt] W fun e W' => e = .returned (.agg #[.int .i64 a, .int .i64 (tt - a : Nat), .string ⟨#[]⟩, .int .i64 a, .string ⟨#[]⟩, .bool false]) ∧ Hid (Ro w 14 c x m W')) := fun W hW => (rcut_any W a tt (by omega) (by omega)).mono fun e W' ⟨q1, q2⟩ => ⟨q1, hW.below q2⟩
    clear hcb htt ha hn e1 hn1 hn2
    go_enter Tryz.func8, Tryz.ntmps8
    go_upto_region 24 with (first | (go_at_call 11; refine (CD.out _ HF.out).mono ?_; clear CD HF; rintro e w1 ⟨rfl, HF⟩; obtain ⟨⟨c0, c1⟩, -⟩ := HF.out.get) | (go_at_call 15; refine (CN.out _ HF.out).mono ?_; clear CN HF c0 c1; rintro e w1 ⟨rfl, HF⟩; obtain ⟨⟨c0, c1⟩, -⟩ := HF.out.get) | (go_at_call 16; refine (CS.out _ HF.out).mono ?_; clear CS HF c0 c1; rintro e w1 ⟨rfl, HF⟩; obtain ⟨⟨c0, c1⟩, ⟨z0, z1, z2, z3, z4, z5⟩, f0, f1, f2, f3, f4, f5, hl⟩ := HF.out.get))
    go_wp2_with (go_at_call 21; refine (CX.out _ HF.out).mono ?_; clear CX HF c0 c1 z0 z1 z2 z3 z4 z5 f0 f1 f2 f3 f4 f5 hl; rintro e w1 ⟨rfl, HF⟩; obtain ⟨⟨c0, c1⟩, ⟨z0, z1, z2, z3, z4, z5⟩, f0, f1, f2, f3, f4, f5, hl⟩ := HF.out.get)
    obtain ⟨k1, k2, k3, k4, k5, k6, k7⟩ := HF.out.fin (.int .i64 a) (.int .i64 (tt - a : Nat)) (.string ⟨#[]⟩) (.int .i64 a) (.string ⟨#[]⟩) (.bool false)
    exact bodyPost_ret (v := rsv (⟨a, tt - a, ⟨#[]⟩, a, ⟨#[]⟩, false⟩, 0)) (by simp [results, Tryz.results8, go_sem, rsv, chc, k2, k3, k4, k5, k6, k7]) rfl ⟨rfl, k1⟩
set_option maxRecDepth 100000 in
set_option maxHeartbeats 2000000 in
theorem rof_15 (s : ByteArray) (hs : s.size ≤ 2097152) (c i r : Int) (x : ByteArray) (m : Int) (w : World) :
    Calls Tryz.prog 8 #[.agg #[.int .i64 15, .int .i64 c, .string x, .int .u8 m], .string s, .int .i64 i, .int .i64 r] w fun e W' => e = .returned (rsv (ofP s 15 c i r)) ∧ Below w.heap.size w W' := by
  have HF : Hid (Ro w 15 c x m ((w.alloc (.cells #[.int .i64 15, .int .i64 c, .string x, .int .u8 m] 35)).alloc (.cells #[.int .i64 0, .int .i64 0, .string ⟨#[]⟩, .int .i64 0, .string ⟨#[]⟩, .bool false] 37))) := ro0 w 15 c x m
  obtain ⟨a, n, ha, hn, hn1, hn2, e1, hcb, hal⟩ := of_pre s c i
  obtain ⟨tt, htt⟩ : ∃ tt, rpt (stF 15 s) n a = tt := ⟨_, rfl⟩
  have CD : Hid (∀ W, Ro w 15 c x m W → Calls Tryz.prog 11 #[.int .i64 15] W fun e W' => e = .returned (.bool true) ∧ Hid (Ro w 15 c x m W')) := ro_does (by decide)
  have CN : Hid (∀ W, Ro w 15 c x m W → Calls Tryz.prog 15 #[.string s, .int .i64 (min (max i 0) (s.size : Int))] W fun e W' => e = .returned (.int .i64 a) ∧ Hid (Ro w 15 c x m W')) := ro_snap hs ha
  have CS : Hid (∀ W, Ro w 15 c x m W → Calls Tryz.prog 16 #[.int .i64 15, .string s, .int .i64 a, .int .i64 (min (max c 1) 1000)] W fun e W' => e = .returned (.int .i64 tt) ∧ Hid (Ro w 15 c x m W')) := ro_steps hs hcb hn2 e1 htt
  have HP : ofP s 15 c i r = makP 15 s n a (regP s r) := by unfold ofP; rw [if_pos (by decide), ha, hn]
  have hr := rst_left (k := 15) (s := s) (by decide) n a
  rw [htt] at hr
  have HR : ofP s 15 c i r = cutP a tt := by rw [HP, ← htt]; rfl
  rw [HR]
  clear HP HR
  unfold cutP
  by_cases he : a = 0
  · rw [if_pos (by omega)]
    clear hcb htt ha hn e1 hn1 hn2
    subst he
    clear hr
    go_enter Tryz.func8, Tryz.ntmps8
    go_upto_region 22 with (first | (go_at_call 11; refine (CD.out _ HF.out).mono ?_; clear CD HF; rintro e w1 ⟨rfl, HF⟩; obtain ⟨⟨c0, c1⟩, -⟩ := HF.out.get) | (go_at_call 15; refine (CN.out _ HF.out).mono ?_; clear CN HF c0 c1; rintro e w1 ⟨rfl, HF⟩; obtain ⟨⟨c0, c1⟩, -⟩ := HF.out.get) | (go_at_call 16; refine (CS.out _ HF.out).mono ?_; clear CS HF c0 c1; rintro e w1 ⟨rfl, HF⟩; obtain ⟨⟨c0, c1⟩, ⟨z0, z1, z2, z3, z4, z5⟩, f0, f1, f2, f3, f4, f5, hl⟩ := HF.out.get))
    go_wp2
    obtain ⟨k1, k2, k3, k4, k5, k6, k7⟩ := HF.out.fin (.int .i64 0) (.int .i64 0) (.string ⟨#[]⟩) (.int .i64 0) (.string ⟨#[]⟩) (.bool false)
    exact bodyPost_ret (v := rsv (chz, 8)) (by simp [results, Tryz.results8, go_sem, rsv, chc, chz, k2, k3, k4, k5, k6, k7]) rfl ⟨rfl, k1⟩
  · rw [if_neg (by omega)]
    have he' : ¬ (a : Int) = 0 := by omega
    rw [show min a tt = tt by omega, show max a tt = a by omega]
    have CX : Hid (∀ W, Ro w 15 c x m W → Calls Tryz.prog 21 #[.int .i64 tt, .int .i64 a] W fun e W' => e = .returned (.agg #[.int .i64 tt, .int .i64 (a - tt : Nat), .string ⟨#[]⟩, .int .i64 tt, .string ⟨#[]⟩, .bool false]) ∧ Hid (Ro w 15 c x m W')) := fun W hW => (rcut_any W tt a (by omega) (by omega)).mono fun e W' ⟨q1, q2⟩ => ⟨q1, hW.below q2⟩
    clear hcb htt ha hn e1 hn1 hn2
    go_enter Tryz.func8, Tryz.ntmps8
    go_upto_region 24 with (first | (go_at_call 11; refine (CD.out _ HF.out).mono ?_; clear CD HF; rintro e w1 ⟨rfl, HF⟩; obtain ⟨⟨c0, c1⟩, -⟩ := HF.out.get) | (go_at_call 15; refine (CN.out _ HF.out).mono ?_; clear CN HF c0 c1; rintro e w1 ⟨rfl, HF⟩; obtain ⟨⟨c0, c1⟩, -⟩ := HF.out.get) | (go_at_call 16; refine (CS.out _ HF.out).mono ?_; clear CS HF c0 c1; rintro e w1 ⟨rfl, HF⟩; obtain ⟨⟨c0, c1⟩, ⟨z0, z1, z2, z3, z4, z5⟩, f0, f1, f2, f3, f4, f5, hl⟩ := HF.out.get))
    go_wp2_with (go_at_call 21; refine (CX.out _ HF.out).mono ?_; clear CX HF c0 c1 z0 z1 z2 z3 z4 z5 f0 f1 f2 f3 f4 f5 hl; rintro e w1 ⟨rfl, HF⟩; obtain ⟨⟨c0, c1⟩, ⟨z0, z1, z2, z3, z4, z5⟩, f0, f1, f2, f3, f4, f5, hl⟩ := HF.out.get)
    obtain ⟨k1, k2, k3, k4, k5, k6, k7⟩ := HF.out.fin (.int .i64 tt) (.int .i64 (a - tt : Nat)) (.string ⟨#[]⟩) (.int .i64 tt) (.string ⟨#[]⟩) (.bool false)
    exact bodyPost_ret (v := rsv (⟨tt, a - tt, ⟨#[]⟩, tt, ⟨#[]⟩, false⟩, 0)) (by simp [results, Tryz.results8, go_sem, rsv, chc, k2, k3, k4, k5, k6, k7]) rfl ⟨rfl, k1⟩
set_option maxRecDepth 100000 in
set_option maxHeartbeats 2000000 in
theorem rof_16 (s : ByteArray) (hs : s.size ≤ 2097152) (c i r : Int) (x : ByteArray) (m : Int) (w : World) :
    Calls Tryz.prog 8 #[.agg #[.int .i64 16, .int .i64 c, .string x, .int .u8 m], .string s, .int .i64 i, .int .i64 r] w fun e W' => e = .returned (rsv (ofP s 16 c i r)) ∧ Below w.heap.size w W' := by
  have HF : Hid (Ro w 16 c x m ((w.alloc (.cells #[.int .i64 16, .int .i64 c, .string x, .int .u8 m] 35)).alloc (.cells #[.int .i64 0, .int .i64 0, .string ⟨#[]⟩, .int .i64 0, .string ⟨#[]⟩, .bool false] 37))) := ro0 w 16 c x m
  obtain ⟨a, n, ha, hn, hn1, hn2, e1, hcb, hal⟩ := of_pre s c i
  obtain ⟨tt, htt⟩ : ∃ tt, rpt (stF 16 s) n a = tt := ⟨_, rfl⟩
  have CD : Hid (∀ W, Ro w 16 c x m W → Calls Tryz.prog 11 #[.int .i64 16] W fun e W' => e = .returned (.bool true) ∧ Hid (Ro w 16 c x m W')) := ro_does (by decide)
  have CN : Hid (∀ W, Ro w 16 c x m W → Calls Tryz.prog 15 #[.string s, .int .i64 (min (max i 0) (s.size : Int))] W fun e W' => e = .returned (.int .i64 a) ∧ Hid (Ro w 16 c x m W')) := ro_snap hs ha
  have CS : Hid (∀ W, Ro w 16 c x m W → Calls Tryz.prog 16 #[.int .i64 16, .string s, .int .i64 a, .int .i64 (min (max c 1) 1000)] W fun e W' => e = .returned (.int .i64 tt) ∧ Hid (Ro w 16 c x m W')) := ro_steps hs hcb hn2 e1 htt
  have HP : ofP s 16 c i r = makP 16 s n a (regP s r) := by unfold ofP; rw [if_pos (by decide), ha, hn]
  have hr := rst_right (k := 16) (s := s) (by decide) n a hcb
  rw [htt] at hr
  have HR : ofP s 16 c i r = killP s a tt := by rw [HP, ← htt]; rfl
  rw [HR]
  clear HP HR
  unfold killP
  by_cases he : a = s.size
  · rw [if_pos (by omega)]
    clear hcb htt ha hn e1 hn1 hn2
    subst he
    clear hr
    go_enter Tryz.func8, Tryz.ntmps8
    go_upto_region 22 with (first | (go_at_call 11; refine (CD.out _ HF.out).mono ?_; clear CD HF; rintro e w1 ⟨rfl, HF⟩; obtain ⟨⟨c0, c1⟩, -⟩ := HF.out.get) | (go_at_call 15; refine (CN.out _ HF.out).mono ?_; clear CN HF c0 c1; rintro e w1 ⟨rfl, HF⟩; obtain ⟨⟨c0, c1⟩, -⟩ := HF.out.get) | (go_at_call 16; refine (CS.out _ HF.out).mono ?_; clear CS HF c0 c1; rintro e w1 ⟨rfl, HF⟩; obtain ⟨⟨c0, c1⟩, ⟨z0, z1, z2, z3, z4, z5⟩, f0, f1, f2, f3, f4, f5, hl⟩ := HF.out.get))
    go_wp2
    obtain ⟨k1, k2, k3, k4, k5, k6, k7⟩ := HF.out.fin (.int .i64 0) (.int .i64 0) (.string ⟨#[]⟩) (.int .i64 0) (.string ⟨#[]⟩) (.bool false)
    exact bodyPost_ret (v := rsv (chz, 8)) (by simp [results, Tryz.results8, go_sem, rsv, chc, chz, k2, k3, k4, k5, k6, k7]) rfl ⟨rfl, k1⟩
  · rw [if_neg (by omega)]
    have he' : ¬ (a : Int) = s.size := by omega
    rw [show min a tt = a by omega, show max a tt = tt by omega, show decide (tt < a) = false by simp; omega]
    have CX : Hid (∀ W, Ro w 16 c x m W → Calls Tryz.prog 22 #[.string s, .int .i64 a, .int .i64 tt, .bool false] W fun e W' => e = .returned (.agg #[.int .i64 a, .int .i64 (tt - a : Nat), .string ⟨#[]⟩, .int .i64 a, .string (s.extract a tt), .bool false]) ∧ Hid (Ro w 16 c x m W')) := fun W hW => (rkill_any W s a tt false (by omega) (by omega) (by omega)).mono fun e W' ⟨q1, q2⟩ => ⟨q1, hW.below q2⟩
    clear hcb htt ha hn e1 hn1 hn2
    go_enter Tryz.func8, Tryz.ntmps8
    go_upto_region 24 with (first | (go_at_call 11; refine (CD.out _ HF.out).mono ?_; clear CD HF; rintro e w1 ⟨rfl, HF⟩; obtain ⟨⟨c0, c1⟩, -⟩ := HF.out.get) | (go_at_call 15; refine (CN.out _ HF.out).mono ?_; clear CN HF c0 c1; rintro e w1 ⟨rfl, HF⟩; obtain ⟨⟨c0, c1⟩, -⟩ := HF.out.get) | (go_at_call 16; refine (CS.out _ HF.out).mono ?_; clear CS HF c0 c1; rintro e w1 ⟨rfl, HF⟩; obtain ⟨⟨c0, c1⟩, ⟨z0, z1, z2, z3, z4, z5⟩, f0, f1, f2, f3, f4, f5, hl⟩ := HF.out.get))
    go_wp2_with (go_at_call 22; refine (CX.out _ HF.out).mono ?_; clear CX HF c0 c1 z0 z1 z2 z3 z4 z5 f0 f1 f2 f3 f4 f5 hl; rintro e w1 ⟨rfl, HF⟩; obtain ⟨⟨c0, c1⟩, ⟨z0, z1, z2, z3, z4, z5⟩, f0, f1, f2, f3, f4, f5, hl⟩ := HF.out.get)
    obtain ⟨k1, k2, k3, k4, k5, k6, k7⟩ := HF.out.fin (.int .i64 a) (.int .i64 (tt - a : Nat)) (.string ⟨#[]⟩) (.int .i64 a) (.string (s.extract a tt)) (.bool false)
    exact bodyPost_ret (v := rsv (⟨a, tt - a, ⟨#[]⟩, a, s.extract a tt, false⟩, 0)) (by simp [results, Tryz.results8, go_sem, rsv, chc, k2, k3, k4, k5, k6, k7]) rfl ⟨rfl, k1⟩
set_option maxRecDepth 100000 in
set_option maxHeartbeats 2000000 in
theorem rof_17 (s : ByteArray) (hs : s.size ≤ 2097152) (c i r : Int) (x : ByteArray) (m : Int) (w : World) :
    Calls Tryz.prog 8 #[.agg #[.int .i64 17, .int .i64 c, .string x, .int .u8 m], .string s, .int .i64 i, .int .i64 r] w fun e W' => e = .returned (rsv (ofP s 17 c i r)) ∧ Below w.heap.size w W' := by
  have HF : Hid (Ro w 17 c x m ((w.alloc (.cells #[.int .i64 17, .int .i64 c, .string x, .int .u8 m] 35)).alloc (.cells #[.int .i64 0, .int .i64 0, .string ⟨#[]⟩, .int .i64 0, .string ⟨#[]⟩, .bool false] 37))) := ro0 w 17 c x m
  obtain ⟨a, n, ha, hn, hn1, hn2, e1, hcb, hal⟩ := of_pre s c i
  obtain ⟨tt, htt⟩ : ∃ tt, rpt (stF 17 s) n a = tt := ⟨_, rfl⟩
  have CD : Hid (∀ W, Ro w 17 c x m W → Calls Tryz.prog 11 #[.int .i64 17] W fun e W' => e = .returned (.bool true) ∧ Hid (Ro w 17 c x m W')) := ro_does (by decide)
  have CN : Hid (∀ W, Ro w 17 c x m W → Calls Tryz.prog 15 #[.string s, .int .i64 (min (max i 0) (s.size : Int))] W fun e W' => e = .returned (.int .i64 a) ∧ Hid (Ro w 17 c x m W')) := ro_snap hs ha
  have CS : Hid (∀ W, Ro w 17 c x m W → Calls Tryz.prog 16 #[.int .i64 17, .string s, .int .i64 a, .int .i64 (min (max c 1) 1000)] W fun e W' => e = .returned (.int .i64 tt) ∧ Hid (Ro w 17 c x m W')) := ro_steps hs hcb hn2 e1 htt
  have HP : ofP s 17 c i r = makP 17 s n a (regP s r) := by unfold ofP; rw [if_pos (by decide), ha, hn]
  have hr := rst_left (k := 17) (s := s) (by decide) n a
  rw [htt] at hr
  have HR : ofP s 17 c i r = killP s a tt := by rw [HP, ← htt]; rfl
  rw [HR]
  clear HP HR
  unfold killP
  by_cases he : a = 0
  · rw [if_pos (by omega)]
    clear hcb htt ha hn e1 hn1 hn2
    subst he
    clear hr
    go_enter Tryz.func8, Tryz.ntmps8
    go_upto_region 22 with (first | (go_at_call 11; refine (CD.out _ HF.out).mono ?_; clear CD HF; rintro e w1 ⟨rfl, HF⟩; obtain ⟨⟨c0, c1⟩, -⟩ := HF.out.get) | (go_at_call 15; refine (CN.out _ HF.out).mono ?_; clear CN HF c0 c1; rintro e w1 ⟨rfl, HF⟩; obtain ⟨⟨c0, c1⟩, -⟩ := HF.out.get) | (go_at_call 16; refine (CS.out _ HF.out).mono ?_; clear CS HF c0 c1; rintro e w1 ⟨rfl, HF⟩; obtain ⟨⟨c0, c1⟩, ⟨z0, z1, z2, z3, z4, z5⟩, f0, f1, f2, f3, f4, f5, hl⟩ := HF.out.get))
    go_wp2
    obtain ⟨k1, k2, k3, k4, k5, k6, k7⟩ := HF.out.fin (.int .i64 0) (.int .i64 0) (.string ⟨#[]⟩) (.int .i64 0) (.string ⟨#[]⟩) (.bool false)
    exact bodyPost_ret (v := rsv (chz, 8)) (by simp [results, Tryz.results8, go_sem, rsv, chc, chz, k2, k3, k4, k5, k6, k7]) rfl ⟨rfl, k1⟩
  · rw [if_neg (by omega)]
    have he' : ¬ (a : Int) = 0 := by omega
    rw [show min a tt = tt by omega, show max a tt = a by omega, show decide (tt < a) = true by simp; omega]
    have CX : Hid (∀ W, Ro w 17 c x m W → Calls Tryz.prog 22 #[.string s, .int .i64 tt, .int .i64 a, .bool true] W fun e W' => e = .returned (.agg #[.int .i64 tt, .int .i64 (a - tt : Nat), .string ⟨#[]⟩, .int .i64 tt, .string (s.extract tt a), .bool true]) ∧ Hid (Ro w 17 c x m W')) := fun W hW => (rkill_any W s tt a true (by omega) (by omega) (by omega)).mono fun e W' ⟨q1, q2⟩ => ⟨q1, hW.below q2⟩
    clear hcb htt ha hn e1 hn1 hn2
    go_enter Tryz.func8, Tryz.ntmps8
    go_upto_region 24 with (first | (go_at_call 11; refine (CD.out _ HF.out).mono ?_; clear CD HF; rintro e w1 ⟨rfl, HF⟩; obtain ⟨⟨c0, c1⟩, -⟩ := HF.out.get) | (go_at_call 15; refine (CN.out _ HF.out).mono ?_; clear CN HF c0 c1; rintro e w1 ⟨rfl, HF⟩; obtain ⟨⟨c0, c1⟩, -⟩ := HF.out.get) | (go_at_call 16; refine (CS.out _ HF.out).mono ?_; clear CS HF c0 c1; rintro e w1 ⟨rfl, HF⟩; obtain ⟨⟨c0, c1⟩, ⟨z0, z1, z2, z3, z4, z5⟩, f0, f1, f2, f3, f4, f5, hl⟩ := HF.out.get))
    go_wp2_with (go_at_call 22; refine (CX.out _ HF.out).mono ?_; clear CX HF c0 c1 z0 z1 z2 z3 z4 z5 f0 f1 f2 f3 f4 f5 hl; rintro e w1 ⟨rfl, HF⟩; obtain ⟨⟨c0, c1⟩, ⟨z0, z1, z2, z3, z4, z5⟩, f0, f1, f2, f3, f4, f5, hl⟩ := HF.out.get)
    obtain ⟨k1, k2, k3, k4, k5, k6, k7⟩ := HF.out.fin (.int .i64 tt) (.int .i64 (a - tt : Nat)) (.string ⟨#[]⟩) (.int .i64 tt) (.string (s.extract tt a)) (.bool true)
    exact bodyPost_ret (v := rsv (⟨tt, a - tt, ⟨#[]⟩, tt, s.extract tt a, true⟩, 0)) (by simp [results, Tryz.results8, go_sem, rsv, chc, k2, k3, k4, k5, k6, k7]) rfl ⟨rfl, k1⟩
set_option maxRecDepth 100000 in
set_option maxHeartbeats 2000000 in
theorem rof_18 (s : ByteArray) (hs : s.size ≤ 2097152) (c i r : Int) (x : ByteArray) (m : Int) (w : World) :
    Calls Tryz.prog 8 #[.agg #[.int .i64 18, .int .i64 c, .string x, .int .u8 m], .string s, .int .i64 i, .int .i64 r] w fun e W' => e = .returned (rsv (ofP s 18 c i r)) ∧ Below w.heap.size w W' := by
  have HF : Hid (Ro w 18 c x m ((w.alloc (.cells #[.int .i64 18, .int .i64 c, .string x, .int .u8 m] 35)).alloc (.cells #[.int .i64 0, .int .i64 0, .string ⟨#[]⟩, .int .i64 0, .string ⟨#[]⟩, .bool false] 37))) := ro0 w 18 c x m
  obtain ⟨a, n, ha, hn, hn1, hn2, e1, hcb, hal⟩ := of_pre s c i
  obtain ⟨tt, htt⟩ : ∃ tt, rpt (stF 18 s) n a = tt := ⟨_, rfl⟩
  have CD : Hid (∀ W, Ro w 18 c x m W → Calls Tryz.prog 11 #[.int .i64 18] W fun e W' => e = .returned (.bool true) ∧ Hid (Ro w 18 c x m W')) := ro_does (by decide)
  have CN : Hid (∀ W, Ro w 18 c x m W → Calls Tryz.prog 15 #[.string s, .int .i64 (min (max i 0) (s.size : Int))] W fun e W' => e = .returned (.int .i64 a) ∧ Hid (Ro w 18 c x m W')) := ro_snap hs ha
  have CS : Hid (∀ W, Ro w 18 c x m W → Calls Tryz.prog 16 #[.int .i64 18, .string s, .int .i64 a, .int .i64 (min (max c 1) 1000)] W fun e W' => e = .returned (.int .i64 tt) ∧ Hid (Ro w 18 c x m W')) := ro_steps hs hcb hn2 e1 htt
  have HP : ofP s 18 c i r = makP 18 s n a (regP s r) := by unfold ofP; rw [if_pos (by decide), ha, hn]
  have hr := rst_right (k := 18) (s := s) (by decide) n a hcb
  rw [htt] at hr
  have HR : ofP s 18 c i r = killP s a tt := by rw [HP, ← htt]; rfl
  rw [HR]
  clear HP HR
  unfold killP
  by_cases he : a = s.size
  · rw [if_pos (by omega)]
    clear hcb htt ha hn e1 hn1 hn2
    subst he
    clear hr
    go_enter Tryz.func8, Tryz.ntmps8
    go_upto_region 22 with (first | (go_at_call 11; refine (CD.out _ HF.out).mono ?_; clear CD HF; rintro e w1 ⟨rfl, HF⟩; obtain ⟨⟨c0, c1⟩, -⟩ := HF.out.get) | (go_at_call 15; refine (CN.out _ HF.out).mono ?_; clear CN HF c0 c1; rintro e w1 ⟨rfl, HF⟩; obtain ⟨⟨c0, c1⟩, -⟩ := HF.out.get) | (go_at_call 16; refine (CS.out _ HF.out).mono ?_; clear CS HF c0 c1; rintro e w1 ⟨rfl, HF⟩; obtain ⟨⟨c0, c1⟩, ⟨z0, z1, z2, z3, z4, z5⟩, f0, f1, f2, f3, f4, f5, hl⟩ := HF.out.get))
    go_wp2
    obtain ⟨k1, k2, k3, k4, k5, k6, k7⟩ := HF.out.fin (.int .i64 0) (.int .i64 0) (.string ⟨#[]⟩) (.int .i64 0) (.string ⟨#[]⟩) (.bool false)
    exact bodyPost_ret (v := rsv (chz, 8)) (by simp [results, Tryz.results8, go_sem, rsv, chc, chz, k2, k3, k4, k5, k6, k7]) rfl ⟨rfl, k1⟩
  · rw [if_neg (by omega)]
    have he' : ¬ (a : Int) = s.size := by omega
    rw [show min a tt = a by omega, show max a tt = tt by omega, show decide (tt < a) = false by simp; omega]
    have CX : Hid (∀ W, Ro w 18 c x m W → Calls Tryz.prog 22 #[.string s, .int .i64 a, .int .i64 tt, .bool false] W fun e W' => e = .returned (.agg #[.int .i64 a, .int .i64 (tt - a : Nat), .string ⟨#[]⟩, .int .i64 a, .string (s.extract a tt), .bool false]) ∧ Hid (Ro w 18 c x m W')) := fun W hW => (rkill_any W s a tt false (by omega) (by omega) (by omega)).mono fun e W' ⟨q1, q2⟩ => ⟨q1, hW.below q2⟩
    clear hcb htt ha hn e1 hn1 hn2
    go_enter Tryz.func8, Tryz.ntmps8
    go_upto_region 24 with (first | (go_at_call 11; refine (CD.out _ HF.out).mono ?_; clear CD HF; rintro e w1 ⟨rfl, HF⟩; obtain ⟨⟨c0, c1⟩, -⟩ := HF.out.get) | (go_at_call 15; refine (CN.out _ HF.out).mono ?_; clear CN HF c0 c1; rintro e w1 ⟨rfl, HF⟩; obtain ⟨⟨c0, c1⟩, -⟩ := HF.out.get) | (go_at_call 16; refine (CS.out _ HF.out).mono ?_; clear CS HF c0 c1; rintro e w1 ⟨rfl, HF⟩; obtain ⟨⟨c0, c1⟩, ⟨z0, z1, z2, z3, z4, z5⟩, f0, f1, f2, f3, f4, f5, hl⟩ := HF.out.get))
    go_wp2_with (go_at_call 22; refine (CX.out _ HF.out).mono ?_; clear CX HF c0 c1 z0 z1 z2 z3 z4 z5 f0 f1 f2 f3 f4 f5 hl; rintro e w1 ⟨rfl, HF⟩; obtain ⟨⟨c0, c1⟩, ⟨z0, z1, z2, z3, z4, z5⟩, f0, f1, f2, f3, f4, f5, hl⟩ := HF.out.get)
    obtain ⟨k1, k2, k3, k4, k5, k6, k7⟩ := HF.out.fin (.int .i64 a) (.int .i64 (tt - a : Nat)) (.string ⟨#[]⟩) (.int .i64 a) (.string (s.extract a tt)) (.bool false)
    exact bodyPost_ret (v := rsv (⟨a, tt - a, ⟨#[]⟩, a, s.extract a tt, false⟩, 0)) (by simp [results, Tryz.results8, go_sem, rsv, chc, k2, k3, k4, k5, k6, k7]) rfl ⟨rfl, k1⟩
set_option maxRecDepth 100000 in
set_option maxHeartbeats 2000000 in
theorem rof_19 (s : ByteArray) (hs : s.size ≤ 2097152) (c i r : Int) (x : ByteArray) (m : Int) (w : World) :
    Calls Tryz.prog 8 #[.agg #[.int .i64 19, .int .i64 c, .string x, .int .u8 m], .string s, .int .i64 i, .int .i64 r] w fun e W' => e = .returned (rsv (ofP s 19 c i r)) ∧ Below w.heap.size w W' := by
  have HF : Hid (Ro w 19 c x m ((w.alloc (.cells #[.int .i64 19, .int .i64 c, .string x, .int .u8 m] 35)).alloc (.cells #[.int .i64 0, .int .i64 0, .string ⟨#[]⟩, .int .i64 0, .string ⟨#[]⟩, .bool false] 37))) := ro0 w 19 c x m
  obtain ⟨a, n, ha, hn, hn1, hn2, e1, hcb, hal⟩ := of_pre s c i
  obtain ⟨tt, htt⟩ : ∃ tt, rpt (stF 19 s) n a = tt := ⟨_, rfl⟩
  have CD : Hid (∀ W, Ro w 19 c x m W → Calls Tryz.prog 11 #[.int .i64 19] W fun e W' => e = .returned (.bool true) ∧ Hid (Ro w 19 c x m W')) := ro_does (by decide)
  have CN : Hid (∀ W, Ro w 19 c x m W → Calls Tryz.prog 15 #[.string s, .int .i64 (min (max i 0) (s.size : Int))] W fun e W' => e = .returned (.int .i64 a) ∧ Hid (Ro w 19 c x m W')) := ro_snap hs ha
  have CS : Hid (∀ W, Ro w 19 c x m W → Calls Tryz.prog 16 #[.int .i64 19, .string s, .int .i64 a, .int .i64 (min (max c 1) 1000)] W fun e W' => e = .returned (.int .i64 tt) ∧ Hid (Ro w 19 c x m W')) := ro_steps hs hcb hn2 e1 htt
  have HP : ofP s 19 c i r = makP 19 s n a (regP s r) := by unfold ofP; rw [if_pos (by decide), ha, hn]
  obtain ⟨p, hp⟩ : ∃ p, (lnP s a).1 = p := ⟨_, rfl⟩
  obtain ⟨b, hb⟩ : ∃ b, (lnP s a).2 = b := ⟨_, rfl⟩
  have hle := (lnP_pl hcb).le
  have CL : Hid (∀ W, Ro w 19 c x m W → Calls Tryz.prog 17 #[.string s, .int .i64 a] W fun e W' => e = .returned (.agg #[.int .i64 p, .int .i64 b]) ∧ Hid (Ro w 19 c x m W')) := fun W hW => (rline_at W s a hcb (by omega)).mono fun e W' ⟨q1, q2⟩ => ⟨by rw [q1, hp, hb], hW.below q2⟩
  have hfd : ∀ W, (Instr.field 53 (.agg #[.int .i64 p, .int .i64 b]) 0).run Tryz.prog W = .ok (.int .i64 p) W := fun W => by kernel_rfl
  rw [hp, hb] at hle
  have HR : ofP s 19 c i r = killP s a p := by rw [HP, ← hp]; rfl
  rw [HR]
  clear HP HR
  unfold killP
  by_cases he : a = p
  · rw [if_pos (by omega)]
    clear hcb htt ha hn e1 hn1 hn2
    have he' : (a : Int) = p := by omega
    obtain rfl : a = p := he
    clear hle he'
    go_enter Tryz.func8, Tryz.ntmps8
    go_upto_region 22 with (first | (go_at_call 11; refine (CD.out _ HF.out).mono ?_; clear CD HF; rintro e w1 ⟨rfl, HF⟩; obtain ⟨⟨c0, c1⟩, -⟩ := HF.out.get) | (go_at_call 15; refine (CN.out _ HF.out).mono ?_; clear CN HF c0 c1; rintro e w1 ⟨rfl, HF⟩; obtain ⟨⟨c0, c1⟩, -⟩ := HF.out.get) | (go_at_call 16; refine (CS.out _ HF.out).mono ?_; clear CS HF c0 c1; rintro e w1 ⟨rfl, HF⟩; obtain ⟨⟨c0, c1⟩, ⟨z0, z1, z2, z3, z4, z5⟩, f0, f1, f2, f3, f4, f5, hl⟩ := HF.out.get) | (go_at_call 17; refine (CL.out _ HF.out).mono ?_; clear CL HF c0 c1 z0 z1 z2 z3 z4 z5 f0 f1 f2 f3 f4 f5 hl; rintro e w1 ⟨rfl, HF⟩; obtain ⟨⟨c0, c1⟩, ⟨z0, z1, z2, z3, z4, z5⟩, f0, f1, f2, f3, f4, f5, hl⟩ := HF.out.get))
    go_wp2
    obtain ⟨k1, k2, k3, k4, k5, k6, k7⟩ := HF.out.fin (.int .i64 0) (.int .i64 0) (.string ⟨#[]⟩) (.int .i64 0) (.string ⟨#[]⟩) (.bool false)
    exact bodyPost_ret (v := rsv (chz, 8)) (by simp [results, Tryz.results8, go_sem, rsv, chc, chz, k2, k3, k4, k5, k6, k7]) rfl ⟨rfl, k1⟩
  · rw [if_neg (by omega)]
    have he' : ¬ (a : Int) = p := by omega
    rw [show min a p = p by omega, show max a p = a by omega, show decide (p < a) = true by simp; omega]
    have CX : Hid (∀ W, Ro w 19 c x m W → Calls Tryz.prog 22 #[.string s, .int .i64 p, .int .i64 a, .bool true] W fun e W' => e = .returned (.agg #[.int .i64 p, .int .i64 (a - p : Nat), .string ⟨#[]⟩, .int .i64 p, .string (s.extract p a), .bool true]) ∧ Hid (Ro w 19 c x m W')) := fun W hW => (rkill_any W s p a true (by omega) (by omega) (by omega)).mono fun e W' ⟨q1, q2⟩ => ⟨q1, hW.below q2⟩
    clear hcb htt ha hn e1 hn1 hn2
    go_enter Tryz.func8, Tryz.ntmps8
    go_upto_region 24 with (first | (go_at_call 11; refine (CD.out _ HF.out).mono ?_; clear CD HF; rintro e w1 ⟨rfl, HF⟩; obtain ⟨⟨c0, c1⟩, -⟩ := HF.out.get) | (go_at_call 15; refine (CN.out _ HF.out).mono ?_; clear CN HF c0 c1; rintro e w1 ⟨rfl, HF⟩; obtain ⟨⟨c0, c1⟩, -⟩ := HF.out.get) | (go_at_call 16; refine (CS.out _ HF.out).mono ?_; clear CS HF c0 c1; rintro e w1 ⟨rfl, HF⟩; obtain ⟨⟨c0, c1⟩, ⟨z0, z1, z2, z3, z4, z5⟩, f0, f1, f2, f3, f4, f5, hl⟩ := HF.out.get) | (go_at_call 17; refine (CL.out _ HF.out).mono ?_; clear CL HF c0 c1 z0 z1 z2 z3 z4 z5 f0 f1 f2 f3 f4 f5 hl; rintro e w1 ⟨rfl, HF⟩; obtain ⟨⟨c0, c1⟩, ⟨z0, z1, z2, z3, z4, z5⟩, f0, f1, f2, f3, f4, f5, hl⟩ := HF.out.get))
    go_wp2_with (go_at_call 22; refine (CX.out _ HF.out).mono ?_; clear CX HF c0 c1 z0 z1 z2 z3 z4 z5 f0 f1 f2 f3 f4 f5 hl; rintro e w1 ⟨rfl, HF⟩; obtain ⟨⟨c0, c1⟩, ⟨z0, z1, z2, z3, z4, z5⟩, f0, f1, f2, f3, f4, f5, hl⟩ := HF.out.get)
    obtain ⟨k1, k2, k3, k4, k5, k6, k7⟩ := HF.out.fin (.int .i64 p) (.int .i64 (a - p : Nat)) (.string ⟨#[]⟩) (.int .i64 p) (.string (s.extract p a)) (.bool true)
    exact bodyPost_ret (v := rsv (⟨p, a - p, ⟨#[]⟩, p, s.extract p a, true⟩, 0)) (by simp [results, Tryz.results8, go_sem, rsv, chc, k2, k3, k4, k5, k6, k7]) rfl ⟨rfl, k1⟩
set_option maxRecDepth 100000 in
set_option maxHeartbeats 2000000 in
theorem rof_26 (s : ByteArray) (hs : s.size ≤ 2097152) (c i r : Int) (x : ByteArray) (m : Int) (w : World) :
    Calls Tryz.prog 8 #[.agg #[.int .i64 26, .int .i64 c, .string x, .int .u8 m], .string s, .int .i64 i, .int .i64 r] w fun e W' => e = .returned (rsv (ofP s 26 c i r)) ∧ Below w.heap.size w W' := by
  have HF : Hid (Ro w 26 c x m ((w.alloc (.cells #[.int .i64 26, .int .i64 c, .string x, .int .u8 m] 35)).alloc (.cells #[.int .i64 0, .int .i64 0, .string ⟨#[]⟩, .int .i64 0, .string ⟨#[]⟩, .bool false] 37))) := ro0 w 26 c x m
  obtain ⟨a, n, ha, hn, hn1, hn2, e1, hcb, hal⟩ := of_pre s c i
  obtain ⟨tt, htt⟩ : ∃ tt, rpt (stF 26 s) n a = tt := ⟨_, rfl⟩
  have CD : Hid (∀ W, Ro w 26 c x m W → Calls Tryz.prog 11 #[.int .i64 26] W fun e W' => e = .returned (.bool true) ∧ Hid (Ro w 26 c x m W')) := ro_does (by decide)
  have CN : Hid (∀ W, Ro w 26 c x m W → Calls Tryz.prog 15 #[.string s, .int .i64 (min (max i 0) (s.size : Int))] W fun e W' => e = .returned (.int .i64 a) ∧ Hid (Ro w 26 c x m W')) := ro_snap hs ha
  have CS : Hid (∀ W, Ro w 26 c x m W → Calls Tryz.prog 16 #[.int .i64 26, .string s, .int .i64 a, .int .i64 (min (max c 1) 1000)] W fun e W' => e = .returned (.int .i64 tt) ∧ Hid (Ro w 26 c x m W')) := ro_steps hs hcb hn2 e1 htt
  have HP : ofP s 26 c i r = makP 26 s n a (regP s r) := by unfold ofP; rw [if_pos (by decide), ha, hn]
  have hr := rst_right (k := 26) (s := s) (by decide) n a hcb
  rw [htt] at hr
  have HR : ofP s 26 c i r = caseP 26 s a tt := by rw [HP, ← htt]; rfl
  rw [HR]
  clear HP HR
  unfold caseP
  by_cases he : a = s.size
  · rw [if_pos (by omega)]
    clear hcb htt ha hn e1 hn1 hn2
    subst he
    clear hr
    go_enter Tryz.func8, Tryz.ntmps8
    go_upto_region 22 with (first | (go_at_call 11; refine (CD.out _ HF.out).mono ?_; clear CD HF; rintro e w1 ⟨rfl, HF⟩; obtain ⟨⟨c0, c1⟩, -⟩ := HF.out.get) | (go_at_call 15; refine (CN.out _ HF.out).mono ?_; clear CN HF c0 c1; rintro e w1 ⟨rfl, HF⟩; obtain ⟨⟨c0, c1⟩, -⟩ := HF.out.get) | (go_at_call 16; refine (CS.out _ HF.out).mono ?_; clear CS HF c0 c1; rintro e w1 ⟨rfl, HF⟩; obtain ⟨⟨c0, c1⟩, ⟨z0, z1, z2, z3, z4, z5⟩, f0, f1, f2, f3, f4, f5, hl⟩ := HF.out.get))
    go_wp2
    obtain ⟨k1, k2, k3, k4, k5, k6, k7⟩ := HF.out.fin (.int .i64 0) (.int .i64 0) (.string ⟨#[]⟩) (.int .i64 0) (.string ⟨#[]⟩) (.bool false)
    exact bodyPost_ret (v := rsv (chz, 8)) (by simp [results, Tryz.results8, go_sem, rsv, chc, chz, k2, k3, k4, k5, k6, k7]) rfl ⟨rfl, k1⟩
  · rw [if_neg (by omega)]
    have he' : ¬ (a : Int) = s.size := by omega
    have CY := fun W => rcased_any W s 26 (by decide) a tt (by omega) (by omega) hs
    generalize frm 26 (s.extract a tt) = y at *
    generalize a + y.size = u at *
    have CX : Hid (∀ W, Ro w 26 c x m W → Calls Tryz.prog 23 #[.int .i64 26, .string s, .int .i64 a, .int .i64 tt] W fun e W' => e = .returned (.agg #[.int .i64 a, .int .i64 (tt - a : Nat), .string y, .int .i64 u, .string ⟨#[]⟩, .bool false]) ∧ Hid (Ro w 26 c x m W')) := fun W hW => (CY W).mono fun e W' ⟨q1, q2⟩ => ⟨q1, hW.below q2⟩
    clear CY
    clear hcb htt ha hn e1 hn1 hn2
    go_enter Tryz.func8, Tryz.ntmps8
    go_upto_region 24 with (first | (go_at_call 11; refine (CD.out _ HF.out).mono ?_; clear CD HF; rintro e w1 ⟨rfl, HF⟩; obtain ⟨⟨c0, c1⟩, -⟩ := HF.out.get) | (go_at_call 15; refine (CN.out _ HF.out).mono ?_; clear CN HF c0 c1; rintro e w1 ⟨rfl, HF⟩; obtain ⟨⟨c0, c1⟩, -⟩ := HF.out.get) | (go_at_call 16; refine (CS.out _ HF.out).mono ?_; clear CS HF c0 c1; rintro e w1 ⟨rfl, HF⟩; obtain ⟨⟨c0, c1⟩, ⟨z0, z1, z2, z3, z4, z5⟩, f0, f1, f2, f3, f4, f5, hl⟩ := HF.out.get))
    go_wp2_with (go_at_call 23; refine (CX.out _ HF.out).mono ?_; clear CX HF c0 c1 z0 z1 z2 z3 z4 z5 f0 f1 f2 f3 f4 f5 hl; rintro e w1 ⟨rfl, HF⟩; obtain ⟨⟨c0, c1⟩, ⟨z0, z1, z2, z3, z4, z5⟩, f0, f1, f2, f3, f4, f5, hl⟩ := HF.out.get)
    obtain ⟨k1, k2, k3, k4, k5, k6, k7⟩ := HF.out.fin (.int .i64 a) (.int .i64 (tt - a : Nat)) (.string y) (.int .i64 u) (.string ⟨#[]⟩) (.bool false)
    exact bodyPost_ret (v := rsv (⟨a, tt - a, y, u, ⟨#[]⟩, false⟩, 0)) (by simp [results, Tryz.results8, go_sem, rsv, chc, k2, k3, k4, k5, k6, k7]) rfl ⟨rfl, k1⟩
set_option maxRecDepth 100000 in
set_option maxHeartbeats 2000000 in
theorem rof_27 (s : ByteArray) (hs : s.size ≤ 2097152) (c i r : Int) (x : ByteArray) (m : Int) (w : World) :
    Calls Tryz.prog 8 #[.agg #[.int .i64 27, .int .i64 c, .string x, .int .u8 m], .string s, .int .i64 i, .int .i64 r] w fun e W' => e = .returned (rsv (ofP s 27 c i r)) ∧ Below w.heap.size w W' := by
  have HF : Hid (Ro w 27 c x m ((w.alloc (.cells #[.int .i64 27, .int .i64 c, .string x, .int .u8 m] 35)).alloc (.cells #[.int .i64 0, .int .i64 0, .string ⟨#[]⟩, .int .i64 0, .string ⟨#[]⟩, .bool false] 37))) := ro0 w 27 c x m
  obtain ⟨a, n, ha, hn, hn1, hn2, e1, hcb, hal⟩ := of_pre s c i
  obtain ⟨tt, htt⟩ : ∃ tt, rpt (stF 27 s) n a = tt := ⟨_, rfl⟩
  have CD : Hid (∀ W, Ro w 27 c x m W → Calls Tryz.prog 11 #[.int .i64 27] W fun e W' => e = .returned (.bool true) ∧ Hid (Ro w 27 c x m W')) := ro_does (by decide)
  have CN : Hid (∀ W, Ro w 27 c x m W → Calls Tryz.prog 15 #[.string s, .int .i64 (min (max i 0) (s.size : Int))] W fun e W' => e = .returned (.int .i64 a) ∧ Hid (Ro w 27 c x m W')) := ro_snap hs ha
  have CS : Hid (∀ W, Ro w 27 c x m W → Calls Tryz.prog 16 #[.int .i64 27, .string s, .int .i64 a, .int .i64 (min (max c 1) 1000)] W fun e W' => e = .returned (.int .i64 tt) ∧ Hid (Ro w 27 c x m W')) := ro_steps hs hcb hn2 e1 htt
  have HP : ofP s 27 c i r = makP 27 s n a (regP s r) := by unfold ofP; rw [if_pos (by decide), ha, hn]
  have hr := rst_right (k := 27) (s := s) (by decide) n a hcb
  rw [htt] at hr
  have HR : ofP s 27 c i r = caseP 27 s a tt := by rw [HP, ← htt]; rfl
  rw [HR]
  clear HP HR
  unfold caseP
  by_cases he : a = s.size
  · rw [if_pos (by omega)]
    clear hcb htt ha hn e1 hn1 hn2
    subst he
    clear hr
    go_enter Tryz.func8, Tryz.ntmps8
    go_upto_region 22 with (first | (go_at_call 11; refine (CD.out _ HF.out).mono ?_; clear CD HF; rintro e w1 ⟨rfl, HF⟩; obtain ⟨⟨c0, c1⟩, -⟩ := HF.out.get) | (go_at_call 15; refine (CN.out _ HF.out).mono ?_; clear CN HF c0 c1; rintro e w1 ⟨rfl, HF⟩; obtain ⟨⟨c0, c1⟩, -⟩ := HF.out.get) | (go_at_call 16; refine (CS.out _ HF.out).mono ?_; clear CS HF c0 c1; rintro e w1 ⟨rfl, HF⟩; obtain ⟨⟨c0, c1⟩, ⟨z0, z1, z2, z3, z4, z5⟩, f0, f1, f2, f3, f4, f5, hl⟩ := HF.out.get))
    go_wp2
    obtain ⟨k1, k2, k3, k4, k5, k6, k7⟩ := HF.out.fin (.int .i64 0) (.int .i64 0) (.string ⟨#[]⟩) (.int .i64 0) (.string ⟨#[]⟩) (.bool false)
    exact bodyPost_ret (v := rsv (chz, 8)) (by simp [results, Tryz.results8, go_sem, rsv, chc, chz, k2, k3, k4, k5, k6, k7]) rfl ⟨rfl, k1⟩
  · rw [if_neg (by omega)]
    have he' : ¬ (a : Int) = s.size := by omega
    have CY := fun W => rcased_any W s 27 (by decide) a tt (by omega) (by omega) hs
    generalize frm 27 (s.extract a tt) = y at *
    generalize a + y.size = u at *
    have CX : Hid (∀ W, Ro w 27 c x m W → Calls Tryz.prog 23 #[.int .i64 27, .string s, .int .i64 a, .int .i64 tt] W fun e W' => e = .returned (.agg #[.int .i64 a, .int .i64 (tt - a : Nat), .string y, .int .i64 u, .string ⟨#[]⟩, .bool false]) ∧ Hid (Ro w 27 c x m W')) := fun W hW => (CY W).mono fun e W' ⟨q1, q2⟩ => ⟨q1, hW.below q2⟩
    clear CY
    clear hcb htt ha hn e1 hn1 hn2
    go_enter Tryz.func8, Tryz.ntmps8
    go_upto_region 24 with (first | (go_at_call 11; refine (CD.out _ HF.out).mono ?_; clear CD HF; rintro e w1 ⟨rfl, HF⟩; obtain ⟨⟨c0, c1⟩, -⟩ := HF.out.get) | (go_at_call 15; refine (CN.out _ HF.out).mono ?_; clear CN HF c0 c1; rintro e w1 ⟨rfl, HF⟩; obtain ⟨⟨c0, c1⟩, -⟩ := HF.out.get) | (go_at_call 16; refine (CS.out _ HF.out).mono ?_; clear CS HF c0 c1; rintro e w1 ⟨rfl, HF⟩; obtain ⟨⟨c0, c1⟩, ⟨z0, z1, z2, z3, z4, z5⟩, f0, f1, f2, f3, f4, f5, hl⟩ := HF.out.get))
    go_wp2_with (go_at_call 23; refine (CX.out _ HF.out).mono ?_; clear CX HF c0 c1 z0 z1 z2 z3 z4 z5 f0 f1 f2 f3 f4 f5 hl; rintro e w1 ⟨rfl, HF⟩; obtain ⟨⟨c0, c1⟩, ⟨z0, z1, z2, z3, z4, z5⟩, f0, f1, f2, f3, f4, f5, hl⟩ := HF.out.get)
    obtain ⟨k1, k2, k3, k4, k5, k6, k7⟩ := HF.out.fin (.int .i64 a) (.int .i64 (tt - a : Nat)) (.string y) (.int .i64 u) (.string ⟨#[]⟩) (.bool false)
    exact bodyPost_ret (v := rsv (⟨a, tt - a, y, u, ⟨#[]⟩, false⟩, 0)) (by simp [results, Tryz.results8, go_sem, rsv, chc, k2, k3, k4, k5, k6, k7]) rfl ⟨rfl, k1⟩
set_option maxRecDepth 100000 in
set_option maxHeartbeats 2000000 in
theorem rof_28 (s : ByteArray) (hs : s.size ≤ 2097152) (c i r : Int) (x : ByteArray) (m : Int) (w : World) :
    Calls Tryz.prog 8 #[.agg #[.int .i64 28, .int .i64 c, .string x, .int .u8 m], .string s, .int .i64 i, .int .i64 r] w fun e W' => e = .returned (rsv (ofP s 28 c i r)) ∧ Below w.heap.size w W' := by
  have HF : Hid (Ro w 28 c x m ((w.alloc (.cells #[.int .i64 28, .int .i64 c, .string x, .int .u8 m] 35)).alloc (.cells #[.int .i64 0, .int .i64 0, .string ⟨#[]⟩, .int .i64 0, .string ⟨#[]⟩, .bool false] 37))) := ro0 w 28 c x m
  obtain ⟨a, n, ha, hn, hn1, hn2, e1, hcb, hal⟩ := of_pre s c i
  obtain ⟨tt, htt⟩ : ∃ tt, rpt (stF 28 s) n a = tt := ⟨_, rfl⟩
  have CD : Hid (∀ W, Ro w 28 c x m W → Calls Tryz.prog 11 #[.int .i64 28] W fun e W' => e = .returned (.bool true) ∧ Hid (Ro w 28 c x m W')) := ro_does (by decide)
  have CN : Hid (∀ W, Ro w 28 c x m W → Calls Tryz.prog 15 #[.string s, .int .i64 (min (max i 0) (s.size : Int))] W fun e W' => e = .returned (.int .i64 a) ∧ Hid (Ro w 28 c x m W')) := ro_snap hs ha
  have CS : Hid (∀ W, Ro w 28 c x m W → Calls Tryz.prog 16 #[.int .i64 28, .string s, .int .i64 a, .int .i64 (min (max c 1) 1000)] W fun e W' => e = .returned (.int .i64 tt) ∧ Hid (Ro w 28 c x m W')) := ro_steps hs hcb hn2 e1 htt
  have HP : ofP s 28 c i r = makP 28 s n a (regP s r) := by unfold ofP; rw [if_pos (by decide), ha, hn]
  have hr := rst_right (k := 28) (s := s) (by decide) n a hcb
  rw [htt] at hr
  have HR : ofP s 28 c i r = caseP 28 s a tt := by rw [HP, ← htt]; rfl
  rw [HR]
  clear HP HR
  unfold caseP
  by_cases he : a = s.size
  · rw [if_pos (by omega)]
    clear hcb htt ha hn e1 hn1 hn2
    subst he
    clear hr
    go_enter Tryz.func8, Tryz.ntmps8
    go_upto_region 22 with (first | (go_at_call 11; refine (CD.out _ HF.out).mono ?_; clear CD HF; rintro e w1 ⟨rfl, HF⟩; obtain ⟨⟨c0, c1⟩, -⟩ := HF.out.get) | (go_at_call 15; refine (CN.out _ HF.out).mono ?_; clear CN HF c0 c1; rintro e w1 ⟨rfl, HF⟩; obtain ⟨⟨c0, c1⟩, -⟩ := HF.out.get) | (go_at_call 16; refine (CS.out _ HF.out).mono ?_; clear CS HF c0 c1; rintro e w1 ⟨rfl, HF⟩; obtain ⟨⟨c0, c1⟩, ⟨z0, z1, z2, z3, z4, z5⟩, f0, f1, f2, f3, f4, f5, hl⟩ := HF.out.get))
    go_wp2
    obtain ⟨k1, k2, k3, k4, k5, k6, k7⟩ := HF.out.fin (.int .i64 0) (.int .i64 0) (.string ⟨#[]⟩) (.int .i64 0) (.string ⟨#[]⟩) (.bool false)
    exact bodyPost_ret (v := rsv (chz, 8)) (by simp [results, Tryz.results8, go_sem, rsv, chc, chz, k2, k3, k4, k5, k6, k7]) rfl ⟨rfl, k1⟩
  · rw [if_neg (by omega)]
    have he' : ¬ (a : Int) = s.size := by omega
    have CY := fun W => rcased_any W s 28 (by decide) a tt (by omega) (by omega) hs
    generalize frm 28 (s.extract a tt) = y at *
    generalize a + y.size = u at *
    have CX : Hid (∀ W, Ro w 28 c x m W → Calls Tryz.prog 23 #[.int .i64 28, .string s, .int .i64 a, .int .i64 tt] W fun e W' => e = .returned (.agg #[.int .i64 a, .int .i64 (tt - a : Nat), .string y, .int .i64 u, .string ⟨#[]⟩, .bool false]) ∧ Hid (Ro w 28 c x m W')) := fun W hW => (CY W).mono fun e W' ⟨q1, q2⟩ => ⟨q1, hW.below q2⟩
    clear CY
    clear hcb htt ha hn e1 hn1 hn2
    go_enter Tryz.func8, Tryz.ntmps8
    go_upto_region 24 with (first | (go_at_call 11; refine (CD.out _ HF.out).mono ?_; clear CD HF; rintro e w1 ⟨rfl, HF⟩; obtain ⟨⟨c0, c1⟩, -⟩ := HF.out.get) | (go_at_call 15; refine (CN.out _ HF.out).mono ?_; clear CN HF c0 c1; rintro e w1 ⟨rfl, HF⟩; obtain ⟨⟨c0, c1⟩, -⟩ := HF.out.get) | (go_at_call 16; refine (CS.out _ HF.out).mono ?_; clear CS HF c0 c1; rintro e w1 ⟨rfl, HF⟩; obtain ⟨⟨c0, c1⟩, ⟨z0, z1, z2, z3, z4, z5⟩, f0, f1, f2, f3, f4, f5, hl⟩ := HF.out.get))
    go_wp2_with (go_at_call 23; refine (CX.out _ HF.out).mono ?_; clear CX HF c0 c1 z0 z1 z2 z3 z4 z5 f0 f1 f2 f3 f4 f5 hl; rintro e w1 ⟨rfl, HF⟩; obtain ⟨⟨c0, c1⟩, ⟨z0, z1, z2, z3, z4, z5⟩, f0, f1, f2, f3, f4, f5, hl⟩ := HF.out.get)
    obtain ⟨k1, k2, k3, k4, k5, k6, k7⟩ := HF.out.fin (.int .i64 a) (.int .i64 (tt - a : Nat)) (.string y) (.int .i64 u) (.string ⟨#[]⟩) (.bool false)
    exact bodyPost_ret (v := rsv (⟨a, tt - a, y, u, ⟨#[]⟩, false⟩, 0)) (by simp [results, Tryz.results8, go_sem, rsv, chc, k2, k3, k4, k5, k6, k7]) rfl ⟨rfl, k1⟩
set_option maxRecDepth 100000 in
set_option maxHeartbeats 2000000 in
theorem rof_20 (s : ByteArray) (hs : s.size ≤ 2097152) (c i r : Int) (x : ByteArray) (m : Int) (w : World) :
    Calls Tryz.prog 8 #[.agg #[.int .i64 20, .int .i64 c, .string x, .int .u8 m], .string s, .int .i64 i, .int .i64 r] w fun e W' => e = .returned (rsv (ofP s 20 c i r)) ∧ Below w.heap.size w W' := by
  have HF : Hid (Ro w 20 c x m ((w.alloc (.cells #[.int .i64 20, .int .i64 c, .string x, .int .u8 m] 35)).alloc (.cells #[.int .i64 0, .int .i64 0, .string ⟨#[]⟩, .int .i64 0, .string ⟨#[]⟩, .bool false] 37))) := ro0 w 20 c x m
  obtain ⟨a, n, ha, hn, hn1, hn2, e1, hcb, hal⟩ := of_pre s c i
  obtain ⟨tt, htt⟩ : ∃ tt, rpt (stF 20 s) n a = tt := ⟨_, rfl⟩
  have CD : Hid (∀ W, Ro w 20 c x m W → Calls Tryz.prog 11 #[.int .i64 20] W fun e W' => e = .returned (.bool true) ∧ Hid (Ro w 20 c x m W')) := ro_does (by decide)
  have CN : Hid (∀ W, Ro w 20 c x m W → Calls Tryz.prog 15 #[.string s, .int .i64 (min (max i 0) (s.size : Int))] W fun e W' => e = .returned (.int .i64 a) ∧ Hid (Ro w 20 c x m W')) := ro_snap hs ha
  have CS : Hid (∀ W, Ro w 20 c x m W → Calls Tryz.prog 16 #[.int .i64 20, .string s, .int .i64 a, .int .i64 (min (max c 1) 1000)] W fun e W' => e = .returned (.int .i64 tt) ∧ Hid (Ro w 20 c x m W')) := ro_steps hs hcb hn2 e1 htt
  have HP : ofP s 20 c i r = makP 20 s n a (regP s r) := by unfold ofP; rw [if_pos (by decide), ha, hn]
  have HR : ofP s 20 c i r = rgnP 20 s a (regP s r) := by rw [HP]; unfold rgnP; cases regP s r <;> rfl
  rw [HR]
  have CY := fun W => rregional_any W s 20 a r hal hs
  obtain ⟨⟨q0, q1, q2, q3, q4, q5⟩, e, hq⟩ : ∃ d e, rgnP 20 s a (regP s r) = (d, e) := ⟨_, _, rfl⟩
  rw [hq] at CY ⊢
  have CX : Hid (∀ W, Ro w 20 c x m W → Calls Tryz.prog 20 #[.int .i64 20, .string s, .int .i64 a, .int .i64 r] W fun e' W' => e' = .returned (.tuple #[.agg #[.int .i64 q0, .int .i64 q1, .string q2, .int .i64 q3, .string q4, .bool q5], .int .i64 e]) ∧ Hid (Ro w 20 c x m W')) := fun W hW => (CY W).mono fun e W' ⟨q1, q2⟩ => ⟨q1, hW.below q2⟩
  clear CY hq HP HR hcb htt ha hn e1 hn1 hn2
  go_enter Tryz.func8, Tryz.ntmps8
  go_upto_region 20 with (first | (go_at_call 11; refine (CD.out _ HF.out).mono ?_; clear CD HF; rintro e w1 ⟨rfl, HF⟩; obtain ⟨⟨c0, c1⟩, -⟩ := HF.out.get) | (go_at_call 15; refine (CN.out _ HF.out).mono ?_; clear CN HF c0 c1; rintro e w1 ⟨rfl, HF⟩; obtain ⟨⟨c0, c1⟩, -⟩ := HF.out.get) | (go_at_call 16; refine (CS.out _ HF.out).mono ?_; clear CS HF c0 c1; rintro e w1 ⟨rfl, HF⟩; obtain ⟨⟨c0, c1⟩, ⟨z0, z1, z2, z3, z4, z5⟩, f0, f1, f2, f3, f4, f5, hl⟩ := HF.out.get))
  go_wp2_with (go_at_call 20; refine (CX.out _ HF.out).mono ?_; clear CX HF c0 c1 z0 z1 z2 z3 z4 z5 f0 f1 f2 f3 f4 f5 hl; rintro e w1 ⟨rfl, HF⟩; obtain ⟨⟨c0, c1⟩, ⟨z0, z1, z2, z3, z4, z5⟩, f0, f1, f2, f3, f4, f5, hl⟩ := HF.out.get)
  obtain ⟨k1, k2, k3, k4, k5, k6, k7⟩ := HF.out.fin (.int .i64 q0) (.int .i64 q1) (.string q2) (.int .i64 q3) (.string q4) (.bool q5)
  exact bodyPost_ret (v := rsv (⟨q0, q1, q2, q3, q4, q5⟩, e)) (by simp [results, Tryz.results8, go_sem, rsv, chc, k2, k3, k4, k5, k6, k7]) rfl ⟨rfl, k1⟩
set_option maxRecDepth 100000 in
set_option maxHeartbeats 2000000 in
theorem rof_21 (s : ByteArray) (hs : s.size ≤ 2097152) (c i r : Int) (x : ByteArray) (m : Int) (w : World) :
    Calls Tryz.prog 8 #[.agg #[.int .i64 21, .int .i64 c, .string x, .int .u8 m], .string s, .int .i64 i, .int .i64 r] w fun e W' => e = .returned (rsv (ofP s 21 c i r)) ∧ Below w.heap.size w W' := by
  have HF : Hid (Ro w 21 c x m ((w.alloc (.cells #[.int .i64 21, .int .i64 c, .string x, .int .u8 m] 35)).alloc (.cells #[.int .i64 0, .int .i64 0, .string ⟨#[]⟩, .int .i64 0, .string ⟨#[]⟩, .bool false] 37))) := ro0 w 21 c x m
  obtain ⟨a, n, ha, hn, hn1, hn2, e1, hcb, hal⟩ := of_pre s c i
  obtain ⟨tt, htt⟩ : ∃ tt, rpt (stF 21 s) n a = tt := ⟨_, rfl⟩
  have CD : Hid (∀ W, Ro w 21 c x m W → Calls Tryz.prog 11 #[.int .i64 21] W fun e W' => e = .returned (.bool true) ∧ Hid (Ro w 21 c x m W')) := ro_does (by decide)
  have CN : Hid (∀ W, Ro w 21 c x m W → Calls Tryz.prog 15 #[.string s, .int .i64 (min (max i 0) (s.size : Int))] W fun e W' => e = .returned (.int .i64 a) ∧ Hid (Ro w 21 c x m W')) := ro_snap hs ha
  have CS : Hid (∀ W, Ro w 21 c x m W → Calls Tryz.prog 16 #[.int .i64 21, .string s, .int .i64 a, .int .i64 (min (max c 1) 1000)] W fun e W' => e = .returned (.int .i64 tt) ∧ Hid (Ro w 21 c x m W')) := ro_steps hs hcb hn2 e1 htt
  have HP : ofP s 21 c i r = makP 21 s n a (regP s r) := by unfold ofP; rw [if_pos (by decide), ha, hn]
  have HR : ofP s 21 c i r = rgnP 21 s a (regP s r) := by rw [HP]; unfold rgnP; cases regP s r <;> rfl
  rw [HR]
  have CY := fun W => rregional_any W s 21 a r hal hs
  obtain ⟨⟨q0, q1, q2, q3, q4, q5⟩, e, hq⟩ : ∃ d e, rgnP 21 s a (regP s r) = (d, e) := ⟨_, _, rfl⟩
  rw [hq] at CY ⊢
  have CX : Hid (∀ W, Ro w 21 c x m W → Calls Tryz.prog 20 #[.int .i64 21, .string s, .int .i64 a, .int .i64 r] W fun e' W' => e' = .returned (.tuple #[.agg #[.int .i64 q0, .int .i64 q1, .string q2, .int .i64 q3, .string q4, .bool q5], .int .i64 e]) ∧ Hid (Ro w 21 c x m W')) := fun W hW => (CY W).mono fun e W' ⟨q1, q2⟩ => ⟨q1, hW.below q2⟩
  clear CY hq HP HR hcb htt ha hn e1 hn1 hn2
  go_enter Tryz.func8, Tryz.ntmps8
  go_upto_region 20 with (first | (go_at_call 11; refine (CD.out _ HF.out).mono ?_; clear CD HF; rintro e w1 ⟨rfl, HF⟩; obtain ⟨⟨c0, c1⟩, -⟩ := HF.out.get) | (go_at_call 15; refine (CN.out _ HF.out).mono ?_; clear CN HF c0 c1; rintro e w1 ⟨rfl, HF⟩; obtain ⟨⟨c0, c1⟩, -⟩ := HF.out.get) | (go_at_call 16; refine (CS.out _ HF.out).mono ?_; clear CS HF c0 c1; rintro e w1 ⟨rfl, HF⟩; obtain ⟨⟨c0, c1⟩, ⟨z0, z1, z2, z3, z4, z5⟩, f0, f1, f2, f3, f4, f5, hl⟩ := HF.out.get))
  go_wp2_with (go_at_call 20; refine (CX.out _ HF.out).mono ?_; clear CX HF c0 c1 z0 z1 z2 z3 z4 z5 f0 f1 f2 f3 f4 f5 hl; rintro e w1 ⟨rfl, HF⟩; obtain ⟨⟨c0, c1⟩, ⟨z0, z1, z2, z3, z4, z5⟩, f0, f1, f2, f3, f4, f5, hl⟩ := HF.out.get)
  obtain ⟨k1, k2, k3, k4, k5, k6, k7⟩ := HF.out.fin (.int .i64 q0) (.int .i64 q1) (.string q2) (.int .i64 q3) (.string q4) (.bool q5)
  exact bodyPost_ret (v := rsv (⟨q0, q1, q2, q3, q4, q5⟩, e)) (by simp [results, Tryz.results8, go_sem, rsv, chc, k2, k3, k4, k5, k6, k7]) rfl ⟨rfl, k1⟩
set_option maxRecDepth 100000 in
set_option maxHeartbeats 2000000 in
theorem rof_24 (s : ByteArray) (hs : s.size ≤ 2097152) (c i r : Int) (x : ByteArray) (m : Int) (w : World) :
    Calls Tryz.prog 8 #[.agg #[.int .i64 24, .int .i64 c, .string x, .int .u8 m], .string s, .int .i64 i, .int .i64 r] w fun e W' => e = .returned (rsv (ofP s 24 c i r)) ∧ Below w.heap.size w W' := by
  have HF : Hid (Ro w 24 c x m ((w.alloc (.cells #[.int .i64 24, .int .i64 c, .string x, .int .u8 m] 35)).alloc (.cells #[.int .i64 0, .int .i64 0, .string ⟨#[]⟩, .int .i64 0, .string ⟨#[]⟩, .bool false] 37))) := ro0 w 24 c x m
  obtain ⟨a, n, ha, hn, hn1, hn2, e1, hcb, hal⟩ := of_pre s c i
  obtain ⟨tt, htt⟩ : ∃ tt, rpt (stF 24 s) n a = tt := ⟨_, rfl⟩
  have CD : Hid (∀ W, Ro w 24 c x m W → Calls Tryz.prog 11 #[.int .i64 24] W fun e W' => e = .returned (.bool true) ∧ Hid (Ro w 24 c x m W')) := ro_does (by decide)
  have CN : Hid (∀ W, Ro w 24 c x m W → Calls Tryz.prog 15 #[.string s, .int .i64 (min (max i 0) (s.size : Int))] W fun e W' => e = .returned (.int .i64 a) ∧ Hid (Ro w 24 c x m W')) := ro_snap hs ha
  have CS : Hid (∀ W, Ro w 24 c x m W → Calls Tryz.prog 16 #[.int .i64 24, .string s, .int .i64 a, .int .i64 (min (max c 1) 1000)] W fun e W' => e = .returned (.int .i64 tt) ∧ Hid (Ro w 24 c x m W')) := ro_steps hs hcb hn2 e1 htt
  have HP : ofP s 24 c i r = makP 24 s n a (regP s r) := by unfold ofP; rw [if_pos (by decide), ha, hn]
  have HR : ofP s 24 c i r = charsP s a := by rw [HP]; rfl
  rw [HR]
  have CY := fun W => rchars_any W s a hcb hs
  obtain ⟨⟨q0, q1, q2, q3, q4, q5⟩, e, hq⟩ : ∃ d e, charsP s a = (d, e) := ⟨_, _, rfl⟩
  rw [hq] at CY ⊢
  have CX : Hid (∀ W, Ro w 24 c x m W → Calls Tryz.prog 18 #[.string s, .int .i64 a] W fun e' W' => e' = .returned (.tuple #[.agg #[.int .i64 q0, .int .i64 q1, .string q2, .int .i64 q3, .string q4, .bool q5], .int .i64 e]) ∧ Hid (Ro w 24 c x m W')) := fun W hW => (CY W).mono fun e W' ⟨q1, q2⟩ => ⟨q1, hW.below q2⟩
  clear CY hq HP HR hcb htt ha hn e1 hn1 hn2
  go_enter Tryz.func8, Tryz.ntmps8
  go_upto_region 15 with (first | (go_at_call 11; refine (CD.out _ HF.out).mono ?_; clear CD HF; rintro e w1 ⟨rfl, HF⟩; obtain ⟨⟨c0, c1⟩, -⟩ := HF.out.get) | (go_at_call 15; refine (CN.out _ HF.out).mono ?_; clear CN HF c0 c1; rintro e w1 ⟨rfl, HF⟩; obtain ⟨⟨c0, c1⟩, -⟩ := HF.out.get) | (go_at_call 16; refine (CS.out _ HF.out).mono ?_; clear CS HF c0 c1; rintro e w1 ⟨rfl, HF⟩; obtain ⟨⟨c0, c1⟩, ⟨z0, z1, z2, z3, z4, z5⟩, f0, f1, f2, f3, f4, f5, hl⟩ := HF.out.get))
  go_wp2_with (go_at_call 18; refine (CX.out _ HF.out).mono ?_; clear CX HF c0 c1 z0 z1 z2 z3 z4 z5 f0 f1 f2 f3 f4 f5 hl; rintro e w1 ⟨rfl, HF⟩; obtain ⟨⟨c0, c1⟩, ⟨z0, z1, z2, z3, z4, z5⟩, f0, f1, f2, f3, f4, f5, hl⟩ := HF.out.get)
  obtain ⟨k1, k2, k3, k4, k5, k6, k7⟩ := HF.out.fin (.int .i64 q0) (.int .i64 q1) (.string q2) (.int .i64 q3) (.string q4) (.bool q5)
  exact bodyPost_ret (v := rsv (⟨q0, q1, q2, q3, q4, q5⟩, e)) (by simp [results, Tryz.results8, go_sem, rsv, chc, k2, k3, k4, k5, k6, k7]) rfl ⟨rfl, k1⟩
set_option maxRecDepth 100000 in
set_option maxHeartbeats 2000000 in
theorem rof_25 (hM : Tryz.prog.follows .mixedOrders = true) (s : ByteArray) (hs : s.size ≤ 2097152) (c i r : Int) (x : ByteArray) (m : Int) (w : World) :
    Calls Tryz.prog 8 #[.agg #[.int .i64 25, .int .i64 c, .string x, .int .u8 m], .string s, .int .i64 i, .int .i64 r] w fun e W' => e = .returned (rsv (ofP s 25 c i r)) ∧ Below w.heap.size w W' := by
  have HF : Hid (Ro w 25 c x m ((w.alloc (.cells #[.int .i64 25, .int .i64 c, .string x, .int .u8 m] 35)).alloc (.cells #[.int .i64 0, .int .i64 0, .string ⟨#[]⟩, .int .i64 0, .string ⟨#[]⟩, .bool false] 37))) := ro0 w 25 c x m
  obtain ⟨a, n, ha, hn, hn1, hn2, e1, hcb, hal⟩ := of_pre s c i
  obtain ⟨tt, htt⟩ : ∃ tt, rpt (stF 25 s) n a = tt := ⟨_, rfl⟩
  have CD : Hid (∀ W, Ro w 25 c x m W → Calls Tryz.prog 11 #[.int .i64 25] W fun e W' => e = .returned (.bool true) ∧ Hid (Ro w 25 c x m W')) := ro_does (by decide)
  have CN : Hid (∀ W, Ro w 25 c x m W → Calls Tryz.prog 15 #[.string s, .int .i64 (min (max i 0) (s.size : Int))] W fun e W' => e = .returned (.int .i64 a) ∧ Hid (Ro w 25 c x m W')) := ro_snap hs ha
  have CS : Hid (∀ W, Ro w 25 c x m W → Calls Tryz.prog 16 #[.int .i64 25, .string s, .int .i64 a, .int .i64 (min (max c 1) 1000)] W fun e W' => e = .returned (.int .i64 tt) ∧ Hid (Ro w 25 c x m W')) := ro_steps hs hcb hn2 e1 htt
  have HP : ofP s 25 c i r = makP 25 s n a (regP s r) := by unfold ofP; rw [if_pos (by decide), ha, hn]
  have HR : ofP s 25 c i r = wordsP s a := by rw [HP]; rfl
  rw [HR]
  have CY := fun W => rwords_any hM W s a hs
  obtain ⟨⟨q0, q1, q2, q3, q4, q5⟩, e, hq⟩ : ∃ d e, wordsP s a = (d, e) := ⟨_, _, rfl⟩
  rw [hq] at CY ⊢
  have CX : Hid (∀ W, Ro w 25 c x m W → Calls Tryz.prog 19 #[.string s, .int .i64 a] W fun e' W' => e' = .returned (.tuple #[.agg #[.int .i64 q0, .int .i64 q1, .string q2, .int .i64 q3, .string q4, .bool q5], .int .i64 e]) ∧ Hid (Ro w 25 c x m W')) := fun W hW => (CY W).mono fun e W' ⟨q1, q2⟩ => ⟨q1, hW.below q2⟩
  clear CY hq HP HR hcb htt ha hn e1 hn1 hn2
  go_enter Tryz.func8, Tryz.ntmps8
  go_upto_region 17 with (first | (go_at_call 11; refine (CD.out _ HF.out).mono ?_; clear CD HF; rintro e w1 ⟨rfl, HF⟩; obtain ⟨⟨c0, c1⟩, -⟩ := HF.out.get) | (go_at_call 15; refine (CN.out _ HF.out).mono ?_; clear CN HF c0 c1; rintro e w1 ⟨rfl, HF⟩; obtain ⟨⟨c0, c1⟩, -⟩ := HF.out.get) | (go_at_call 16; refine (CS.out _ HF.out).mono ?_; clear CS HF c0 c1; rintro e w1 ⟨rfl, HF⟩; obtain ⟨⟨c0, c1⟩, ⟨z0, z1, z2, z3, z4, z5⟩, f0, f1, f2, f3, f4, f5, hl⟩ := HF.out.get))
  go_wp2_with (go_at_call 19; refine (CX.out _ HF.out).mono ?_; clear CX HF c0 c1 z0 z1 z2 z3 z4 z5 f0 f1 f2 f3 f4 f5 hl; rintro e w1 ⟨rfl, HF⟩; obtain ⟨⟨c0, c1⟩, ⟨z0, z1, z2, z3, z4, z5⟩, f0, f1, f2, f3, f4, f5, hl⟩ := HF.out.get)
  obtain ⟨k1, k2, k3, k4, k5, k6, k7⟩ := HF.out.fin (.int .i64 q0) (.int .i64 q1) (.string q2) (.int .i64 q3) (.string q4) (.bool q5)
  exact bodyPost_ret (v := rsv (⟨q0, q1, q2, q3, q4, q5⟩, e)) (by simp [results, Tryz.results8, go_sem, rsv, chc, k2, k3, k4, k5, k6, k7]) rfl ⟨rfl, k1⟩
set_option maxRecDepth 100000 in
set_option maxHeartbeats 2000000 in
theorem rof_no (s : ByteArray) (k c i r : Int) (x : ByteArray) (m : Int) (w : World) (hd : doesP k = false) :
    Calls Tryz.prog 8 #[.agg #[.int .i64 k, .int .i64 c, .string x, .int .u8 m], .string s, .int .i64 i, .int .i64 r] w fun e W' => e = .returned (rsv (ofP s k c i r)) ∧ Below w.heap.size w W' := by
  have HF : Hid (Ro w k c x m ((w.alloc (.cells #[.int .i64 k, .int .i64 c, .string x, .int .u8 m] 35)).alloc (.cells #[.int .i64 0, .int .i64 0, .string ⟨#[]⟩, .int .i64 0, .string ⟨#[]⟩, .bool false] 37))) := ro0 w k c x m
  have CD : Hid (∀ W, Ro w k c x m W → Calls Tryz.prog 11 #[.int .i64 k] W fun e W' => e = .returned (.bool false) ∧ Hid (Ro w k c x m W')) := fun W hW => (rdoes_any k W).mono fun e W' ⟨q1, q2⟩ => ⟨by rw [q1, hd], hW.below q2⟩
  unfold ofP
  rw [hd, if_neg (by decide)]
  clear hd
  go_enter Tryz.func8, Tryz.ntmps8
  go_wp2_with (go_at_call 11; refine (CD.out _ HF.out).mono ?_; clear CD HF; rintro e w1 ⟨rfl, HF⟩; obtain ⟨⟨c0, c1⟩, ⟨z0, z1, z2, z3, z4, z5⟩, f0, f1, f2, f3, f4, f5, hl⟩ := HF.out.get)
  obtain ⟨k1, k2, k3, k4, k5, k6, k7⟩ := HF.out.fin (.int .i64 0) (.int .i64 0) (.string ⟨#[]⟩) (.int .i64 0) (.string ⟨#[]⟩) (.bool false)
  exact bodyPost_ret (v := rsv (chz, 13)) (by simp [results, Tryz.results8, go_sem, rsv, chc, chz, k2, k3, k4, k5, k6, k7]) rfl ⟨rfl, k1⟩
theorem rOf_any (hM : Tryz.prog.follows .mixedOrders = true) (s : ByteArray) (hs : s.size ≤ 2097152) (k c i r : Int) (x : ByteArray) (m : Int) (w : World) :
    Calls Tryz.prog 8 #[.agg #[.int .i64 k, .int .i64 c, .string x, .int .u8 m], .string s, .int .i64 i, .int .i64 r] w fun e W' => e = .returned (rsv (ofP s k c i r)) ∧ Below w.heap.size w W' := by
  cases hd : doesP k with
  | false => exact rof_no s k c i r x m w hd
  | true =>
    have h := of_decide_eq_true hd
    have h : k = 14 ∨ k = 15 ∨ k = 16 ∨ k = 17 ∨ k = 18 ∨ k = 19 ∨ k = 20 ∨ k = 21 ∨ k = 24 ∨ k = 25 ∨ k = 26 ∨ k = 27 ∨ k = 28 := by omega
    rcases h with rfl | rfl | rfl | rfl | rfl | rfl | rfl | rfl | rfl | rfl | rfl | rfl | rfl
    · exact rof_14 s hs c i r x m w
    · exact rof_15 s hs c i r x m w
    · exact rof_16 s hs c i r x m w
    · exact rof_17 s hs c i r x m w
    · exact rof_18 s hs c i r x m w
    · exact rof_19 s hs c i r x m w
    · exact rof_20 s hs c i r x m w
    · exact rof_21 s hs c i r x m w
    · exact rof_24 s hs c i r x m w
    · exact rof_25 hM s hs c i r x m w
    · exact rof_26 s hs c i r x m w
    · exact rof_27 s hs c i r x m w
    · exact rof_28 s hs c i r x m w
end Go.Proofs.YtdggbnkhbmffoaaGreatDoor
