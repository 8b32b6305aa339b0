/-
  Package rope's together, Concat and Sum. Conditions: the two tables of unicode/utf8 lie as their text lays them; all texts together hold at most 1099511627776 bytes.
-/
import Derived.Test.YtcjmfoadimpffaaGreatDoorRTog
namespace Go.Proofs.YtcjmfoadimpffaaGreatDoor
open Go.RowKit Go.Shelf Bod Wid

set_option maxRecDepth 100000 in
set_option maxHeartbeats 1000000 in
theorem rsum_any {w : World} {t : Tr} {v : Value} (h : Rp w t v) : Calls Tryz.prog 199 #[v] w fun e W' => e = .returned (sv (smr t.text)) ∧ Below w.heap.size w W' := by
  obtain ⟨m, hm⟩ : ∃ m, smr t.text = m := ⟨_, rfl⟩
  obtain ⟨W0, hW0⟩ : ∃ W0, w.alloc (.cells #[.int .i64 0, .int .i64 0, .int .i64 0, .int .i64 0, .int .i64 0, .string ⟨#[]⟩, .string ⟨#[]⟩] 96) = W0 := ⟨_, rfl⟩
  have hb0 : Below w.heap.size w W0 := by rw [← hW0]; exact (Below.refl _ w).alloc (Nat.le_refl _) _
  have r0 : W0.heap[w.heap.size]? = some (.cells (scs sm0) 96 (0, 0)) := by rw [← hW0]; exact World.alloc_heap_new w _
  have hz0 : w.heap.size < W0.heap.size := (Array.getElem?_eq_some_iff.1 r0).1
  have K1 : Hid (Calls Tryz.prog 44 #[v] W0 fun e W' => ∃ T a fS, e = .returned (.iface T (.pointer (some a))) ∧ (∀ W, (method 356 T (.pointer (some a)) "Sum").run Tryz.prog W = .ok (fS, .pointer (some a)) W) ∧ (∀ args W, (callFunc fS args).run Tryz.prog W = .ok (.enter fS args) W) ∧ Hid (Calls Tryz.prog fS #[.pointer (some a)] W' fun e X => e = .returned (sv m) ∧ Hid (X.heap[w.heap.size]? = some (.cells (scs sm0) 96 (0, 0)) ∧ Below w.heap.size w X))) := (rtree_any (h.below hb0)).mono fun e W' ⟨v, h1, h2, h3⟩ => by
    obtain ⟨T, a, fS, _, _, _, rfl, ⟨m1, m2⟩, -, -, S1, -⟩ := h2.nd
    exact ⟨T, a, fS, h1, m1, m2, (S1.out _ (Below.refl _ _)).mono fun e X ⟨k1, k2⟩ => ⟨by rw [k1, hm], ((Below.on h3 k2).block _ hz0).trans r0, Below.on hb0 (Below.on h3 k2)⟩⟩
  rw [hm]
  clear h hm hb0 r0 hz0
  go_enter Tryz.func199, Tryz.ntmps199
  go_wp2_with (first | (go_at_call 44; refine K1.out.mono ?_; clear K1; rintro e w1 ⟨T, a, fS, rfl, m1, m2, S1⟩) | (go_at_fn fS; refine S1.out.mono ?_; clear S1 hW0; rintro e w2 ⟨rfl, h⟩; obtain ⟨⟨z0, z1, z2, z3, z4, z5, z6⟩, f0, f1, f2, f3, f4, f5, f6⟩ := box7 h.out.1; have hl : w.heap.size < w2.heap.size := (Array.getElem?_eq_some_iff.1 h.out.1).1))
  exact bodyPost_ret (v := sv m) (by simp [results, Tryz.results199, go_sem, z0, z1, z2, z3, z4, z5, z6]) rfl ⟨rfl, set7_below h.out.2 _ _ _ _ _ _ _⟩
theorem joT_size (a b : List Tr) : (joT (a ++ b)).size = (joT a).size + (joT b).size := by rw [joT_app, size_app]
set_option maxRecDepth 100000 in
set_option maxHeartbeats 2000000 in
theorem together_any : ∀ (n : Nat) {ts : List Tr} {v : Value} {w : World}, ts.length ≤ n → ts.length ≤ B40 → RdP w v ts → (∀ t ∈ ts, Good t) → (joT ts).size ≤ B40 → Ev w →
    Calls Tryz.prog 43 #[v] w (Mk w (tog ts))
  | n, [], v, w, _, _, hr, _, _, _ => by
    obtain ⟨a, cap, rfl, -, -⟩ := hr
    have K1 : Hid (Calls Tryz.prog 84 #[] w (Mk w (.leaf noB))) := eleaf_any w
    rw [tog]
    go_enter Tryz.func43, Tryz.ntmps43
    go_wp2_with (go_at_call 84; refine K1.out.mono ?_; clear K1; rintro e w1 ⟨v1, rfl, h1⟩)
    go_ret
    exact ⟨_, rfl, h1⟩
  | n, [t], v, w, _, _, hr, _, _, _ => by
    obtain ⟨a, cap, rfl, hc, h3⟩ := hr
    obtain ⟨g, o, rfl, hg, h5⟩ := h3 (by simp)
    obtain ⟨x, hx, hR⟩ := h5 0 t rfl
    have hx1 : w.cell? ⟨g, o, none⟩ = some x := hx
    have K1 : Hid (Calls Tryz.prog 44 #[x] w (Mk w t)) := rtree_any hR
    have hc' : 1 ≤ cap := hc
    rw [tog]
    clear h3 h5 hx hR hc
    go_enter Tryz.func43, Tryz.ntmps43
    go_wp2_with (go_at_call 44; refine K1.out.mono ?_; clear K1; rintro e w1 ⟨v1, rfl, h1⟩)
    go_ret
    exact ⟨_, rfl, h1⟩
  | 0, t :: u :: l, v, w, hn, _, _, _, _, _ => by simp at hn
  | n + 1, t :: u :: l, v, w, hn, hl, hr, hg, hs, hE => by
    obtain ⟨ts, hts⟩ : ∃ ts, t :: u :: l = ts := ⟨_, rfl⟩
    rw [hts] at hn hl hr hg hs ⊢
    have h2 : 2 ≤ ts.length := by rw [← hts]; simp
    have hr0 := hr
    obtain ⟨a, cap, rfl, hc, h3⟩ := hr
    obtain ⟨g, o, rfl, -, -⟩ := h3 (fun e => by rw [e] at h2; simp at h2)
    obtain ⟨N, hN⟩ : ∃ N, ts.length = N := ⟨_, rfl⟩
    obtain ⟨half, hh⟩ : ∃ k, N / 2 = k := ⟨_, rfl⟩
    have hq : (N : Int) / 2 = (half : Int) := by omega
    rw [hN] at hc hr0 h2 hl hn ⊢
    have e1 := tog_two (ts := ts) (by omega)
    rw [hN, hh] at e1
    obtain ⟨g1, t1⟩ := tog_ok _ (Nat.le_refl (ts.take half).length) (fun t ht => hg t (List.mem_of_mem_take ht))
    obtain ⟨g2, t2⟩ := tog_ok _ (Nat.le_refl (ts.drop half).length) (fun t ht => hg t (List.mem_of_mem_drop ht))
    have hsz : (joT (ts.take half)).size + (joT (ts.drop half)).size ≤ B40 := by rw [← joT_size, List.take_append_drop]; exact hs
    have hz1 := congrArg ByteArray.size t1
    have hz2 := congrArg ByteArray.size t2
    have K1 : Hid (∀ W, Below w.heap.size w W → Calls Tryz.prog 43 #[.slice (some ⟨g, o, none⟩) half cap] W fun e W' => ∃ T a, e = .returned (.iface T (.pointer (some a))) ∧ Hid (At W' (tog (ts.take half)) (.iface T (.pointer (some a))) ∧ Below w.heap.size w W')) := fun W hW =>
      (together_any n (by rw [List.length_take]; omega) (by rw [List.length_take]; omega) ((hr0.take (k := half) (by omega)).below hW) (fun t ht => hg t (List.mem_of_mem_take ht)) (by omega) (hE.below hW)).mono fun e W' ⟨v, h1, h2, h3⟩ => by
        obtain ⟨T, a, _, _, _, _, rfl, -⟩ := h2.nd
        exact ⟨T, a, h1, h2, Below.on hW h3⟩
    have K2 : Hid (∀ W u, Hid (At W (tog (ts.take half)) u ∧ Below w.heap.size w W) → Calls Tryz.prog 43 #[.slice (some ⟨g, o + half, none⟩) (N - half) (cap - half)] W fun e W' => ∃ v, e = .returned v ∧ Hid (At W' (tog (ts.take half)) u ∧ At W' (tog (ts.drop half)) v ∧ Below w.heap.size w W')) := fun W u ⟨h1, hW⟩ =>
      (together_any n (by rw [List.length_drop]; omega) (by rw [List.length_drop]; omega) ((hr0.drop (k := half) (by omega)).below hW) (fun t ht => hg t (List.mem_of_mem_drop ht)) (by omega) (hE.below hW)).mono fun e W' ⟨v, k1, k2, k3⟩ => ⟨v, k1, h1.below k3, k2, Below.on hW k3⟩
    clear hts
    rw [e1]
    generalize tog (ts.take half) = F at *
    generalize tog (ts.drop half) = G at *
    rw [← hz1, ← hz2] at hsz
    obtain ⟨nf, hnf⟩ : ∃ k, F.text.size = k := ⟨_, rfl⟩
    obtain ⟨mf, hmf⟩ : ∃ m, smr F.text = m := ⟨_, rfl⟩
    have y1 := fby (m := mf) (n := nf) (by rw [← hmf, ← hnf]; rfl)
    obtain ⟨p1, p2, -, -⟩ := bef_ok g1 (Nat.le_refl _)
    obtain ⟨p3, p4, -, -⟩ := aft_ok g2 (Nat.zero_le _)
    have z1 := bef_sz g1 (Nat.le_refl _)
    have z2 := aft_sz g2 (Nat.zero_le _)
    have C1 : Hid (∀ W u v, Hid (At W F u ∧ At W G v ∧ Below w.heap.size w W) → Calls Tryz.prog 45 #[u, .int .i64 nf] W fun e W' => ∃ x, e = .returned (.tuple #[x, .string (bef F F.text.size).2]) ∧ Hid (At W' (bef F F.text.size).1 x ∧ At W' G v ∧ Below w.heap.size w W')) := fun W u v ⟨h1, h2, hW⟩ => by
      rw [← hnf]
      exact (before_any h1 g1.fine g1.avl (Nat.le_refl _) (by omega) (hE.below hW)).mono fun e W' ⟨x, k1, k2, k3⟩ => ⟨x, k1, k2, h2.below k3, Below.on hW k3⟩
    have C2 : Hid (∀ W x v, Hid (At W (bef F F.text.size).1 x ∧ At W G v ∧ Below w.heap.size w W) → Calls Tryz.prog 46 #[v, .int .i64 0] W fun e W' => ∃ y, e = .returned (.tuple #[.string (aft G 0).1, y]) ∧ Hid (At W' (bef F F.text.size).1 x ∧ At W' (aft G 0).2 y ∧ Below w.heap.size w W')) := fun W x v ⟨h1, h2, hW⟩ =>
      (after_any (n := 0) h2 g2.fine g2.avl (Nat.zero_le _) (by omega) (hE.below hW)).mono fun e W' ⟨y, k1, k2, k3⟩ => ⟨y, k1, h1.below k3, k2, Below.on hW k3⟩
    have C3 : Hid (∀ W x y, Hid (At W (bef F F.text.size).1 x ∧ At W (aft G 0).2 y ∧ Below w.heap.size w W) → Calls Tryz.prog 47 #[x, .string ((bef F F.text.size).2 ++ (aft G 0).1), y] W (Mk w (tog2 F G))) := fun W x y ⟨h1, h2, hW⟩ =>
      (laid_any h1 h2 p1 p3 p2 p4 (by rw [size_app]; omega) (hE.below hW)).mono fun e W' ⟨v, k1, k2, k3⟩ => ⟨v, k1, k2, Below.on hW k3⟩
    have b3 : (bef F F.text.size).2.size ≤ 1099511627776 := by unfold B40 at hsz; omega
    have b4 : (aft G 0).1.size ≤ 1099511627776 := by unfold B40 at hsz; omega
    generalize bef F F.text.size = BF at *
    generalize aft G 0 = AG at *
    generalize tog2 F G = TT at *
    have HM : Hid (smr F.text = mf) := hmf
    have c1 : half ≤ cap := by omega
    have c2 : half ≤ N := by omega
    have c3 : half < N := by omega
    have c4 : 0 < half := by omega
    have bN : N ≤ 1099511627776 := hl
    have n0 : ¬ (N : Int) = 0 := by omega
    have n1 : ¬ (N : Int) = 1 := by omega
    clear hr0 hE hs hn hg h3 hN hh g1 g2 t1 t2 hsz hz1 hz2 hnf hmf p1 p2 p3 p4 z1 z2 e1 hl
    go_enter Tryz.func43, Tryz.ntmps43
    go_wp2
    go_region_with (first | (go_at_call 43; refine (K1.out _ (Below.refl _ w).drew).mono ?_; clear K1; rintro e w1 ⟨T, a, rfl, h1⟩) | (go_at_call 43; refine (K2.out _ _ h1).mono ?_; clear K2; rintro e w2 ⟨v2, rfl, H2⟩))
    all_goals (obtain ⟨T', a', fS, fP, fT, p, e', ⟨m1, m2⟩, -, -, S1, -, -, -⟩ := H2.out.1.nd)
    all_goals cases e'
    all_goals rw [HM.out] at S1
    all_goals have S2 : Hid (Calls Tryz.prog fS #[.pointer (some a)] w2 fun e W' => e = .returned (sv mf) ∧ Hid (At W' F (.iface T (.pointer (some a))) ∧ At W' G v2 ∧ Below w.heap.size w W')) := (S1.out w2 (Below.refl _ w2)).mono (fun e W' ⟨k1, k2⟩ => ⟨k1, H2.out.1.below k2, H2.out.2.1.below k2, Below.on H2.out.2.2 k2⟩)
    all_goals clear S1 H2
    all_goals go_wp2_with (first | (go_at_fn fS; refine S2.out.mono ?_; clear S2; rintro e w3 ⟨rfl, h3⟩) | (go_at_call 45; refine (C1.out _ _ _ h3).mono ?_; clear C1; rintro e w4 ⟨v4, rfl, h4⟩) | (go_at_call 46; refine (C2.out _ _ _ h4).mono ?_; clear C2; rintro e w5 ⟨v5, rfl, h5⟩) | (go_at_call 47; refine (C3.out _ _ _ h5).mono ?_; clear C3; rintro e w6 ⟨v6, rfl, h6⟩))
    all_goals exact bodyPost_ret (v := v6) (by simp [results, Tryz.results43, go_sem]) rfl ⟨v6, rfl, h6⟩
set_option maxRecDepth 100000 in
set_option maxHeartbeats 1000000 in
theorem rconcat_any {ts : List Tr} {v : Value} {w : World} (hl : ts.length ≤ B40) (hr : RdP w v ts) (hg : ∀ t ∈ ts, Good t) (hs : (joT ts).size ≤ B40) (hE : Ev w) : Calls Tryz.prog 11 #[v] w (MkR w (tog ts)) := by
  have K1 : Hid (Calls Tryz.prog 43 #[v] w fun e W' => ∃ T p, e = .returned (.iface T p) ∧ Hid (At W' (tog ts) (.iface T p) ∧ Below w.heap.size w W')) := (together_any _ (Nat.le_refl _) hl hr hg hs hE).mono fun e W' ⟨v, h1, h2, h3⟩ => by
    obtain ⟨T, a, _, _, _, _, rfl, -⟩ := h2.nd
    exact ⟨T, _, h1, h2, h3⟩
  clear hE hr hg hs
  go_enter Tryz.func11, Tryz.ntmps11
  go_wp2_with (go_at_call 43; refine K1.out.mono ?_; clear K1; rintro e w1 ⟨T, p, rfl, h1⟩)
  go_ret
  have hb := (Below.refl _ w1).alloc (Nat.le_refl _) (.cells #[.iface T p] 92)
  exact ⟨_, _, rfl, World.alloc_heap_new w1 _, h1.out.1.below hb, Below.on h1.out.2 hb⟩
end Go.Proofs.YtcjmfoadimpffaaGreatDoor
