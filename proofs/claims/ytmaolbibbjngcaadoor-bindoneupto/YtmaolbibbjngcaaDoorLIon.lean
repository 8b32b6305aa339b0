/-
  The walk of the law BindOne: each key makes one command, or waits; what each command is like. Conditions: those of walk_of.
-/
import Derived.Test.YtmaolbibbjngcaaDoorILay
import Derived.Test.YtmaolbibbjngcaaDoorIOne
namespace Go.Proofs.YtmaolbibbjngcaaDoor.bindOne
open Go.RowKit Go.Shelf Bod

set_option maxRecDepth 100000 in
set_option maxHeartbeats 4000000 in
theorem walk (hM : Tryd.prog.follows .mixedOrders = true) (a0 : Option Addr) (cap : Nat) (l : List Ky) (w : World) (hS : RdKy w (.slice a0 l.length cap) l) (hl : l.length ≤ 1048576) (hk : ∀ k ∈ l, k.Ok) (hT : Tb w) :
    Calls Tryd.prog 7 #[.slice a0 l.length cap] w fun e W' => e = .returned (.bool true) ∧ Below w.heap.size w W' := by
  have HR : Hid (∀ W, Below w.heap.size w W → RdKy W (.slice a0 l.length cap) l) := fun W hW => hS.below (Nat.le_refl _) hW
  have CB : Hid (Calls Tryd.prog 9 #[] w fun e w' => e = .returned (.bool true) ∧ Hid (Below w.heap.size w w')) := bds_any hM w hT
  have CK : Hid (∀ (W : World) (b : Nat) (s : Bs) (k : Ky), s.Ok → k ∈ l → Lc w b s (.slice none 0 0) [] W → Calls Tryd.prog 15 #[.pointer (some ⟨b, 0, none⟩), kyv k] W fun e w' => e = .returned (.tuple #[.agg (cmc (keyP s k).1), .bool (keyP s k).2.1]) ∧ Hid (Lc w b (keyP s k).2.2 (.slice none 0 0) [] w')) := fun W b s k hs hkm hW =>
    (key_any hM b s hs k (hk k hkm) W (hT.below hW.bel) (hT.ab hW.ge) hW.bn).mono fun e w' q => ⟨q.1, hW.to q.2.1 q.2.2⟩
  have CP : Hid (∀ (W : World) (b : Nat) (s : Bs), Lc w b s (.slice none 0 0) [] W → Calls Tryd.prog 18 #[.pointer (some ⟨b, 0, none⟩)] W fun e w' => e = .returned (.string s.px) ∧ w' = W) := fun W b s hW => pfx_any b s W hW.bn
  have CN : Hid (∀ (W : World) (b : Nat) (s : Bs), Lc w b s (.slice none 0 0) [] W → Calls Tryd.prog 26 #[.pointer (some ⟨b, 0, none⟩)] W fun e w' => e = .returned (.tuple #[.int .i64 s.count, .bool s.has]) ∧ w' = W) := fun W b s hW => cnt_any b s W hW.bn
  obtain ⟨N, hN⟩ : ∃ N, l.length = N := ⟨_, rfl⟩
  have HN : Hid (l.length = N) := hN
  rw [hN] at HR hl ⊢
  have hl' : (N : Int) ≤ 1048576 := by omega
  clear hS hN hM hT hk
  go_enter Tryd.func7, Tryd.ntmps7
  go_upto_region 5 with (first
    | (go_at_call 9; refine CB.out.mono ?_; clear CB; rintro e w1 ⟨rfl, HB⟩)
    | (go_at_call 10; refine (new_any _).mono ?_; rintro e w2 ⟨rfl, rfl⟩))
  have H0 : Hid (Lc w w1.heap.size bsz (.slice none 0 0) [] (w1.alloc (.cells (bsc bsz) 53))) := ⟨HB.out.alloc HB.out.size _, HB.out.size, World.alloc_heap_new _ _, World.ownsRow_nil _ _ _ _⟩
  generalize w1.alloc (.cells (bsc bsz) 53) = W1 at H0 ⊢
  clear HB
  go_loopw [17] (fun t17 wr => ∃ i : Nat, t17 = .int .i64 i ∧ i ≤ N ∧ ∃ s : Bs, Hid (s.Ok ∧ Lc w w1.heap.size s (.slice none 0 0) [] wr)) (fun t17 _ => N - (intOf t17).toNat)
  case atStart => exact ⟨0, rfl, Nat.zero_le _, bsz, bsz_ok, H0.out⟩
  case round =>
    clear H0
    obtain ⟨i, rfl, hi', s, HL⟩ := hrel
    by_cases hlt : i < N
    · have hlt' : (i : Int) < N := by omega
      obtain ⟨x, hx⟩ : ∃ x, l[i]? = some x := ⟨l[i]'(by rw [HN.out]; exact hlt), List.getElem?_eq_getElem _⟩
      obtain ⟨g, o, rfl, hg, q0, q1, q2, q3, q4, q5⟩ := (HR.out wr HL.out.2.bel).at hx
      have D : Hid (∀ (W : World), Lc w w1.heap.size s (.slice none 0 0) [] W → Calls Tryd.prog 15 #[.pointer (some ⟨w1.heap.size, 0, none⟩), kyv x] W fun e w' => e = .returned (.tuple #[.agg (cmc (keyP s x).1), .bool (keyP s x).2.1]) ∧ Hid (Lc w w1.heap.size (keyP s x).2.2 (.slice none 0 0) [] w')) := fun W hW => CK.out W _ s x HL.out.1 (List.mem_of_getElem? hx) hW
      have HA : Hid (∀ o, Lc w w1.heap.size s (.slice none 0 0) [] (wr.alloc o)) := fun o => HL.out.2.below ((Below.refl _ _).alloc (Nat.le_refl _) _)
      have P0 : Hid (∀ o, Calls Tryd.prog 18 #[.pointer (some ⟨w1.heap.size, 0, none⟩)] (wr.alloc o) fun e w' => e = .returned (.string s.px) ∧ w' = wr.alloc o) := fun o => CP.out _ _ _ (HA.out o)
      cases hw : waiP s x with
      | some t =>
        have hT := waiP_ok HL.out.1 hw
        obtain ⟨hp, hq⟩ := waiP_f hw
        obtain ⟨n0, n1⟩ := count_in hT
        have HTK : Hid t.Ok := hT
        unfold keyP at D
        rw [hw] at D
        simp only at D
        rw [hp] at P0
        clear hx CK HR hw hT hp HL
        obtain ⟨x0, x1, x2, x3, x4, x5⟩ := x
        simp only [kyv, cmc, cmz] at q0 q1 q2 q3 q4 q5 D
        go_upto_region 9 with (first
          | (go_at_call 18; refine (P0.out _).mono ?_; rintro e w3 ⟨rfl, rfl⟩)
          | (go_at_call 15; refine (D.out _ (HA.out _)).mono ?_; rintro e w4 ⟨rfl, H4⟩; clear q0 q1 q2 q3 q4 q5))
        have HB4 : Hid (∀ o, Lc w w1.heap.size t (.slice none 0 0) [] (w4.alloc o)) := fun o => H4.out.below ((Below.refl _ _).alloc (Nat.le_refl _) _)
        have N4 : Hid (∀ o, Calls Tryd.prog 26 #[.pointer (some ⟨w1.heap.size, 0, none⟩)] (w4.alloc o) fun e w' => e = .returned (.tuple #[.int .i64 t.count, .bool t.has]) ∧ w' = w4.alloc o) := fun o => CN.out _ _ _ (HB4.out o)
        have P4 : Hid (∀ o, Calls Tryd.prog 18 #[.pointer (some ⟨w1.heap.size, 0, none⟩)] (w4.alloc o) fun e w' => e = .returned (.string t.px) ∧ w' = w4.alloc o) := fun o => CP.out _ _ _ (HB4.out o)
        generalize t.count = n at n0 n1 N4
        generalize t.px = px at hq P4
        generalize t.has = has at hq N4
        rcases hq with ⟨rfl, rfl⟩ | hq
        · go_wp2_with (first
            | (go_at_call 26; refine (N4.out _).mono ?_; rintro e w5 ⟨rfl, rfl⟩)
            | (go_at_call 18; refine (P4.out _).mono ?_; rintro e w5 ⟨rfl, rfl⟩))
          exact ⟨⟨i + 1, by go_num, by omega, t, HTK.out, HB4.out _⟩, by simp [intOf]; omega⟩
        · have r1 := inot_emp hq
          have r2 := inot_nil hq
          go_wp2_with (first
            | (go_at_call 26; refine (N4.out _).mono ?_; rintro e w5 ⟨rfl, rfl⟩)
            | (go_at_call 18; refine (P4.out _).mono ?_; rintro e w5 ⟨rfl, rfl⟩))
          exact ⟨⟨i + 1, by go_num, by omega, t, HTK.out, HB4.out _⟩, by simp [intOf]; omega⟩
      | none =>
        obtain ⟨lo, hi, m0, m1, way⟩ := makP_f HL.out.1 x
        unfold keyP at D
        rw [hw] at D
        simp only at D
        generalize makP s x = c at D lo hi m0 m1 way
        clear hx CK HR hw HL
        obtain ⟨x0, x1, x2, x3, x4, x5⟩ := x
        obtain ⟨c0, c1, c2, c3⟩ := c
        simp only [kyv, cmc] at q0 q1 q2 q3 q4 q5 D lo hi m0 m1 way
        go_upto_region 9 with (first
          | (go_at_call 18; refine (P0.out _).mono ?_; rintro e w3 ⟨rfl, rfl⟩)
          | (go_at_call 15; refine (D.out _ (HA.out _)).mono ?_; rintro e w4 ⟨rfl, H4⟩; clear q0 q1 q2 q3 q4 q5))
        have HB4 : Hid (∀ o, Lc w w1.heap.size bsz (.slice none 0 0) [] (w4.alloc o)) := fun o => H4.out.below ((Below.refl _ _).alloc (Nat.le_refl _) _)
        have N4 : Hid (∀ o, Calls Tryd.prog 26 #[.pointer (some ⟨w1.heap.size, 0, none⟩)] (w4.alloc o) fun e w' => e = .returned (.tuple #[.int .i64 1, .bool false]) ∧ w' = w4.alloc o) := fun o => CN.out _ _ _ (HB4.out o)
        have P4 : Hid (∀ o, Calls Tryd.prog 18 #[.pointer (some ⟨w1.heap.size, 0, none⟩)] (w4.alloc o) fun e w' => e = .returned (.string ⟨#[]⟩) ∧ w' = w4.alloc o) := fun o => CP.out _ _ _ (HB4.out o)
        clear P0 D HA H4
        rcases way with ⟨rfl, hx, rfl⟩ | ⟨rfl, rfl⟩ | ⟨hm, rfl, hx⟩ | ⟨rfl, rfl, rfl, rfl⟩ | ⟨h1, h39, h29, h30, h37, rfl, rfl⟩
        · have r1 := inot_emp hx
          have r2 := inot_nil hx
          go_wp2_with (first
            | (go_at_call 26; refine (N4.out _).mono ?_; rintro e w5 ⟨rfl, rfl⟩)
            | (go_at_call 18; refine (P4.out _).mono ?_; rintro e w5 ⟨rfl, rfl⟩))
          exact ⟨⟨i + 1, by go_num, by omega, bsz, bsz_ok, HB4.out _⟩, by simp [intOf]; omega⟩
        · by_cases hx : c2 = ⟨#[]⟩
          · subst hx
            go_wp2_with (first
              | (go_at_call 26; refine (N4.out _).mono ?_; rintro e w5 ⟨rfl, rfl⟩)
              | (go_at_call 18; refine (P4.out _).mono ?_; rintro e w5 ⟨rfl, rfl⟩))
            exact ⟨⟨i + 1, by go_num, by omega, bsz, bsz_ok, HB4.out _⟩, by simp [intOf]; omega⟩
          · have r1 := inot_emp hx
            have r2 := inot_nil hx
            go_wp2_with (first
              | (go_at_call 26; refine (N4.out _).mono ?_; rintro e w5 ⟨rfl, rfl⟩)
              | (go_at_call 18; refine (P4.out _).mono ?_; rintro e w5 ⟨rfl, rfl⟩))
            exact ⟨⟨i + 1, by go_num, by omega, bsz, bsz_ok, HB4.out _⟩, by simp [intOf]; omega⟩
        · have hy : ¬ c3 = 0 := hx
          have hz : (c3 != 0) = true := by simp [hy]
          clear hx
          rcases hm with rfl | rfl
          all_goals
            go_wp2_with (first
              | (go_at_call 26; refine (N4.out _).mono ?_; rintro e w5 ⟨rfl, rfl⟩)
              | (go_at_call 18; refine (P4.out _).mono ?_; rintro e w5 ⟨rfl, rfl⟩))
            all_goals first
              | exact ⟨⟨i + 1, by go_num, by omega, bsz, bsz_ok, HB4.out _⟩, by simp [intOf]; omega⟩
              | (rename_i hq; exfalso; revert hq; simp [hy])
        · go_wp2_with (first
            | (go_at_call 26; refine (N4.out _).mono ?_; rintro e w5 ⟨rfl, rfl⟩)
            | (go_at_call 18; refine (P4.out _).mono ?_; rintro e w5 ⟨rfl, rfl⟩))
          exact ⟨⟨i + 1, by go_num, by omega, bsz, bsz_ok, HB4.out _⟩, by simp [intOf]; omega⟩
        · have g1 : ¬ c0 = 1 := h1
          have g2 : ¬ c0 = 39 := h39
          have g3 : ¬ c0 = 29 := h29
          have g4 : ¬ c0 = 30 := h30
          have g5 : ¬ c0 = 37 := h37
          clear h1 h39 h29 h30 h37
          go_wp2_with (first
            | (go_at_call 26; refine (N4.out _).mono ?_; rintro e w5 ⟨rfl, rfl⟩)
            | (go_at_call 18; refine (P4.out _).mono ?_; rintro e w5 ⟨rfl, rfl⟩))
          all_goals first
            | exact ⟨⟨i + 1, by go_num, by omega, bsz, bsz_ok, HB4.out _⟩, by simp [intOf]; omega⟩
            | (rename_i hq; exfalso; revert hq; simp [g3, g4])
    · have hge : ¬ ((i : Int) < N) := by omega
      go_wp2
      go_ret
      exact ⟨rfl, HL.out.2.bel⟩
theorem walk_of {H : Type} {d : DataW H} (a0 : Option Addr) (len cap : Nat) (w : World) (hT : Tb w) (l : List Ky) (hS : RdKy w (.slice a0 len cap) l) (hu : kyb l ≤ Rows.uptoBulk d ∧ ∀ k ∈ l, (-2147483648 ≤ k.ch ∧ k.ch ≤ 2147483647) ∧ (-9223372036854775808 ≤ k.kd ∧ k.kd ≤ 9223372036854775807)) (hk : Rows.uptoSmall H ([d] ++ []) = true) :
    Calls Tryd.prog 7 #[.slice a0 len cap] w fun e w' => e = .returned (.bool true) ∧ Below w.heap.size w w' := by
  have h : Rows.uptoBulkAll ([d] ++ []) ≤ 1048576 := of_decide_eq_true hk
  simp only [List.append_nil, Rows.uptoBulkAll] at h
  obtain ⟨a, cap', e, hc⟩ := id hS
  cases e
  exact walk (by kernel_rfl) a0 cap l w hS (by have := kyb_len l; have := hu.1; omega) (kys_ok (m := 1048576) (Nat.le_refl _) (by have := hu.1; omega) hu.2) hT
end Go.Proofs.YtmaolbibbjngcaaDoor.bindOne
