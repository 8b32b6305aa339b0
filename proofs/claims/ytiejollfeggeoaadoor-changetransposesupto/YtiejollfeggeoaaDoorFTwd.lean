/-
  Package change's transposeWords. Conditions: those of each theorem.
-/
import Derived.Test.YtiejollfeggeoaaDoorFWab
import Derived.Test.YtiejollfeggeoaaDoorFMak
namespace Go.Proofs.YtiejollfeggeoaaDoor
open Go.RowKit Go.Shelf Go.Sort Bod Wid

theorem wsh_ris {d : Nat} {l : List (Nat × Nat)} (h : Ris l) : Ris (wsh d l) := by
  unfold Ris wsh at *
  rw [List.pairwise_map]
  exact h.imp fun {x y} e => by simp only; omega
theorem wsh_mem {d : Nat} {l : List (Nat × Nat)} (h : ∀ w ∈ l, w.1 < w.2) : ∀ w ∈ wsh d l, w.1 < w.2 := fun w hw => by
  obtain ⟨x, hx, rfl⟩ := List.mem_map.1 hw
  have := h x hx
  simp only; omega
/-- where the search of the second word ends -/
theorem sel_end {l : List (Nat × Nat)} {a i : Nat} (hl : Ris l) (hw : ∀ w ∈ l, w.1 < w.2) (h2 : 2 ≤ l.length) (h1 : 1 ≤ i) (hi : i < l.length) (hp : ∀ (j : Nat) (x : Nat × Nat), 1 ≤ j → j < i → l[j]? = some x → x.1 < a) (he : i = l.length - 1 ∨ ∀ x, l[i]? = some x → ¬ x.1 < a) : i = selI l a := by
  have hb := ris_below hl hw a
  have hbl := below_le l a
  have q1 : i = 1 ∨ i - 1 < belowN l a := by
    by_cases e : i = 1
    · exact .inl e
    · refine .inr ?_
      obtain ⟨x, hx⟩ : ∃ x, l[i - 1]? = some x := ⟨_, List.getElem?_eq_getElem (by omega)⟩
      exact (hb (i - 1) x hx).1 (hp (i - 1) x (by omega) (by omega) hx)
  have q2 : i = l.length - 1 ∨ ¬ i < belowN l a := he.imp id fun e => by
    obtain ⟨x, hx⟩ : ∃ x, l[i]? = some x := ⟨_, List.getElem?_eq_getElem hi⟩
    exact fun q => e x hx ((hb i x hx).2 q)
  unfold selI
  omega
/-- what lies where in transposeWords -/
structure Fw (w : World) (s : ByteArray) (a : Nat) (r : Int) (n : Nat) (v : Value) (M : List (Nat × Nat)) (W : World) : Prop where
  f : Fb w s a r n W
  l : Rd2 W v M
theorem Fw.below {w W X : World} {s : ByteArray} {a n : Nat} {r : Int} {v : Value} {M : List (Nat × Nat)} (h : Fw w s a r n v M W) (hb : Below W.heap.size W X) : Fw w s a r n v M X := ⟨h.f.below hb, h.l.below hb⟩
theorem Fw.cell {w W : World} {s : ByteArray} {a n g N cap : Nat} {r : Int} {M : List (Nat × Nat)} (h : Fw w s a r n (.slice (some ⟨g, 0, none⟩) N cap) M W) {k : Nat} {x : Nat × Nat} (hx : M[k]? = some x) : W.cell? ⟨g, k * 2, none⟩ = some (.int .i64 x.1) ∧ W.cell? ⟨g, k * 2 + 1, none⟩ = some (.int .i64 x.2) := by
  obtain ⟨o, c, e, hc⟩ := h.l
  obtain ⟨g', e', -, hk⟩ := hc (fun e => by rw [e] at hx; simp at hx)
  cases e
  cases e'
  exact hk k x hx
set_option maxRecDepth 100000 in
set_option maxHeartbeats 4000000 in
theorem transposeWords_any (hM : Tryd.prog.follows .mixedOrders = true) (s : ByteArray) (hs : s.size ≤ 1099511627776) (a : Nat) (ha : cbZ s a = true) (r : Int) (n : Nat) (w : World) (hT : Tw w) :
    Calls Tryd.prog 53 #[scv s a r n] w fun e W' => e = .returned (rsv (wordsP s a)) ∧ Below w.heap.size w W' := by
  have hal := cb_le ha
  have HF : Hid (Fb w s a r n ((w.alloc (.cells #[.string s, .int .i64 a, .int .i64 r, .int .i64 n] 57)).alloc (.cells #[.int .i64 0, .int .i64 0, .string ⟨#[]⟩, .int .i64 0, .string ⟨#[]⟩, .bool false] 33))) := fb0 w s a r n
  obtain ⟨g1, g2, g3, g4, g5, g6, g7⟩ := sel_piece ha
  have C1 := fun W (hW : Fb w s a r n W) => wordsAbout_any s hs a ha W (hT.below hW.bel)
  have C5 := fun W (hW : Fb w s a r n W) => (fun (v x : Nat × Nat) h1 h2 h3 h4 => (swap_any hM W s a r n v x hs h1 h2 h3 h4).mono fun e W' q => (⟨q.1, q.2⟩ : e = .returned (.agg (chc (swapP s v x))) ∧ Below W.heap.size W W'))
  obtain ⟨f, hf⟩ : ∃ f, behindW (words s) (behindW (words s) a) = f := ⟨_, rfl⟩
  obtain ⟨t, ht⟩ : ∃ t, aheadW (words s) s.size (aheadW (words s) s.size a) = t := ⟨_, rfl⟩
  rw [hf, ht] at g6 g7 C1
  have hris : Ris (wsh f (words (s.extract f t))) := wsh_ris (words_ris _)
  have hmem : ∀ w ∈ wsh f (words (s.extract f t)), w.1 < w.2 := wsh_mem fun w hw => (words_mem hw).1
  have hwl := wsh_len f (words (s.extract f t))
  obtain ⟨M, hMe⟩ : ∃ M, wsh f (words (s.extract f t)) = M := ⟨_, rfl⟩
  rw [hMe] at g7 hris hmem hwl
  rw [← hwl] at g6 g7
  have hln : M.length ≤ 1099511627776 := by
    rw [hwl]
    have := words_len (s.extract f t)
    have hz : (s.extract f t).size ≤ s.size := by simp; omega
    omega
  obtain ⟨N, hN⟩ : ∃ N, M.length = N := ⟨_, rfl⟩
  have D1 : Hid (∀ W, Fb w s a r n W → Calls Tryd.prog 78 #[.string s, .int .i64 a] W fun e W' => ∃ o cap, e = .returned (.slice o N cap) ∧ Hid (Fw w s a r n (.slice o N cap) M W')) := fun W hW => (C1 W hW).mono fun e W' ⟨v, k1, k2, k3⟩ => by
    rw [hMe, ← hwl] at k2
    have hr := Rd2.of_row k2
    obtain ⟨o, cap, rfl, hc⟩ := hr
    exact ⟨o, cap, by rw [k1, hN], hW.below k3, ⟨o, cap, by rw [hN], hc⟩⟩
  have hN' : (N : Int) ≤ 1099511627776 := by omega
  have HN : Hid (M.length = N) := hN
  unfold wordsP scv
  rw [hN] at g6 g7
  by_cases h2 : N < 2
  · rw [if_pos (g6.1 h2)]
    have h2' : (N : Int) < 2 := by omega
    clear C1 C5 g6 g7 hris hmem hN hMe hwl hln
    go_enter Tryd.func53, Tryd.ntmps53
    go_wp2_with (go_at_call 78; refine (D1.out _ HF.out).mono ?_; clear D1 HF; rintro e' w1 ⟨o, cap, rfl, HW⟩; obtain ⟨-, ⟨f0, f1, f2, f3, f4, f5⟩, ⟨z0, z1, z2, z3, z4, z5⟩⟩ := HW.out.f.get)
    obtain ⟨k1, k2, k3, k4, k5, k6, k7⟩ := HW.out.f.fin (.int .i64 0) (.int .i64 0) (.string ⟨#[]⟩) (.int .i64 0) (.string ⟨#[]⟩) (.bool false)
    exact bodyPost_ret (v := rsv (chz, 8)) (by simp [results, Tryd.results53, go_sem, rsv, chc, chz, k2, k3, k4, k5, k6, k7]) rfl ⟨rfl, k1⟩
  · have hw2 : ¬ (words s).length < 2 := fun e => h2 (g6.2 e)
    rw [if_neg hw2]
    have h2' : ¬ ((N : Int) < 2) := by omega
    obtain ⟨j1, j2, j3⟩ := g7 (by omega)
    obtain ⟨S, hS⟩ : ∃ S, selI M a = S := ⟨_, rfl⟩
    rw [hS] at j1 j2 j3
    have hS1 : 1 ≤ S := by rw [← hS]; unfold selI; omega
    obtain ⟨v, hv⟩ : ∃ v, M[S - 1]? = some v := ⟨_, List.getElem?_eq_getElem (by omega)⟩
    obtain ⟨x, hx⟩ : ∃ x, M[S]? = some x := ⟨_, List.getElem?_eq_getElem (by omega)⟩
    rw [hx] at j2
    rw [hv] at j3
    have e1 : (words s).getD (selI (words s) a) (0, 0) = x := by rw [List.getD_eq_getElem?_getD, ← j2]; rfl
    have e2 : (words s).getD (selI (words s) a - 1) (0, 0) = v := by rw [List.getD_eq_getElem?_getD, ← j3]; rfl
    rw [e1, e2]
    have b1 := words_mem (List.mem_of_getElem? j2.symm)
    have b2 := words_mem (List.mem_of_getElem? j3.symm)
    have b3 : v.2 < x.1 := words_lt j3.symm j2.symm (by unfold selI; omega)
    obtain ⟨v1, v2⟩ := v
    obtain ⟨x1, x2⟩ := x
    simp only at b1 b2 b3
    obtain ⟨y, hy⟩ : ∃ y, swp s (v1, v2) (x1, x2) = y := ⟨_, rfl⟩
    have CW : Hid (∀ W, Fb w s a r n W → Calls Tryd.prog 77 #[.agg #[.string s, .int .i64 a, .int .i64 r, .int .i64 n], .agg #[.int .i64 v1, .int .i64 v2], .agg #[.int .i64 x1, .int .i64 x2]] W fun e W' => e = .returned (.agg #[.int .i64 v1, .int .i64 (x2 - v1 : Nat), .string y, .int .i64 x2, .string ⟨#[]⟩, .bool false]) ∧ Below W.heap.size W W') := fun W hW => by
      rw [← hy]
      exact C5 W hW (v1, v2) (x1, x2) (by simp only; omega) (by simp only; omega) (by simp only; omega) (by simp only; omega)
    have hsw : swapP s (v1, v2) (x1, x2) = ⟨v1, x2 - v1, y, x2, ⟨#[]⟩, false⟩ := by rw [← hy]; rfl
    rw [hsw]
    have HE : Hid (∀ i, 1 ≤ i → i < N → (∀ (j : Nat) (x : Nat × Nat), 1 ≤ j → j < i → M[j]? = some x → x.1 < a) → (i = N - 1 ∨ ∀ x, M[i]? = some x → ¬ x.1 < a) → i = S) := fun i k1 k2 k3 k4 => by
      rw [← hS]
      rw [← hN] at k2 k4 h2
      exact sel_end hris hmem (by omega) k1 k2 k3 k4
    have HV : Hid (M[S - 1]? = some (v1, v2) ∧ M[S]? = some (x1, x2)) := ⟨hv, hx⟩
    have HMx : Hid (Tryd.prog.follows .mixedOrders = true) := hM
    have HMN : Hid (∀ i, i < N → ∃ x, M[i]? = some x) := fun i hi => ⟨_, List.getElem?_eq_getElem (by rw [hN]; exact hi)⟩
    clear C1 C5 g6 g7 hris hmem hN hMe hwl hln hw2 j2 j3 hS e1 e2 hy hsw hv hx hM
    go_enter Tryd.func53, Tryd.ntmps53
    go_upto_region 5 with (go_at_call 78; refine (D1.out _ HF.out).mono ?_; clear D1 HF; rintro e' w1 ⟨o, cap, rfl, HW⟩)
    obtain ⟨g, rfl⟩ : ∃ g, o = some ⟨g, 0, none⟩ := by
      obtain ⟨o', c', e, hc⟩ := HW.out.l
      obtain ⟨g, e', -⟩ := hc (fun e0 => by have := HN.out; rw [e0] at this; simp at this; omega)
      cases e
      exact ⟨g, e'⟩
    go_loopw [5] (fun t5 wr => ∃ i : Nat, t5 = .int .i64 i ∧ 1 ≤ i ∧ i < N ∧ Hid (∀ (j : Nat) (x : Nat × Nat), 1 ≤ j → j < i → M[j]? = some x → x.1 < a) ∧ Hid (Fw w s a r n (.slice (some ⟨g, 0, none⟩) N cap) M wr)) (fun t5 _ => N - (intOf t5).toNat)
    case atStart => exact ⟨1, rfl, Nat.le_refl _, by omega, (fun j x k1 k2 => by omega), HW⟩
    case round =>
      clear HW
      obtain ⟨i, rfl, hi1, hi2, HJ, HW⟩ := hrel
      obtain ⟨⟨c0, c1, c2, c3⟩, -⟩ := HW.out.f.get
      have hw1 : IntKind.i64.wrap ((N : Int) - 1) = (N : Int) - 1 := by rw [IntKind.wrap_i64]; omega
      obtain ⟨⟨u1, u2⟩, hu⟩ := HMN.out i hi2
      obtain ⟨d0, d1⟩ := HW.out.cell hu
      simp only at d0 d1
      have HU : Hid (M[i]? = some (u1, u2)) := hu
      clear hu
      have hii : (0 : Int) ≤ i ∧ (i : Int) < N := by omega
      by_cases q1 : i < N - 1
      · have q1' : (i : Int) < (N : Int) - 1 := by omega
        have q1d : decide ((i : Int) < (N : Int) - 1) = true := decide_eq_true q1'
        by_cases q2 : u1 < a
        · have q2' : (u1 : Int) < a := by omega
          go_wp2
          go_quiet (fail)
          have HX : Hid (Fw w s a r n (.slice (some ⟨g, 0, none⟩) N cap) M (wr.drewN nq)) := HW.out.below ⟨rfl, rfl, rfl, Nat.le_refl _, fun _ _ => rfl⟩
          clear HW
          go_wp2
          exact ⟨⟨i + 1, by go_num, by omega, by omega, (fun j x k1 k2 k3 => by
            by_cases e : j = i
            · subst e; rw [HU.out] at k3; cases k3; exact q2
            · exact HJ.out j x k1 (by omega) k3), HX⟩, by simp [intOf]; omega⟩
        · have q2' : ¬ ((u1 : Int) < a) := by omega
          have HI : Hid (i = S) := HE.out i hi1 hi2 HJ.out (.inr fun x hx => by rw [HU.out] at hx; cases hx; exact q2)
          go_wp2
          go_quiet (fail)
          have HX : Hid (Fw w s a r n (.slice (some ⟨g, 0, none⟩) N cap) M (wr.drewN nq)) := HW.out.below ⟨rfl, rfl, rfl, Nat.le_refl _, fun _ _ => rfl⟩
          obtain rfl := HI.out
          clear HW HI HJ HU HE d0 d1
          obtain ⟨m, hm⟩ : ∃ m, i - 1 = m := ⟨_, rfl⟩
          have hv := HV.out.1
          rw [hm] at hv
          generalize wr.drewN nq = W0 at HX ⊢
          obtain ⟨⟨c0, c1, c2, c3⟩, -⟩ := HX.out.f.get
          obtain ⟨a0, a1⟩ := HX.out.cell hv
          obtain ⟨a2, a3⟩ := HX.out.cell HV.out.2
          simp only at a0 a1 a2 a3
          have t0 := cell_rgw c0
          have t1 := cell_rgw c1
          have t2 := cell_rgw c2
          have t3 := cell_rgw c3
          have t4 := cell_rgw a0
          have t5 := cell_rgw a1
          have t6 := cell_rgw a2
          have t7 := cell_rgw a3
          have s1 : IntKind.i64.wrap ((i : Int) - 1) = (i : Int) - 1 := by rw [IntKind.wrap_i64]; omega
          have s2 : ((i : Int) - 1).toNat = m := by omega
          have s3 : (0 : Int) ≤ (i : Int) - 1 := by omega
          have s4 : (i : Int) - 1 < N := by omega
          have cP := call_rgw (W := W0) (f := 77) (args := #[.agg #[.string s, .int .i64 a, .int .i64 r, .int .i64 n], .agg #[.int .i64 v1, .int .i64 v2], .agg #[.int .i64 x1, .int .i64 x2]]) (v := .agg #[.int .i64 v1, .int .i64 (x2 - v1 : Nat), .string y, .int .i64 x2, .string ⟨#[]⟩, .bool false]) (fun W hW => CW.out W (HX.out.f.below hW))
          clear c0 c1 c2 c3 a0 a1 a2 a3 CW hv HV
          go_wp2
          refine region_then2 HMx.out (by kernel_rfl) (by kernel_rfl) (by kernel_rfl) (by kernel_rfl) rfl rfl rfl rfl ?_
          dsimp only [List.dropLast, List.getLast]
          repeat (go_big_quiet_step (exact cP _ _))
          refine wpQuiet_nil ?_
          intro _ hw'
          obtain ⟨⟨dq, osq⟩, hw''⟩ := hw'
          subst hw''
          have HD : Hid (Fb w s a r n (grow (redrawn W0 dq) osq)) := HX.out.f.below (below_regrown W0 dq osq)
          simp only at HD ⊢
          generalize grow (redrawn W0 dq) osq = W1 at HD ⊢
          clear t0 t1 t2 t3 t4 t5 t6 t7 cP HX
          obtain ⟨-, ⟨f0, f1, f2, f3, f4, f5⟩, ⟨z0, z1, z2, z3, z4, z5⟩⟩ := HD.out.get
          refine .inr ⟨(((((W1.setCell ⟨w.heap.size + 1, 0, none⟩ (.int .i64 v1)).setCell ⟨w.heap.size + 1, 1, none⟩ (.int .i64 (x2 - v1 : Nat))).setCell ⟨w.heap.size + 1, 2, none⟩ (.string y)).setCell ⟨w.heap.size + 1, 3, none⟩ (.int .i64 x2)).setCell ⟨w.heap.size + 1, 4, none⟩ (.string ⟨#[]⟩)).setCell ⟨w.heap.size + 1, 5, none⟩ (.bool false), (by go_simp), ?_⟩
          obtain ⟨k1, k2, k3, k4, k5, k6, k7⟩ := HD.out.fin (.int .i64 v1) (.int .i64 (x2 - v1 : Nat)) (.string y) (.int .i64 x2) (.string ⟨#[]⟩) (.bool false)
          have HK : Hid (Below w.heap.size w ((((((W1.setCell ⟨w.heap.size + 1, 0, none⟩ (.int .i64 v1)).setCell ⟨w.heap.size + 1, 1, none⟩ (.int .i64 (x2 - v1 : Nat))).setCell ⟨w.heap.size + 1, 2, none⟩ (.string y)).setCell ⟨w.heap.size + 1, 3, none⟩ (.int .i64 x2)).setCell ⟨w.heap.size + 1, 4, none⟩ (.string ⟨#[]⟩)).setCell ⟨w.heap.size + 1, 5, none⟩ (.bool false))) := k1
          generalize (((((W1.setCell ⟨w.heap.size + 1, 0, none⟩ (.int .i64 v1)).setCell ⟨w.heap.size + 1, 1, none⟩ (.int .i64 (x2 - v1 : Nat))).setCell ⟨w.heap.size + 1, 2, none⟩ (.string y)).setCell ⟨w.heap.size + 1, 3, none⟩ (.int .i64 x2)).setCell ⟨w.heap.size + 1, 4, none⟩ (.string ⟨#[]⟩)).setCell ⟨w.heap.size + 1, 5, none⟩ (.bool false) = W2 at HK k2 k3 k4 k5 k6 k7 ⊢
          clear k1 z0 z1 z2 z3 z4 z5 f0 f1 f2 f3 f4 f5 HD
          refine .inl ⟨.int .i64 0, W2, (by dsimp only [Act.put]; go_simp), ?_⟩
          dsimp only [Act.put]
          go_wp2
          exact bodyPost_ret (v := rsv (⟨v1, x2 - v1, y, x2, ⟨#[]⟩, false⟩, 0)) (by simp [results, Tryd.results53, go_sem, rsv, chc, k2, k3, k4, k5, k6, k7]) rfl ⟨rfl, HK.out⟩
      · have q1' : ¬ ((i : Int) < (N : Int) - 1) := by omega
        have q1d : decide ((i : Int) < (N : Int) - 1) = false := decide_eq_false q1'
        have HI : Hid (i = S) := HE.out i hi1 hi2 HJ.out (.inl (by omega))
        clear d0 d1
        go_wp2
        go_quiet (fail)
        have HX : Hid (Fw w s a r n (.slice (some ⟨g, 0, none⟩) N cap) M (wr.drewN nq)) := HW.out.below ⟨rfl, rfl, rfl, Nat.le_refl _, fun _ _ => rfl⟩
        obtain rfl := HI.out
        clear HW HI HJ HU HE 
        obtain ⟨m, hm⟩ : ∃ m, i - 1 = m := ⟨_, rfl⟩
        have hv := HV.out.1
        rw [hm] at hv
        generalize wr.drewN nq = W0 at HX ⊢
        obtain ⟨⟨c0, c1, c2, c3⟩, -⟩ := HX.out.f.get
        obtain ⟨a0, a1⟩ := HX.out.cell hv
        obtain ⟨a2, a3⟩ := HX.out.cell HV.out.2
        simp only at a0 a1 a2 a3
        have t0 := cell_rgw c0
        have t1 := cell_rgw c1
        have t2 := cell_rgw c2
        have t3 := cell_rgw c3
        have t4 := cell_rgw a0
        have t5 := cell_rgw a1
        have t6 := cell_rgw a2
        have t7 := cell_rgw a3
        have s1 : IntKind.i64.wrap ((i : Int) - 1) = (i : Int) - 1 := by rw [IntKind.wrap_i64]; omega
        have s2 : ((i : Int) - 1).toNat = m := by omega
        have s3 : (0 : Int) ≤ (i : Int) - 1 := by omega
        have s4 : (i : Int) - 1 < N := by omega
        have cP := call_rgw (W := W0) (f := 77) (args := #[.agg #[.string s, .int .i64 a, .int .i64 r, .int .i64 n], .agg #[.int .i64 v1, .int .i64 v2], .agg #[.int .i64 x1, .int .i64 x2]]) (v := .agg #[.int .i64 v1, .int .i64 (x2 - v1 : Nat), .string y, .int .i64 x2, .string ⟨#[]⟩, .bool false]) (fun W hW => CW.out W (HX.out.f.below hW))
        clear c0 c1 c2 c3 a0 a1 a2 a3 CW hv HV
        go_wp2
        refine region_then2 HMx.out (by kernel_rfl) (by kernel_rfl) (by kernel_rfl) (by kernel_rfl) rfl rfl rfl rfl ?_
        dsimp only [List.dropLast, List.getLast]
        repeat (go_big_quiet_step (exact cP _ _))
        refine wpQuiet_nil ?_
        intro _ hw'
        obtain ⟨⟨dq, osq⟩, hw''⟩ := hw'
        subst hw''
        have HD : Hid (Fb w s a r n (grow (redrawn W0 dq) osq)) := HX.out.f.below (below_regrown W0 dq osq)
        simp only at HD ⊢
        generalize grow (redrawn W0 dq) osq = W1 at HD ⊢
        clear t0 t1 t2 t3 t4 t5 t6 t7 cP HX
        obtain ⟨-, ⟨f0, f1, f2, f3, f4, f5⟩, ⟨z0, z1, z2, z3, z4, z5⟩⟩ := HD.out.get
        refine .inr ⟨(((((W1.setCell ⟨w.heap.size + 1, 0, none⟩ (.int .i64 v1)).setCell ⟨w.heap.size + 1, 1, none⟩ (.int .i64 (x2 - v1 : Nat))).setCell ⟨w.heap.size + 1, 2, none⟩ (.string y)).setCell ⟨w.heap.size + 1, 3, none⟩ (.int .i64 x2)).setCell ⟨w.heap.size + 1, 4, none⟩ (.string ⟨#[]⟩)).setCell ⟨w.heap.size + 1, 5, none⟩ (.bool false), (by go_simp), ?_⟩
        obtain ⟨k1, k2, k3, k4, k5, k6, k7⟩ := HD.out.fin (.int .i64 v1) (.int .i64 (x2 - v1 : Nat)) (.string y) (.int .i64 x2) (.string ⟨#[]⟩) (.bool false)
        have HK : Hid (Below w.heap.size w ((((((W1.setCell ⟨w.heap.size + 1, 0, none⟩ (.int .i64 v1)).setCell ⟨w.heap.size + 1, 1, none⟩ (.int .i64 (x2 - v1 : Nat))).setCell ⟨w.heap.size + 1, 2, none⟩ (.string y)).setCell ⟨w.heap.size + 1, 3, none⟩ (.int .i64 x2)).setCell ⟨w.heap.size + 1, 4, none⟩ (.string ⟨#[]⟩)).setCell ⟨w.heap.size + 1, 5, none⟩ (.bool false))) := k1
        generalize (((((W1.setCell ⟨w.heap.size + 1, 0, none⟩ (.int .i64 v1)).setCell ⟨w.heap.size + 1, 1, none⟩ (.int .i64 (x2 - v1 : Nat))).setCell ⟨w.heap.size + 1, 2, none⟩ (.string y)).setCell ⟨w.heap.size + 1, 3, none⟩ (.int .i64 x2)).setCell ⟨w.heap.size + 1, 4, none⟩ (.string ⟨#[]⟩)).setCell ⟨w.heap.size + 1, 5, none⟩ (.bool false) = W2 at HK k2 k3 k4 k5 k6 k7 ⊢
        clear k1 z0 z1 z2 z3 z4 z5 f0 f1 f2 f3 f4 f5 HD
        refine .inl ⟨.int .i64 0, W2, (by dsimp only [Act.put]; go_simp), ?_⟩
        dsimp only [Act.put]
        go_wp2
        exact bodyPost_ret (v := rsv (⟨v1, x2 - v1, y, x2, ⟨#[]⟩, false⟩, 0)) (by simp [results, Tryd.results53, go_sem, rsv, chc, k2, k3, k4, k5, k6, k7]) rfl ⟨rfl, HK.out⟩
end Go.Proofs.YtiejollfeggeoaaDoor
