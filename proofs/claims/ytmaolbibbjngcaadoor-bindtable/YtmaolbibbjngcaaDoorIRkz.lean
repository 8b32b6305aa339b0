/-
  The document's own Key of layer 19: where nothing waits and the key makes a command. Conditions: the binder's block holds what waits.
-/
import Derived.Test.YtmaolbibbjngcaaDoorIRky
namespace Go.Proofs.YtmaolbibbjngcaaDoor
open Go.RowKit
section
set_option maxRecDepth 100000
set_option maxHeartbeats 2000000
theorem rky_sg (b : Nat) (s : Bs) (k : Ky) (hk : k.Ok) (w : World) (h : Rn b s w) (hp : s.px = ⟨#[]⟩) (hd : digR k s.has = false) (hq : preR k = ⟨#[]⟩) : Calls Tryd.prog 16 #[.pointer (some ⟨b, 0, none⟩), kyv k] w fun e w' => e = .returned (.tuple #[.agg (cmc (makP s k)), .bool true]) ∧ Rn b bsz w' ∧ w.grownBy w' (some b) := by
  have H0 : Hid (Rke w b s k ((w.alloc (.cells (kyc k) 30)).alloc (.cells (cmc cmz) 34))) := rke0 h k
  have CD : Hid (∀ W : World, Calls Tryd.prog 32 #[kyv k, .bool s.has] W fun e w' => e = .returned (.bool false) ∧ Below W.heap.size W w') := fun W => by
    have := rdig_any k s.has W
    rw [hd] at this; exact this
  have CP : Hid (∀ W : World, Calls Tryd.prog 33 #[kyv k] W fun e w' => e = .returned (.string ⟨#[]⟩) ∧ Below W.heap.size W w') := fun W => by
    have := rpfx_any k W
    rw [hq] at this; exact this
  have CS : Hid (∀ W : World, Calls Tryd.prog 34 #[kyv k] W fun e w' => e = .returned (.agg (cmc (sinR k))) ∧ Below W.heap.size W w') := fun W => rsgl_any k hk W
  have hC : sinR k = cm0 (cmdP (kinP s k) k) := by rw [sinR_eq]; unfold kinP; rw [if_pos hp]
  obtain ⟨⟨kd, n', tx', mr⟩, hR⟩ : ∃ x, sinR k = x := ⟨_, rfl⟩
  have hM : cmc (makP s k) = #[.int .i64 kd, .int .i64 (if kd = 37 then 1 else s.count), .string tx', .int .u8 mr] ∧ n' = 0 := by
    rw [hR] at hC
    unfold cm0 cmdP at hC
    simp only [Cm.mk.injEq] at hC
    obtain ⟨rfl, rfl, rfl, rfl⟩ := hC
    refine ⟨?_, rfl⟩
    unfold makP cmdP cmc
    simp only
    split <;> rfl
  obtain ⟨hM, rfl⟩ := hM
  rw [hM]
  rw [hR] at CS
  have CN : Hid (∀ W : World, Rn b s W → Calls Tryd.prog 27 #[.pointer (some ⟨b, 0, none⟩)] W fun e w' => e = .returned (.tuple #[.int .i64 s.count, .bool s.has]) ∧ Below W.heap.size W w') := fun W hW => rct_any b s W hW
  have CR : Hid (∀ (W : World) (t : Bs), Rn b t W → Calls Tryd.prog 37 #[.pointer (some ⟨b, 0, none⟩)] W fun e w' => e = .returned (.tuple #[]) ∧ Rn b bsz w' ∧ W.grownBy w' (some b)) := fun W t hW => rrs_any b t W hW
  obtain ⟨cnt, hcnt⟩ : ∃ cnt, s.count = cnt := ⟨_, rfl⟩
  rw [hcnt] at CN ⊢
  obtain ⟨n2, hn2⟩ : ∃ n2, (if kd = 37 then 1 else cnt) = n2 := ⟨_, rfl⟩
  have HN2 : Hid ((if kd = 37 then 1 else cnt) = n2) := hn2
  rw [hn2]
  clear hR hC hM hcnt hn2
  clear h hd hq hk
  obtain ⟨px, n, has⟩ := s
  simp only at hp CD ⊢
  subst hp
  obtain ⟨a, c, ct, m, sh, tx⟩ := k
  simp only [kyv] at CD CP CS ⊢
  simp only [kyc, cmc, cmz] at H0 CS
  obtain ⟨⟨d0, d1, d2⟩, -, -⟩ := box3 H0.out.bn
  simp only at d0 d1 d2
  go_enter Tryd.func16, Tryd.ntmps16
  go_upto_region 2 with (fail)
  have H0' : Hid (Rke w b ⟨⟨#[]⟩, n, has⟩ ⟨a, c, ct, m, sh, tx⟩ (((w.alloc (.cells #[.int .i64 a, .int .i32 c, .bool ct, .bool m, .bool sh, .string tx] 30)).alloc (.cells #[.int .i64 0, .int .i64 0, .string ⟨#[]⟩, .int .u8 0] 34)))) := H0
  generalize ((w.alloc (.cells #[.int .i64 a, .int .i32 c, .bool ct, .bool m, .bool sh, .string tx] 30)).alloc (.cells #[.int .i64 0, .int .i64 0, .string ⟨#[]⟩, .int .u8 0] 34)) = W0 at H0' d0 d1 d2 ⊢
  clear H0
  obtain ⟨k0, k1, k2, k3, k4, k5, -⟩ := box6 H0'.out.kx
  go_cut [17] from 12 to 16 (fun v17 wx => v17 = .bool false ∧ Hid (Rke w b ⟨⟨#[]⟩, n, has⟩ ⟨a, c, ct, m, sh, tx⟩ wx))
  case first =>
    go_region_with (go_at_call 32; refine (CD.out _).mono ?_; clear CD; rintro e w1 ⟨rfl, hb1⟩; have X1 : Hid (Rke w b ⟨⟨#[]⟩, n, has⟩ ⟨a, c, ct, m, sh, tx⟩ w1) := H0'.out.drew.below hb1; clear hb1)
    all_goals
      go_wp2_with fail
      go_meet
      exact ⟨rfl, X1⟩
  case rest =>
    clear H0' CD k0 k1 k2 k3 k4 k5 d0 d1 d2
    obtain ⟨rfl, X1⟩ := hcut
    obtain ⟨k0, k1, k2, k3, k4, k5, -⟩ := box6 X1.out.kx
    go_upto_region 9 with (go_at_call 33; refine (CP.out _).mono ?_; clear CP; rintro e w2 ⟨rfl, hb2⟩; have X2 : Hid (Rke w b _ _ w2) := X1.out.below hb2; clear hb2 X1 k0 k1 k2 k3 k4 k5; obtain ⟨⟨d0, d1, d2⟩, ⟨f0, f1, f2⟩, -⟩ := box3 X2.out.bn)
    have H1 : Hid (Rke w b ⟨⟨#[]⟩, n, has⟩ _ (w2.setCell ⟨b, 0, none⟩ (.string ⟨#[]⟩))) := X2.out.set 0 (.string ⟨#[]⟩) rfl
    generalize w2.setCell ⟨b, 0, none⟩ (.string ⟨#[]⟩) = V0 at H1 ⊢
    clear X2 d0 d1 d2 f0 f1 f2
    obtain ⟨⟨d0, d1, d2⟩, -, -⟩ := box3 H1.out.bn
    simp only at d0 d1 d2
    go_upto_region 11 with (fail)
    clear d0 d1 d2
    go_upto_region 12 with (fail)
    have K1 : Hid (Rkc w b _ _ V0.heap.size #[.int .i64 0, .int .i64 0, .string ⟨#[]⟩, .int .u8 0] (V0.alloc (.cells #[.int .i64 0, .int .i64 0, .string ⟨#[]⟩, .int .u8 0] 34))) := rkc0 H1.out _
    obtain ⟨q, hq⟩ : ∃ q, V0.heap.size = q := ⟨_, rfl⟩
    rw [hq] at K1 ⊢
    clear hq
    generalize V0.alloc (.cells #[.int .i64 0, .int .i64 0, .string ⟨#[]⟩, .int .u8 0] 34) = V1 at K1 ⊢
    clear H1
    obtain ⟨⟨d0, d1, d2⟩, -, -⟩ := box3 K1.out.ke.bn
    obtain ⟨k0, k1, k2, k3, k4, k5, -⟩ := box6 K1.out.ke.kx
    simp only at d0 d1 d2
    go_upto_region 18 with (go_at_call 34; refine (CS.out _).mono ?_; clear CS; rintro e w3 ⟨rfl, hb3⟩; have K2 : Hid (Rkc w b _ _ q #[.int .i64 0, .int .i64 0, .string ⟨#[]⟩, .int .u8 0] w3) := K1.out.below hb3; clear hb3 K1 d0 d1 d2 k0 k1 k2 k3 k4 k5; obtain ⟨⟨z0, z1, z2, z3⟩, ⟨f0, f1, f2, f3⟩⟩ := box4 K2.out.bx)
    have HC : Hid (Rkc w b _ _ q #[.int .i64 kd, .int .i64 0, .string tx', .int .u8 mr] ((((w3.setCell ⟨q, 0, none⟩ (.int .i64 kd)).setCell ⟨q, 1, none⟩ (.int .i64 0)).setCell ⟨q, 2, none⟩ (.string tx')).setCell ⟨q, 3, none⟩ (.int .u8 mr))) := (((K2.out.set 0 (.int .i64 kd)).set 1 (.int .i64 0)).set 2 (.string tx')).set 3 (.int .u8 mr)
    clear z0 z1 z2 z3 f0 f1 f2 f3
    generalize (((w3.setCell ⟨q, 0, none⟩ (.int .i64 kd)).setCell ⟨q, 1, none⟩ (.int .i64 0)).setCell ⟨q, 2, none⟩ (.string tx')).setCell ⟨q, 3, none⟩ (.int .u8 mr) = V2 at HC ⊢
    clear K2
    obtain ⟨⟨z0, z1, z2, z3⟩, ⟨f0, f1, f2, f3⟩⟩ := box4 HC.out.bx
    by_cases h37 : kd = 37
    · subst h37
      have HN3 : 1 = n2 := by have := HN2.out; rwa [if_pos rfl] at this
      subst HN3
      clear HN2
      go_wp2_with (first
        | (go_at_call 27; refine (CN.out _ HC.out.ke.bn).mono ?_; clear CN z0 z1 z2 z3 f0 f1 f2 f3; rintro e w4 ⟨rfl, hb4⟩; have HD : Hid (Rkc w b _ _ q _ w4) := HC.out.below hb4; clear hb4 HC; obtain ⟨⟨z0, z1, z2, z3⟩, ⟨f0, f1, f2, f3⟩⟩ := box4 HD.out.bx)
        | (go_at_call 37; refine (CR.out _ _ ((HD.out.set 1 (.int .i64 cnt)).set 1 (.int .i64 1)).ke.bn).mono ?_; clear CR z0 z1 z2 z3 f0 f1 f2 f3; rintro e w5 ⟨rfl, h5, g5⟩; have HE : Hid (Rkc w b bsz _ q #[.int .i64 37, .int .i64 1, .string tx', .int .u8 mr] w5) := ((HD.out.set 1 (.int .i64 cnt)).set 1 (.int .i64 1)).to h5 g5; clear h5 g5 HD; obtain ⟨⟨z0, z1, z2, z3⟩, -⟩ := box4 HE.out.bx; obtain ⟨⟨r0, r1, r2, r3⟩, ⟨s0, s1, s2, s3⟩⟩ := box4 HE.out.ke.rs)
        | (go_at_call 37; refine (CR.out _ _ (HD.out.set 1 (.int .i64 1)).ke.bn).mono ?_; clear CR z0 z1 z2 z3 f0 f1 f2 f3; rintro e w5 ⟨rfl, h5, g5⟩; have HE : Hid (Rkc w b bsz _ q #[.int .i64 37, .int .i64 1, .string tx', .int .u8 mr] w5) := (HD.out.set 1 (.int .i64 1)).to h5 g5; clear h5 g5 HD; obtain ⟨⟨z0, z1, z2, z3⟩, -⟩ := box4 HE.out.bx; obtain ⟨⟨r0, r1, r2, r3⟩, ⟨s0, s1, s2, s3⟩⟩ := box4 HE.out.ke.rs))
      obtain ⟨p, g, q0, q1, q2, q3⟩ := HE.out.ke.fin (.int .i64 37) (.int .i64 1) (.string tx') (.int .u8 mr)
      exact bodyPost_ret (v := .tuple #[.agg #[.int .i64 37, .int .i64 1, .string tx', .int .u8 mr], .bool true]) (by simp [results, Tryd.results16, go_sem, q0, q1, q2, q3]) rfl ⟨rfl, p, g⟩
    · have HN3 : cnt = n2 := by have := HN2.out; rwa [if_neg h37] at this
      subst HN3
      clear HN2
      have e37 : (kd == 37) = false := by simp [h37]
      clear h37
      go_wp2_with (first
        | (go_at_call 27; refine (CN.out _ HC.out.ke.bn).mono ?_; clear CN z0 z1 z2 z3 f0 f1 f2 f3; rintro e w4 ⟨rfl, hb4⟩; have HD : Hid (Rkc w b _ _ q _ w4) := HC.out.below hb4; clear hb4 HC; obtain ⟨⟨z0, z1, z2, z3⟩, ⟨f0, f1, f2, f3⟩⟩ := box4 HD.out.bx)
        | (go_at_call 37; refine (CR.out _ _ (HD.out.set 1 (.int .i64 cnt)).ke.bn).mono ?_; clear CR z0 z1 z2 z3 f0 f1 f2 f3; rintro e w5 ⟨rfl, h5, g5⟩; have HE : Hid (Rkc w b bsz _ q #[.int .i64 kd, .int .i64 cnt, .string tx', .int .u8 mr] w5) := (HD.out.set 1 (.int .i64 cnt)).to h5 g5; clear h5 g5 HD; obtain ⟨⟨z0, z1, z2, z3⟩, -⟩ := box4 HE.out.bx; obtain ⟨⟨r0, r1, r2, r3⟩, ⟨s0, s1, s2, s3⟩⟩ := box4 HE.out.ke.rs)
        | (go_at_call 37; refine (CR.out _ _ (HD.out.set 1 (.int .i64 cnt)).ke.bn).mono ?_; clear CR z0 z1 z2 z3 f0 f1 f2 f3; rintro e w5 ⟨rfl, h5, g5⟩; have HE : Hid (Rkc w b bsz _ q #[.int .i64 kd, .int .i64 cnt, .string tx', .int .u8 mr] w5) := (HD.out.set 1 (.int .i64 cnt)).to h5 g5; clear h5 g5 HD; obtain ⟨⟨z0, z1, z2, z3⟩, -⟩ := box4 HE.out.bx; obtain ⟨⟨r0, r1, r2, r3⟩, ⟨s0, s1, s2, s3⟩⟩ := box4 HE.out.ke.rs))
      obtain ⟨p, g, q0, q1, q2, q3⟩ := HE.out.ke.fin (.int .i64 kd) (.int .i64 cnt) (.string tx') (.int .u8 mr)
      exact bodyPost_ret (v := .tuple #[.agg #[.int .i64 kd, .int .i64 cnt, .string tx', .int .u8 mr], .bool true]) (by simp [results, Tryd.results16, go_sem, q0, q1, q2, q3]) rfl ⟨rfl, p, g⟩
end
end Go.Proofs.YtmaolbibbjngcaaDoor
