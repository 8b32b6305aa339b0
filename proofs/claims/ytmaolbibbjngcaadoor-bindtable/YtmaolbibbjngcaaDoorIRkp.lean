/-
  The document's own Key of layer 19: a prefix. Conditions: the binder's block holds what waits.
-/
import Derived.Test.YtmaolbibbjngcaaDoorIRky
namespace Go.Proofs.YtmaolbibbjngcaaDoor
open Go.RowKit
section
set_option maxRecDepth 100000
set_option maxHeartbeats 2000000
theorem rky_pf (b : Nat) (s : Bs) (k : Ky) (w : World) (h : Rn b s w) (hp : s.px = ⟨#[]⟩) (hd : digR k s.has = false) (hq : ¬ preR k = ⟨#[]⟩) : Calls Tryd.prog 16 #[.pointer (some ⟨b, 0, none⟩), kyv k] w fun e w' => e = .returned (.tuple #[.agg (cmc cmz), .bool false]) ∧ Rn b ⟨preR k, s.n, s.has⟩ w' ∧ w.grownBy w' (some b) := by
  have H0 : Hid (Rke w b s k ((w.alloc (.cells (kyc k) 30)).alloc (.cells (cmc cmz) 34))) := rke0 h k
  have CD : Hid (∀ W : World, Calls Tryd.prog 32 #[kyv k, .bool s.has] W fun e w' => e = .returned (.bool false) ∧ Below W.heap.size W w') := fun W => by
    have := rdig_any k s.has W
    rw [hd] at this; exact this
  have CP : Hid (∀ W : World, Calls Tryd.prog 33 #[kyv k] W fun e w' => e = .returned (.string (preR k)) ∧ Below W.heap.size W w') := fun W => rpfx_any k W
  obtain ⟨P, hP⟩ : ∃ P, preR k = P := ⟨_, rfl⟩
  rw [hP] at CP hq ⊢
  have e1 := inot_emp hq
  have e2 := inot_nil hq
  clear h hd hP hq
  obtain ⟨px, n, has⟩ := s
  simp only at hp CD ⊢
  subst hp
  obtain ⟨a, c, ct, m, sh, tx⟩ := k
  simp only [kyv] at CD CP ⊢
  simp only [kyc, cmc, cmz] at H0 ⊢
  obtain ⟨⟨d0, d1, d2⟩, -, -⟩ := box3 H0.out.bn
  simp only at d0 d1 d2
  go_enter Tryd.func16, Tryd.ntmps16
  go_upto_region 2 with (fail)
  have H0' : Hid (Rke w b ⟨⟨#[]⟩, n, has⟩ ⟨a, c, ct, m, sh, tx⟩ (((w.alloc (.cells #[.int .i64 a, .int .i32 c, .bool ct, .bool m, .bool sh, .string tx] 30)).alloc (.cells #[.int .i64 0, .int .i64 0, .string ⟨#[]⟩, .int .u8 0] 34)))) := H0
  generalize ((w.alloc (.cells #[.int .i64 a, .int .i32 c, .bool ct, .bool m, .bool sh, .string tx] 30)).alloc (.cells #[.int .i64 0, .int .i64 0, .string ⟨#[]⟩, .int .u8 0] 34)) = W0 at H0' d0 d1 d2 ⊢
  clear H0
  obtain ⟨k0, k1, k2, k3, k4, k5, -⟩ := box6 H0'.out.kx
  go_cut [17] from 12 to 16 (fun v17 wx => v17 = .bool false ∧ Hid (Rke w b ⟨⟨#[]⟩, n, has⟩ ⟨a, c, ct, m, sh, tx⟩ wx))
  case first =>
    go_region_with (go_at_call 32; refine (CD.out _).mono ?_; clear CD; rintro e w1 ⟨rfl, hb1⟩; have X1 : Hid (Rke w b ⟨⟨#[]⟩, n, has⟩ ⟨a, c, ct, m, sh, tx⟩ w1) := H0'.out.drew.below hb1; clear hb1)
    all_goals
      go_wp2_with fail
      go_meet
      exact ⟨rfl, X1⟩
  case rest =>
    clear H0' CD k0 k1 k2 k3 k4 k5 d0 d1 d2
    obtain ⟨rfl, X1⟩ := hcut
    obtain ⟨k0, k1, k2, k3, k4, k5, -⟩ := box6 X1.out.kx
    go_upto_region 9 with (go_at_call 33; refine (CP.out _).mono ?_; clear CP; rintro e w2 ⟨rfl, hb2⟩; have X2 : Hid (Rke w b _ _ w2) := X1.out.below hb2; clear hb2 X1 k0 k1 k2 k3 k4 k5; obtain ⟨⟨d0, d1, d2⟩, ⟨f0, f1, f2⟩, -⟩ := box3 X2.out.bn)
    have X3 : Hid (Rke w b ⟨P, n, has⟩ _ (w2.setCell ⟨b, 0, none⟩ (.string P))) := X2.out.set 0 (.string P) rfl
    generalize w2.setCell ⟨b, 0, none⟩ (.string P) = w3 at X3 ⊢
    clear X2 d0 d1 d2 f0 f1 f2
    obtain ⟨⟨d0, d1, d2⟩, -, -⟩ := box3 X3.out.bn
    obtain ⟨⟨r0, r1, r2, r3⟩, ⟨s0, s1, s2, s3⟩⟩ := box4 X3.out.rs
    simp only at d0 d1 d2
    go_wp2
    obtain ⟨p, g, q0, q1, q2, q3⟩ := X3.out.fin (.int .i64 0) (.int .i64 0) (.string ⟨#[]⟩) (.int .u8 0)
    exact bodyPost_ret (v := .tuple #[.agg #[.int .i64 0, .int .i64 0, .string ⟨#[]⟩, .int .u8 0], .bool false]) (by simp [results, Tryd.results16, go_sem, q0, q1, q2, q3]) rfl ⟨rfl, p, g⟩
end
end Go.Proofs.YtmaolbibbjngcaaDoor
