/-
  The document's own Key of layer 19: a digit. Conditions: the binder's block holds what waits.
-/
import Derived.Test.YtmaolbibbjngcaaDoorIRky
namespace Go.Proofs.YtmaolbibbjngcaaDoor
open Go.RowKit
section
set_option maxRecDepth 100000
set_option maxHeartbeats 2000000
theorem rky_dg (b : Nat) (s : Bs) (hs : s.Ok) (k : Ky) (w : World) (h : Rn b s w) (hp : s.px = ⟨#[]⟩) (hd : digR k s.has = true) : Calls Tryd.prog 16 #[.pointer (some ⟨b, 0, none⟩), kyv k] w fun e w' => e = .returned (.tuple #[.agg (cmc cmz), .bool false]) ∧ Rn b ⟨⟨#[]⟩, min (s.n * 10 + (k.ch - 48)) 1000, true⟩ w' ∧ w.grownBy w' (some b) := by
  have H0 : Hid (Rke w b s k ((w.alloc (.cells (kyc k) 30)).alloc (.cells (cmc cmz) 34))) := rke0 h k
  have CD : Hid (∀ W : World, Calls Tryd.prog 32 #[kyv k, .bool s.has] W fun e w' => e = .returned (.bool true) ∧ Below W.heap.size W w') := fun W => by
    have := rdig_any k s.has W
    rw [hd] at this; exact this
  have n0 := hs.n0
  have n1 := hs.n1
  have hq : 48 ≤ k.ch ∧ k.ch ≤ 57 := by
    unfold digR at hd
    simp only [Bool.and_eq_true, decide_eq_true_eq] at hd
    exact ⟨hd.1.2, hd.2⟩
  obtain ⟨q0, q1⟩ := hq
  clear hs h hd
  obtain ⟨px, n, has⟩ := s
  simp only at hp n0 n1 CD ⊢
  subst hp
  obtain ⟨a, c, ct, m, sh, tx⟩ := k
  simp only at q0 q1 ⊢
  obtain ⟨M, hM⟩ : ∃ M, min (n * 10 + (c - 48)) 1000 = M := ⟨_, rfl⟩
  have HM : Hid (min (n * 10 + (c - 48)) 1000 = M) := hM
  rw [hM]
  clear hM
  simp only [kyv] at CD ⊢
  simp only [kyc, cmc, cmz] at H0 ⊢
  obtain ⟨⟨d0, d1, d2⟩, -, -⟩ := box3 H0.out.bn
  simp only at d0 d1 d2
  go_enter Tryd.func16, Tryd.ntmps16
  go_upto_region 2 with (fail)
  have H0' : Hid (Rke w b ⟨⟨#[]⟩, n, has⟩ ⟨a, c, ct, m, sh, tx⟩ (((w.alloc (.cells #[.int .i64 a, .int .i32 c, .bool ct, .bool m, .bool sh, .string tx] 30)).alloc (.cells #[.int .i64 0, .int .i64 0, .string ⟨#[]⟩, .int .u8 0] 34)))) := H0
  generalize ((w.alloc (.cells #[.int .i64 a, .int .i32 c, .bool ct, .bool m, .bool sh, .string tx] 30)).alloc (.cells #[.int .i64 0, .int .i64 0, .string ⟨#[]⟩, .int .u8 0] 34)) = W0 at H0' d0 d1 d2 ⊢
  clear H0
  obtain ⟨k0, k1, k2, k3, k4, k5, -⟩ := box6 H0'.out.kx
  go_cut [17] from 12 to 16 (fun v17 wx => v17 = .bool true ∧ Hid (Rke w b ⟨⟨#[]⟩, n, has⟩ ⟨a, c, ct, m, sh, tx⟩ wx))
  case first =>
    go_region_with (go_at_call 32; refine (CD.out _).mono ?_; clear CD; rintro e w1 ⟨rfl, hb1⟩; have X1 : Hid (Rke w b ⟨⟨#[]⟩, n, has⟩ ⟨a, c, ct, m, sh, tx⟩ w1) := H0'.out.drew.below hb1; clear hb1)
    all_goals
      go_wp2_with fail
      go_meet
      exact ⟨rfl, X1⟩
  case rest =>
    clear H0' CD k0 k1 k2 k3 k4 k5 d0 d1 d2
    obtain ⟨rfl, X1⟩ := hcut
    go_upto_region 3 with (fail)
    obtain ⟨⟨d0, d1, d2⟩, ⟨f0, f1, f2⟩, -⟩ := box3 X1.out.bn
    obtain ⟨k0, k1, k2, k3, k4, k5, -⟩ := box6 X1.out.kx
    simp only at d0 d1 d2
    go_cut [] from 18 to 30 (fun wx => Hid (Rke w b ⟨⟨#[]⟩, n * 10 + (c - 48), has⟩ ⟨a, c, ct, m, sh, tx⟩ wx))
    case first =>
      go_region
      all_goals
        go_wp2_with fail
        go_meet
        exact (X1.out.set 1 (.int .i64 (n * 10 + (c - 48))) rfl).drew
    case rest =>
      clear X1 d0 d1 d2 f0 f1 f2 k0 k1 k2 k3 k4 k5
      have X2 := hcut
      clear hcut
      obtain ⟨⟨d0, d1, d2⟩, ⟨f0, f1, f2⟩, -⟩ := box3 X2.out.bn
      obtain ⟨⟨r0, r1, r2, r3⟩, ⟨s0, s1, s2, s3⟩⟩ := box4 X2.out.rs
      simp only at d0 d1 d2
      obtain ⟨x, hx⟩ : ∃ x, n * 10 + (c - 48) = x := ⟨_, rfl⟩
      have HX : Hid (min x 1000 = M) := by rw [← hx]; exact HM.out
      rw [hx] at X2 d1
      clear hx HM
      have nb : ¬ b = w.heap.size + 1 := by have := X2.out.lt; omega
      have nb' : ¬ w.heap.size + 1 = b := fun e => nb e.symm
      by_cases hgt : 1000 < x
      · have e1 : Hid (M = 1000) := (by have := HX.out; omega : M = 1000)
        clear HX
        go_wp2
        obtain ⟨p, g, q0, q1, q2, q3⟩ := ((X2.out.set (t := ⟨⟨#[]⟩, 1000, has⟩) 1 (.int .i64 1000) rfl).set (t := ⟨⟨#[]⟩, 1000, true⟩) 2 (.bool true) rfl).fin (.int .i64 0) (.int .i64 0) (.string ⟨#[]⟩) (.int .u8 0)
        exact bodyPost_ret (v := .tuple #[.agg #[.int .i64 0, .int .i64 0, .string ⟨#[]⟩, .int .u8 0], .bool false]) (by simp [results, Tryd.results16, go_sem, q0, q1, q2, q3]) rfl ⟨rfl, by rw [e1.out]; exact p, g⟩
      · have e1 : Hid (M = x) := (by have := HX.out; omega : M = x)
        clear HX
        go_wp2
        obtain ⟨p, g, q0, q1, q2, q3⟩ := (X2.out.set (t := ⟨⟨#[]⟩, x, true⟩) 2 (.bool true) rfl).fin (.int .i64 0) (.int .i64 0) (.string ⟨#[]⟩) (.int .u8 0)
        exact bodyPost_ret (v := .tuple #[.agg #[.int .i64 0, .int .i64 0, .string ⟨#[]⟩, .int .u8 0], .bool false]) (by simp [results, Tryd.results16, go_sem, q0, q1, q2, q3]) rfl ⟨rfl, by rw [e1.out]; exact p, g⟩
end
end Go.Proofs.YtmaolbibbjngcaaDoor
