/-
  The document's own single of layer 19. Conditions: the key's Char is a number of 32 bits.
-/
import Derived.Test.YtmaolbibbjngcaaDoorIRfn
import Derived.Test.YtmaolbibbjngcaaDoorIRfo
namespace Go.Proofs.YtmaolbibbjngcaaDoor
open Go.RowKit
section
set_option maxRecDepth 100000
set_option maxHeartbeats 2000000
theorem rsgl_any (k : Ky) (hk : k.Ok) (w : World) : Calls Tryd.prog 34 #[kyv k] w fun e w' => e = .returned (.agg (cmc (sinR k))) ∧ Below w.heap.size w w' := by
  have HG : Hid (Gx w k ((w.alloc (.cells (kyc k) 30)).alloc (.cells (cmc cmz) 34))) := gx0 w k
  have HB : Hid (∀ o o', Below w.heap.size w ((w.alloc o).alloc o')) := fun o o' => ((Below.refl _ w).alloc (Nat.le_refl _) o).alloc (by simp) o'
  have CT : Hid (∀ W : World, Calls Tryd.prog 44 #[kyv k] W fun e w' => e = .returned (.string (tydR k)) ∧ Below W.heap.size W w') := fun W => rtyp_any k hk W
  have CI : Hid (∀ (t : ByteArray) (W : World), Calls Tryd.prog 43 #[.string t] W fun e w' => e = .returned (.agg (cmc (insC t))) ∧ Below W.heap.size W w') := fun t W => rins_any t W
  have CC : Hid (∀ W : World, Calls Tryd.prog 46 #[.int .i32 k.ch] W fun e w' => e = .returned (.agg (cmc (ctrR k.ch))) ∧ Below W.heap.size W w') := fun W => rctr_any k.ch hk.c0 hk.c1 W
  have CM : Hid (∀ W : World, Calls Tryd.prog 45 #[.int .i32 k.ch] W fun e w' => e = .returned (.int .i64 (metR k.ch)) ∧ Below W.heap.size W w') := fun W => rmet_any k.ch W
  have CN : Hid (∀ (far : Bool) (W : World), Calls Tryd.prog 47 #[.int .i64 k.kd, .bool far] W fun e w' => e = .returned (.int .i64 (namR k.kd far)) ∧ Below W.heap.size W w') := fun far W => rnam_any k.kd far W
  clear hk
  unfold sinR
  by_cases h1 : k.kd = 1
  · rw [if_pos h1]
    have hT : tydR k = encB k.ch := by unfold tydR; rw [if_neg (by omega)]
    rw [hT] at CT
    generalize encB k.ch = T at CT ⊢
    have CI := CI.out T
    have HI : Hid (∀ (W : World), Calls Tryd.prog 43 #[.string T] W fun e w' => e = .returned (.agg (cmc (insC T))) ∧ Below W.heap.size W w') := CI
    clear CI hT
    obtain ⟨a, c, ct, m, sh, tx⟩ := k
    simp only at h1
    subst h1
    simp only at CM ⊢
    generalize metR c = M at CM ⊢
    generalize insC T = I at HI ⊢
    obtain ⟨i0, i1, i2, i3⟩ := I
    simp only [kyv, kyc, cmc, cmz] at HG CT HI
    cases ct <;> cases m
    · rw [if_pos (show plnR ⟨1, c, false, false, sh, tx⟩ = true from rfl)]
      unfold kyv cmc
      go_enter Tryd.func34, Tryd.ntmps34
      go_wp2_with (first | (go_at_call 44; refine (CT.out _).mono ?_; clear CT; rintro e w1 ⟨rfl, hb⟩; have HG1 : Hid (Gx w _ w1) := HG.out.below hb; clear hb) | (go_at_call 43; refine (HI.out _).mono ?_; clear HI; rintro e w2 ⟨rfl, hb⟩; have HE : Hid (Gx w _ w2) := HG1.out.below hb; clear hb; obtain ⟨⟨r0, r1, r2, r3⟩, ⟨s0, s1, s2, s3⟩⟩ := box4 HE.out.rs))
      obtain ⟨q, q0, q1, q2, q3⟩ := HE.out.fin (.int .i64 i0) (.int .i64 i1) (.string i2) (.int .u8 i3)
      exact bodyPost_ret (v := .agg #[.int .i64 i0, .int .i64 i1, .string i2, .int .u8 i3]) (by simp [results, Tryd.results34, go_sem, q0, q1, q2, q3]) rfl ⟨rfl, q⟩
    · rw [if_neg (show ¬ plnR ⟨1, c, false, true, sh, tx⟩ = true from fun e => Bool.noConfusion (e : false = true)), if_neg (show ¬ (false = true) from fun e => Bool.noConfusion e)]
      unfold kyv cmc
      go_enter Tryd.func34, Tryd.ntmps34
      go_wp2_with (first | (go_at_call 45; refine (CM.out _).mono ?_; clear CM; rintro e w1 ⟨rfl, hb⟩; have HE : Hid (Gx w _ w1) := HG.out.below hb; clear hb; obtain ⟨⟨r0, r1, r2, r3⟩, ⟨s0, s1, s2, s3⟩⟩ := box4 HE.out.rs))
      obtain ⟨q, q0, q1, q2, q3⟩ := HE.out.fin (.int .i64 M) (.int .i64 0) (.string ⟨#[]⟩) (.int .u8 0)
      exact bodyPost_ret (v := .agg #[.int .i64 M, .int .i64 0, .string ⟨#[]⟩, .int .u8 0]) (by simp [results, Tryd.results34, go_sem, q0, q1, q2, q3]) rfl ⟨rfl, q⟩
    · rw [if_neg (show ¬ plnR ⟨1, c, true, false, sh, tx⟩ = true from fun e => Bool.noConfusion (e : false = true)), if_pos rfl]
      unfold kyv cmc unb
      go_enter Tryd.func34, Tryd.ntmps34
      go_wp2
      exact bodyPost_ret (v := .agg #[.int .i64 40, .int .i64 0, .string ⟨#[]⟩, .int .u8 0]) (by simp [results, Tryd.results34, go_sem]) rfl ⟨rfl, HB.out _ _⟩
    · rw [if_neg (show ¬ plnR ⟨1, c, true, true, sh, tx⟩ = true from fun e => Bool.noConfusion (e : false = true)), if_pos rfl]
      unfold kyv cmc unb
      go_enter Tryd.func34, Tryd.ntmps34
      go_wp2
      exact bodyPost_ret (v := .agg #[.int .i64 40, .int .i64 0, .string ⟨#[]⟩, .int .u8 0]) (by simp [results, Tryd.results34, go_sem]) rfl ⟨rfl, HB.out _ _⟩
  rw [if_neg h1]
  have e1 : (k.kd == 1) = false := by simp [h1]
  by_cases h4 : k.kd = 4
  · rw [if_pos h4]
    have CI := CI.out k.tx
    have HI : Hid (∀ (W : World), Calls Tryd.prog 43 #[.string k.tx] W fun e w' => e = .returned (.agg (cmc (insC k.tx))) ∧ Below W.heap.size W w') := CI
    clear CI
    obtain ⟨a, c, ct, m, sh, tx⟩ := k
    simp only at h4
    subst h4
    simp only at HI ⊢
    generalize insC tx = I at HI ⊢
    obtain ⟨i0, i1, i2, i3⟩ := I
    simp only [kyc, cmc, cmz] at HG HI
    cases ct <;> cases m
    · rw [if_pos (show plnR ⟨4, c, false, false, sh, tx⟩ = true from rfl)]
      unfold kyv cmc
      go_enter Tryd.func34, Tryd.ntmps34
      go_wp2_with (first | (go_at_call 43; refine (HI.out _).mono ?_; clear HI; rintro e w2 ⟨rfl, hb⟩; have HE : Hid (Gx w _ w2) := HG.out.below hb; clear hb; obtain ⟨⟨r0, r1, r2, r3⟩, ⟨s0, s1, s2, s3⟩⟩ := box4 HE.out.rs))
      obtain ⟨q, q0, q1, q2, q3⟩ := HE.out.fin (.int .i64 i0) (.int .i64 i1) (.string i2) (.int .u8 i3)
      exact bodyPost_ret (v := .agg #[.int .i64 i0, .int .i64 i1, .string i2, .int .u8 i3]) (by simp [results, Tryd.results34, go_sem, q0, q1, q2, q3]) rfl ⟨rfl, q⟩
    all_goals
      first
        | rw [if_neg (show ¬ plnR ⟨4, c, false, true, sh, tx⟩ = true from fun e => Bool.noConfusion (e : false = true))]
        | rw [if_neg (show ¬ plnR ⟨4, c, true, false, sh, tx⟩ = true from fun e => Bool.noConfusion (e : false = true))]
        | rw [if_neg (show ¬ plnR ⟨4, c, true, true, sh, tx⟩ = true from fun e => Bool.noConfusion (e : false = true))]
      unfold kyv cmc unb
      go_enter Tryd.func34, Tryd.ntmps34
      go_wp2
      exact bodyPost_ret (v := .agg #[.int .i64 40, .int .i64 0, .string ⟨#[]⟩, .int .u8 0]) (by simp [results, Tryd.results34, go_sem]) rfl ⟨rfl, HB.out _ _⟩
  rw [if_neg h4]
  have e4 : (k.kd == 4) = false := by simp [h4]
  by_cases h2 : k.kd = 2
  · rw [if_pos h2]
    obtain ⟨a, c, ct, m, sh, tx⟩ := k
    simp only at h2
    subst h2
    simp only at CC ⊢
    generalize ctrR c = I at CC ⊢
    obtain ⟨i0, i1, i2, i3⟩ := I
    simp only [kyc, cmc, cmz] at HG CC
    clear e1 e4 h1 h4
    cases ct
    all_goals
      cases m
      · rw [if_pos rfl]
        unfold kyv cmc
        go_enter Tryd.func34, Tryd.ntmps34
        go_wp2_with (first | (go_at_call 46; refine (CC.out _).mono ?_; clear CC; rintro e w2 ⟨rfl, hb⟩; have HE : Hid (Gx w _ w2) := HG.out.below hb; clear hb; obtain ⟨⟨r0, r1, r2, r3⟩, ⟨s0, s1, s2, s3⟩⟩ := box4 HE.out.rs))
        obtain ⟨q, q0, q1, q2, q3⟩ := HE.out.fin (.int .i64 i0) (.int .i64 i1) (.string i2) (.int .u8 i3)
        exact bodyPost_ret (v := .agg #[.int .i64 i0, .int .i64 i1, .string i2, .int .u8 i3]) (by simp [results, Tryd.results34, go_sem, q0, q1, q2, q3]) rfl ⟨rfl, q⟩
      · rw [if_neg (show ¬ (true = false) from fun e => Bool.noConfusion e)]
        clear CC
        unfold kyv cmc unb
        by_cases g : c = 72
        · subst g
          rw [if_pos (.inl rfl)]
          go_enter Tryd.func34, Tryd.ntmps34
          go_wp2
          exact bodyPost_ret (v := .agg #[.int .i64 17, .int .i64 0, .string ⟨#[]⟩, .int .u8 0]) (by simp [results, Tryd.results34, go_sem]) rfl ⟨rfl, HB.out _ _⟩
        have eg : (c == 72) = false := by simp [g]
        by_cases i : c = 63
        · subst i
          rw [if_pos (.inr rfl)]
          go_enter Tryd.func34, Tryd.ntmps34
          go_wp2
          exact bodyPost_ret (v := .agg #[.int .i64 17, .int .i64 0, .string ⟨#[]⟩, .int .u8 0]) (by simp [results, Tryd.results34, go_sem]) rfl ⟨rfl, HB.out _ _⟩
        have ei : (c == 63) = false := by simp [i]
        rw [if_neg (fun h => h.elim g i)]
        go_enter Tryd.func34, Tryd.ntmps34
        go_wp2
        exact bodyPost_ret (v := .agg #[.int .i64 40, .int .i64 0, .string ⟨#[]⟩, .int .u8 0]) (by simp [results, Tryd.results34, go_sem]) rfl ⟨rfl, HB.out _ _⟩
  rw [if_neg h2]
  have e2 : (k.kd == 2) = false := by simp [h2]
  by_cases h17 : k.kd = 17
  · rw [if_pos h17]
    obtain ⟨a, c, ct, m, sh, tx⟩ := k
    simp only at h17
    subst h17
    simp only [kyv, kyc, cmc, cmz] at HG ⊢
    clear e1 e4 e2 h1 h4 h2
    cases ct <;> cases m
    all_goals
      go_enter Tryd.func34, Tryd.ntmps34
      go_wp2
      exact bodyPost_ret (v := .agg #[.int .i64 39, .int .i64 0, .string tx, .int .u8 0]) (by simp [results, Tryd.results34, go_sem]) rfl ⟨rfl, HB.out _ _⟩
  rw [if_neg h17]
  have e17 : (k.kd == 17) = false := by simp [h17]
  obtain ⟨a, c, ct, m, sh, tx⟩ := k
  simp only at e1 e2 e4 e17
  have HN : Hid (∀ (W : World), Calls Tryd.prog 47 #[.int .i64 a, .bool (!plnR ⟨a, c, ct, m, sh, tx⟩)] W fun e w' => e = .returned (.int .i64 (namR a (!plnR ⟨a, c, ct, m, sh, tx⟩))) ∧ Below W.heap.size W w') := fun W => CN.out _ W
  clear CN h1 h2 h4 h17
  simp only [kyv, kyc, cmc, cmz, plnR] at HG HN ⊢
  generalize namR a (!(!ct && !m)) = M at HN ⊢
  cases ct <;> cases m
  all_goals
    simp only [Bool.not_false, Bool.not_true, Bool.and_false, Bool.and_true, Bool.and_self] at HN
    go_enter Tryd.func34, Tryd.ntmps34
    go_wp2_with (first | (go_at_call 47; refine (HN.out _).mono ?_; clear HN; rintro e w1 ⟨rfl, hb⟩; have HE : Hid (Gx w _ w1) := HG.out.below hb; clear hb; obtain ⟨⟨r0, r1, r2, r3⟩, ⟨s0, s1, s2, s3⟩⟩ := box4 HE.out.rs))
    obtain ⟨q, q0, q1, q2, q3⟩ := HE.out.fin (.int .i64 M) (.int .i64 0) (.string ⟨#[]⟩) (.int .u8 0)
    exact bodyPost_ret (v := .agg #[.int .i64 M, .int .i64 0, .string ⟨#[]⟩, .int .u8 0]) (by simp [results, Tryd.results34, go_sem, q0, q1, q2, q3]) rfl ⟨rfl, q⟩
end
end Go.Proofs.YtmaolbibbjngcaaDoor
