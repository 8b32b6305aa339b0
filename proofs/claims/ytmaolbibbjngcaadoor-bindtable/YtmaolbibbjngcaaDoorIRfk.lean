/-
  The document's own quoted of layer 19. Conditions: the key's Char is a number of 32 bits.
-/
import Derived.Test.YtmaolbibbjngcaaDoorIRfi
namespace Go.Proofs.YtmaolbibbjngcaaDoor
open Go.RowKit
section
set_option maxRecDepth 100000
set_option maxHeartbeats 2000000
theorem new1 (W : World) (v : Value) (t : TypeId) : (W.alloc (.cells #[v] t)).cell? ⟨W.heap.size, 0, none⟩ = some v := by simp
theorem rquo_any (k : Ky) (hk : k.Ok) (w : World) : Calls Tryd.prog 35 #[kyv k] w fun e w' => e = .returned (.agg (cmc (quoR k))) ∧ Below w.heap.size w w' := by
  have HG : Hid (Gx w k ((w.alloc (.cells (kyc k) 30)).alloc (.cells (cmc cmz) 34))) := gx0 w k
  have HB : Hid (∀ o o', Below w.heap.size w ((w.alloc o).alloc o')) := fun o o' => ((Below.refl _ w).alloc (Nat.le_refl _) o).alloc (by simp) o'
  have CT : Hid (∀ W : World, Calls Tryd.prog 44 #[kyv k] W fun e w' => e = .returned (.string (tydR k)) ∧ Below W.heap.size W w') := fun W => rtyp_any k hk W
  have CI : Hid (∀ (t : ByteArray) (W : World), Calls Tryd.prog 43 #[.string t] W fun e w' => e = .returned (.agg (cmc (insC t))) ∧ Below W.heap.size W w') := fun t W => rins_any t W
  clear hk
  unfold quoR
  by_cases hm : k.me = true
  · rw [if_pos hm]
    obtain ⟨a, c, ct, m, sh, tx⟩ := k
    simp only at hm
    subst hm
    simp only [kyv, kyc, cmc, cmz, unb] at HG ⊢
    go_enter Tryd.func35, Tryd.ntmps35
    go_wp2
    exact bodyPost_ret (v := .agg #[.int .i64 40, .int .i64 0, .string ⟨#[]⟩, .int .u8 0]) (by simp [results, Tryd.results35, go_sem]) rfl ⟨rfl, HB.out _ _⟩
  rw [if_neg hm]
  have hm' : k.me = false := by simpa using hm
  clear hm
  by_cases h14 : k.kd = 1 ∨ k.kd = 4
  · rw [if_pos h14]
    generalize tydR k = T at CT ⊢
    have HI : Hid (∀ (W : World), Calls Tryd.prog 43 #[.string T] W fun e w' => e = .returned (.agg (cmc (insC T))) ∧ Below W.heap.size W w') := fun W => CI.out _ W
    clear CI
    obtain ⟨a, c, ct, m, sh, tx⟩ := k
    simp only at hm' h14
    subst hm'
    simp only at CT ⊢
    generalize insC T = I at HI ⊢
    obtain ⟨i0, i1, i2, i3⟩ := I
    simp only [kyv, kyc, cmc, cmz] at HG CT HI
    rcases h14 with rfl | rfl
    all_goals
      cases ct
      · rw [if_neg (show ¬ (false = true) from fun e => Bool.noConfusion e)]
        unfold kyv cmc
        go_enter Tryd.func35, Tryd.ntmps35
        go_wp2_with (first | (go_at_call 44; refine (CT.out _).mono ?_; clear CT; rintro e w1 ⟨rfl, hb⟩; have HG1 : Hid (Gx w _ w1) := HG.out.below hb; clear hb) | (go_at_call 43; refine (HI.out _).mono ?_; clear HI; rintro e w2 ⟨rfl, hb⟩; have HE : Hid (Gx w _ w2) := HG1.out.below hb; clear hb; obtain ⟨⟨r0, r1, r2, r3⟩, ⟨s0, s1, s2, s3⟩⟩ := box4 HE.out.rs))
        obtain ⟨q, q0, q1, q2, q3⟩ := HE.out.fin (.int .i64 i0) (.int .i64 i1) (.string i2) (.int .u8 i3)
        exact bodyPost_ret (v := .agg #[.int .i64 i0, .int .i64 i1, .string i2, .int .u8 i3]) (by simp [results, Tryd.results35, go_sem, q0, q1, q2, q3]) rfl ⟨rfl, q⟩
      · rw [if_pos rfl]
        unfold kyv cmc unb
        go_enter Tryd.func35, Tryd.ntmps35
        go_wp2
        exact bodyPost_ret (v := .agg #[.int .i64 40, .int .i64 0, .string ⟨#[]⟩, .int .u8 0]) (by simp [results, Tryd.results35, go_sem]) rfl ⟨rfl, HB.out _ _⟩
  rw [if_neg h14]
  have e1 : (k.kd == 1) = false := by simp; exact fun h => h14 (.inl h)
  have e4 : (k.kd == 4) = false := by simp; exact fun h => h14 (.inr h)
  clear h14 CT
  by_cases h3 : k.kd = 3
  · rw [if_pos h3]
    obtain ⟨a, c, ct, m, sh, tx⟩ := k
    simp only at hm' h3
    subst hm' h3
    simp only [kyv, kyc, cmz] at HG ⊢
    clear e1 e4
    have HI : Hid (∀ (W : World), Calls Tryd.prog 43 #[.string ⟨#[27]⟩] W fun e w' => e = .returned (.agg (cmc (insC ⟨#[27]⟩))) ∧ Below W.heap.size W w') := fun W => CI.out _ W
    clear CI
    generalize insC ⟨#[27]⟩ = I at HI ⊢
    obtain ⟨i0, i1, i2, i3⟩ := I
    simp only [cmc] at HI HG ⊢
    go_enter Tryd.func35, Tryd.ntmps35
    go_wp2_with (first | (go_at_call 43; refine (HI.out _).mono ?_; clear HI; rintro e w2 ⟨rfl, hb⟩; have HE : Hid (Gx w _ w2) := HG.out.below hb; clear hb; obtain ⟨⟨r0, r1, r2, r3⟩, ⟨s0, s1, s2, s3⟩⟩ := box4 HE.out.rs))
    obtain ⟨q, q0, q1, q2, q3⟩ := HE.out.fin (.int .i64 i0) (.int .i64 i1) (.string i2) (.int .u8 i3)
    exact bodyPost_ret (v := .agg #[.int .i64 i0, .int .i64 i1, .string i2, .int .u8 i3]) (by simp [results, Tryd.results35, go_sem, q0, q1, q2, q3]) rfl ⟨rfl, q⟩
  rw [if_neg h3]
  have e3 : (k.kd == 3) = false := by simp [h3]
  by_cases h2 : k.kd = 2
  · rw [if_pos h2]
    obtain ⟨a, c, ct, m, sh, tx⟩ := k
    simp only at hm' h2
    subst hm' h2
    simp only [kyv, kyc, cmz] at HG ⊢
    clear e1 e4 e3 h3
    by_cases g : c = 63
    · subst g
      rw [if_pos rfl]
      have HI : Hid (∀ (W : World), Calls Tryd.prog 43 #[.string ⟨#[127]⟩] W fun e w' => e = .returned (.agg (cmc (insC ⟨#[127]⟩))) ∧ Below W.heap.size W w') := fun W => CI.out _ W
      clear CI
      generalize insC ⟨#[127]⟩ = I at HI ⊢
      obtain ⟨i0, i1, i2, i3⟩ := I
      simp only [cmc] at HI HG ⊢
      go_enter Tryd.func35, Tryd.ntmps35
      go_wp2_with (first | (go_at_call 43; refine (HI.out _).mono ?_; clear HI; rintro e w2 ⟨rfl, hb⟩; have HE : Hid (Gx w _ w2) := HG.out.below hb; clear hb; obtain ⟨⟨r0, r1, r2, r3⟩, ⟨s0, s1, s2, s3⟩⟩ := box4 HE.out.rs))
      obtain ⟨q, q0, q1, q2, q3⟩ := HE.out.fin (.int .i64 i0) (.int .i64 i1) (.string i2) (.int .u8 i3)
      exact bodyPost_ret (v := .agg #[.int .i64 i0, .int .i64 i1, .string i2, .int .u8 i3]) (by simp [results, Tryd.results35, go_sem, q0, q1, q2, q3]) rfl ⟨rfl, q⟩
    rw [if_neg g]
    have eg : (c == 63) = false := by simp [g]
    by_cases hr : 64 ≤ c ∧ c ≤ 95
    · rw [if_pos hr]
      obtain ⟨g0, g1⟩ := hr
      have w1 : IntKind.i32.wrap (c - 64) = c - 64 := by simp [IntKind.wrap, IntKind.bits, IntKind.signed]; omega
      have w2 : IntKind.u8.wrap (c - 64) = c - 64 := by simp [IntKind.wrap, IntKind.bits, IntKind.signed]; omega
      have hcv := conv_cells (((w.alloc (.cells #[.int .i64 2, .int .i32 c, .bool ct, .bool false, .bool sh, .string tx] 30)).alloc (.cells #[.int .i64 0, .int .i64 0, .string ⟨#[]⟩, .int .u8 0] 34)).alloc (.cells #[.int .u8 (c - 64)] 5)) (w.heap.size + 1 + 1) 1 [c - 64] (fun j hj => by
        have : j = 0 := by simpa using hj
        subst this
        have hz : ((w.alloc (.cells #[.int .i64 2, .int .i32 c, .bool ct, .bool false, .bool sh, .string tx] 30)).alloc (.cells #[.int .i64 0, .int .i64 0, .string ⟨#[]⟩, .int .u8 0] 34)).heap.size = w.heap.size + 1 + 1 := by simp
        have q := new1 ((w.alloc (.cells #[.int .i64 2, .int .i32 c, .bool ct, .bool false, .bool sh, .string tx] 30)).alloc (.cells #[.int .i64 0, .int .i64 0, .string ⟨#[]⟩, .int .u8 0] 34)) (.int .u8 (c - 64)) 5
        rw [hz] at q
        exact q) (fun z hz => by rw [List.mem_singleton] at hz; omega)
      simp only [List.length_cons, List.length_nil, Nat.zero_add, List.map_cons, List.map_nil] at hcv
      have HG1 : Hid (Gx w ⟨2, c, ct, false, sh, tx⟩ (((w.alloc (.cells #[.int .i64 2, .int .i32 c, .bool ct, .bool false, .bool sh, .string tx] 30)).alloc (.cells #[.int .i64 0, .int .i64 0, .string ⟨#[]⟩, .int .u8 0] 34)).alloc (.cells #[.int .u8 (c - 64)] 5))) := HG.out.below ((Below.refl _ _).alloc (Nat.le_refl _) _)
      generalize (c - 64).toNat.toUInt8 = B at hcv ⊢
      have HI : Hid (∀ (W : World), Calls Tryd.prog 43 #[.string ⟨#[B]⟩] W fun e w' => e = .returned (.agg (cmc (insC ⟨#[B]⟩))) ∧ Below W.heap.size W w') := fun W => CI.out _ W
      clear CI
      generalize insC ⟨#[B]⟩ = I at HI ⊢
      obtain ⟨i0, i1, i2, i3⟩ := I
      simp only [cmc] at HI HG ⊢
      go_enter Tryd.func35, Tryd.ntmps35
      go_wp2_with (first | (go_at_call 43; refine (HI.out _).mono ?_; clear HI; rintro e w2 ⟨rfl, hb⟩; have HE : Hid (Gx w _ w2) := HG1.out.below hb; clear hb; obtain ⟨⟨r0, r1, r2, r3⟩, ⟨s0, s1, s2, s3⟩⟩ := box4 HE.out.rs))
      obtain ⟨q, q0, q1, q2, q3⟩ := HE.out.fin (.int .i64 i0) (.int .i64 i1) (.string i2) (.int .u8 i3)
      exact bodyPost_ret (v := .agg #[.int .i64 i0, .int .i64 i1, .string i2, .int .u8 i3]) (by simp [results, Tryd.results35, go_sem, q0, q1, q2, q3]) rfl ⟨rfl, q⟩
    · rw [if_neg hr]
      simp only [cmc, unb] at HG ⊢
      by_cases g0 : 64 ≤ c
      · have g1 : ¬ c ≤ 95 := fun h => hr ⟨g0, h⟩
        clear hr
        go_enter Tryd.func35, Tryd.ntmps35
        go_wp2
        exact bodyPost_ret (v := .agg #[.int .i64 40, .int .i64 0, .string ⟨#[]⟩, .int .u8 0]) (by simp [results, Tryd.results35, go_sem]) rfl ⟨rfl, HB.out _ _⟩
      · clear hr
        go_enter Tryd.func35, Tryd.ntmps35
        go_wp2
        exact bodyPost_ret (v := .agg #[.int .i64 40, .int .i64 0, .string ⟨#[]⟩, .int .u8 0]) (by simp [results, Tryd.results35, go_sem]) rfl ⟨rfl, HB.out _ _⟩
  rw [if_neg h2]
  have e2 : (k.kd == 2) = false := by simp [h2]
  obtain ⟨a, c, ct, m, sh, tx⟩ := k
  simp only at hm' e1 e2 e3 e4
  subst hm'
  simp only [kyv, kyc, cmc, cmz, unb] at HG ⊢
  go_enter Tryd.func35, Tryd.ntmps35
  go_wp2
  exact bodyPost_ret (v := .agg #[.int .i64 40, .int .i64 0, .string ⟨#[]⟩, .int .u8 0]) (by simp [results, Tryd.results35, go_sem]) rfl ⟨rfl, HB.out _ _⟩
end
end Go.Proofs.YtmaolbibbjngcaaDoor
