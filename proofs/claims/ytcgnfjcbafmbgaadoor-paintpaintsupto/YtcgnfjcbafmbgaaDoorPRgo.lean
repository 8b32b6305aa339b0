/-
  The document's own layer 21: held, decimal, Goto. No conditions.
-/
import Derived.Test.YtcgnfjcbafmbgaaDoorPGo
namespace Go.Proofs.YtcgnfjcbafmbgaaDoor
open Go.RowKit Go.Shelf Bod Wid
set_option maxRecDepth 100000 in
theorem held_any (n : Int) (w : World) : Calls Tryd.prog 29 #[.int .i64 n] w fun e w' => e = .returned (.int .i64 (cntN n - 1)) ∧ Below w.heap.size w w' := by
  by_cases h0 : n < 0
  · have e : cntN n - 1 = 0 := by unfold cntN; omega
    rw [e]
    clear e
    go_enter Tryd.func29, Tryd.ntmps29
    go_wp2
    go_ret
    exact ⟨rfl, Below.refl _ _⟩
  · by_cases h1 : n > 1073741824
    · have e : cntN n - 1 = 1073741824 := by unfold cntN; omega
      rw [e]
      clear e
      go_enter Tryd.func29, Tryd.ntmps29
      go_wp2
      go_ret
      exact ⟨rfl, Below.refl _ _⟩
    · have e : cntN n - 1 = n := by unfold cntN; omega
      rw [e]
      clear e
      go_enter Tryd.func29, Tryd.ntmps29
      go_wp2
      go_ret
      exact ⟨rfl, Below.refl _ _⟩
theorem dec_ten {k : Nat} (h : ¬ k < 10) : Lib.decDigits k = Lib.decDigits (k / 10) ++ Lib.decDigits (k % 10) := by
  rw [Lib.decDigits, dif_neg h, Lib.decDigits_one (i := k % 10) (by omega)]
theorem dec_len (k : Nat) (h : k ≤ 1073741825) : (Lib.decDigits k).length ≤ 21 := by
  have := Lib.itoa_length_le (k : Int) (by omega) (by omega)
  rwa [Lib.itoa_nonneg] at this
set_option maxRecDepth 100000 in
set_option maxHeartbeats 1000000 in
theorem dec_any : ∀ (k : Nat), k ≤ 1073741825 → ∀ w : World, Calls Tryd.prog 28 #[.int .i64 k] w fun e w' => e = .returned (.string ⟨(Lib.decDigits k).toArray⟩) ∧ Below w.heap.size w w' := by
  intro k
  induction k using Nat.strongRecOn with
  | _ k ih =>
    intro hk w
    by_cases h10 : k < 10
    · have e8 : UInt8.ofNat (48 + k) = 48 + UInt8.ofNat k := by simp [UInt8.ofNat_add]
      rw [Lib.decDigits_one h10, e8]
      have h10' : (k : Int) < 10 := by omega
      have m1 : wrap64 (48 + (k : Int)) = 48 + (k : Int) := by unfold wrap64; omega
      have m2 : IntKind.i64.wrap (48 + (k : Int)) = 48 + (k : Int) := by rw [IntKind.wrap_i64]; omega
      have m3 : IntKind.u8.wrap (48 + (k : Int)) = 48 + (k : Int) := by simp [IntKind.wrap, IntKind.bits, IntKind.signed]; omega
      have hcv : (convert 42 9 (.slice (some ⟨w.heap.size, 0, none⟩) 1 1)).run Tryd.prog (w.alloc (.cells #[.int .u8 (48 + (k : Int))] 5)) = .ok (.string ⟨[48 + UInt8.ofNat k].toArray⟩) (w.alloc (.cells #[.int .u8 (48 + (k : Int))] 5)) := by
        rw [← e8]
        refine run_convert_bytes_back _ 42 9 5 ⟨w.heap.size, 0, none⟩ 1 [UInt8.ofNat (48 + k)] Tryd.underlying42 Tryd.underlying5 Tryd.underlying9 (fun j hj => ?_)
        have hj0 : j = 0 := by simpa using hj
        subst hj0
        have e : (48 + (k : Int)) = ((UInt8.ofNat (48 + k)).toNat : Int) := by
          rw [UInt8.toNat_ofNat', Nat.mod_eq_of_lt (by omega)]; omega
        rw [e]
        simp [Addr.add]
      clear ih h10 hk
      go_enter Tryd.func28, Tryd.ntmps28
      go_wp2
      go_ret
      exact ⟨rfl, (Below.refl _ w).alloc (Nat.le_refl _) _⟩
    · have h10' : ¬ (k : Int) < 10 := by omega
      have C1 : Hid (Calls Tryd.prog 28 #[.int .i64 (k / 10 : Nat)] w fun e w' => e = .returned (.string ⟨(Lib.decDigits (k / 10)).toArray⟩) ∧ Hid (Below w.heap.size w w')) := ih (k / 10) (by omega) (by omega) w
      have C2 : Hid (∀ X : World, Calls Tryd.prog 28 #[.int .i64 (k % 10 : Nat)] X fun e w' => e = .returned (.string ⟨(Lib.decDigits (k % 10)).toArray⟩) ∧ Hid (Below X.heap.size X w')) := fun X => ih (k % 10) (by omega) (by omega) X
      have hd := dec_ten h10
      have l1 := dec_len (k / 10) (by omega)
      have l2 := dec_len (k % 10) (by omega)
      have hs : (⟨(Lib.decDigits k).toArray⟩ : ByteArray) = ⟨(Lib.decDigits (k / 10)).toArray⟩ ++ ⟨(Lib.decDigits (k % 10)).toArray⟩ := by rw [hd, ba_app]
      rw [hs]
      obtain ⟨qd, hqd⟩ : ∃ q, k / 10 = q := ⟨_, rfl⟩
      obtain ⟨qm, hqm⟩ : ∃ q, k % 10 = q := ⟨_, rfl⟩
      have m1 : Int.tdiv (k : Int) 10 = (qd : Int) := by rw [← hqd]; simp [Int.tdiv]; try omega
      have m2 : Int.tmod (k : Int) 10 = (qm : Int) := by rw [← hqm]; simp [Int.tmod]; try omega
      have m3 : wrap64 (qd : Int) = (qd : Int) := by unfold wrap64; omega
      have m6 : wrap64 (qm : Int) = (qm : Int) := by unfold wrap64; omega
      have m4 : (k : Int) / 10 = (qd : Int) := by omega
      have m5 : (k : Int) % 10 = (qm : Int) := by omega
      rw [hqd] at C1 l1 ⊢
      rw [hqm] at C2 l2 ⊢
      generalize Lib.decDigits qd = dd at C1 l1 ⊢
      generalize Lib.decDigits qm = dm at C2 l2 ⊢
      have n1 : ¬ 9223372036854775807 < dd.length + dm.length := by omega
      clear ih h10 hk hd hs hqd hqm
      go_enter Tryd.func28, Tryd.ntmps28
      go_wp2_with (first
        | (go_at_call 28; refine C1.out.mono ?_; clear C1; rintro e w1 ⟨rfl, HB1⟩)
        | (go_at_call 28; (first | (refine (C2.out _).mono ?_) | (trace_state; fail)); clear C2; rintro e w2 ⟨rfl, HB2⟩))
      go_ret
      exact ⟨rfl, HB1.out.trans (HB2.out.mono HB1.out.size)⟩
set_option maxRecDepth 100000 in
set_option maxHeartbeats 1000000 in
theorem rgoto_any (r c : Int) (w : World) : Calls Tryd.prog 13 #[plv r c] w fun e w' => e = .returned (.string ⟨(gotoL r c).toArray⟩) ∧ Below w.heap.size w w' := by
  have HM : Hid (Tryd.prog.follows .mixedOrders = true) := by show _ = _; kernel_rfl
  have H0 : Hid (Below w.heap.size w (w.alloc (.cells #[.int .i64 r, .int .i64 c] 24)) ∧ (w.alloc (.cells #[.int .i64 r, .int .i64 c] 24)).heap[w.heap.size]? = some (.cells #[.int .i64 r, .int .i64 c] 24 (0, 0))) := ⟨(Below.refl _ w).alloc (Nat.le_refl _) _, World.alloc_heap_new _ _⟩
  have hdec : ∀ z X, Calls Tryd.prog 28 #[.int .i64 (cntN z)] X fun e w' => e = .returned (.string ⟨(cntL z).toArray⟩) ∧ Below X.heap.size X w' := fun z X => by
    have hb := cntN_in z
    have h := dec_any (cntN z).toNat (by omega) X
    have e : ((cntN z).toNat : Int) = cntN z := by omega
    have e2 : cntL z = Lib.decDigits (cntN z).toNat := by show Lib.itoa (cntN z) = _; unfold Lib.itoa; rw [if_neg (by omega)]
    rw [e] at h
    rw [e2]
    exact h
  have hgo : (⟨(gotoL r c).toArray⟩ : ByteArray) = ⟨#[27, 91]⟩ ++ ⟨(cntL r).toArray⟩ ++ ⟨#[59]⟩ ++ ⟨(cntL c).toArray⟩ ++ ⟨#[72]⟩ := by
    rw [show (⟨#[27, 91]⟩ : ByteArray) = ⟨[27, 91].toArray⟩ from rfl, show (⟨#[59]⟩ : ByteArray) = ⟨[59].toArray⟩ from rfl, show (⟨#[72]⟩ : ByteArray) = ⟨[72].toArray⟩ from rfl, ba_app, ba_app, ba_app, ba_app]
    rfl
  rw [hgo]
  unfold plv
  have l1 := cntL_len r
  have l2 := cntL_len c
  have C1 := fun X => held_any r X
  have C2 := fun X => hdec r X
  have C3 := fun X => held_any c X
  have C4 := fun X => hdec c X
  have b1 := cntN_in r
  have b2 := cntN_in c
  clear hdec hgo
  obtain ⟨nr, hnr⟩ : ∃ q, cntN r - 1 = q := ⟨_, rfl⟩
  obtain ⟨nc, hnc⟩ : ∃ q, cntN c - 1 = q := ⟨_, rfl⟩
  obtain ⟨lr, hlr⟩ : ∃ lr, cntL r = lr := ⟨_, rfl⟩
  obtain ⟨lc, hlc⟩ : ∃ lc, cntL c = lc := ⟨_, rfl⟩
  rw [hnr] at C1
  rw [hnc] at C3
  rw [hlr] at l1 C2 ⊢
  rw [hlc] at l2 C4 ⊢
  obtain ⟨mr, hmr⟩ : ∃ q, cntN r = q := ⟨_, rfl⟩
  obtain ⟨mc, hmc⟩ : ∃ q, cntN c = q := ⟨_, rfl⟩
  rw [hmr] at C2 b1 hnr
  rw [hmc] at C4 b2 hnc
  have m1 : wrap64 (nr + 1) = mr := by unfold wrap64; omega
  have m2 : wrap64 (nc + 1) = mc := by unfold wrap64; omega
  have m3 : IntKind.i64.wrap (nr + 1) = mr := by rw [IntKind.wrap_i64]; omega
  have m4 : IntKind.i64.wrap (nc + 1) = mc := by rw [IntKind.wrap_i64]; omega
  clear hlr hlc hmr hmc hnr hnc b1 b2
  go_enter Tryd.func13, Tryd.ntmps13
  go_wp2
  have k1 := call_rgP (W := w.alloc (.cells #[.int .i64 r, .int .i64 c] 24)) fun X hX => C1 X
  have k2 := call_rgP (W := w.alloc (.cells #[.int .i64 r, .int .i64 c] 24)) fun X hX => C2 X
  have k3 := call_rgP (W := w.alloc (.cells #[.int .i64 r, .int .i64 c] 24)) fun X hX => C3 X
  have k4 := call_rgP (W := w.alloc (.cells #[.int .i64 r, .int .i64 c] 24)) fun X hX => C4 X
  obtain ⟨x0, x1⟩ := box2f H0.out.2
  have r0 := cell_rgP x0
  have r1 := cell_rgP x1
  have h1 : ¬ 9223372036854775807 < 2 + lr.length := by omega
  have h2 : ¬ 9223372036854775807 < 2 + lr.length + 1 := by omega
  have h3 : ¬ 9223372036854775807 < 2 + lr.length + 1 + lc.length := by omega
  have h4 : ¬ 9223372036854775807 < 2 + lr.length + 1 + lc.length + 1 := by omega
  have HF0 : Hid (∀ dq osq, Below w.heap.size w (Go.Sort.grow (redrawn (w.alloc (.cells #[.int .i64 r, .int .i64 c] 24)) dq) osq)) := fun dq osq => H0.out.1.trans ((below_regrown _ dq osq).mono H0.out.1.size)
  clear x0 x1 C1 C2 C3 C4
  generalize w.alloc (.cells #[.int .i64 r, .int .i64 c] 24) = w0 at k1 k2 k3 k4 r0 r1 HF0 H0 ⊢
  clear H0
  refine wp_region_quiet_below HM.out (by kernel_rfl) ?_
  iterate 2 (go_big_quiet_step (fail))
  go_big_quiet_step (exact k1 _ _)
  go_big_quiet_step (fail)
  go_big_quiet_step (exact k2 _ _)
  iterate 4 (go_big_quiet_step (fail))
  go_big_quiet_step (exact k3 _ _)
  go_big_quiet_step (fail)
  go_big_quiet_step (exact k4 _ _)
  repeat (go_big_quiet_step (fail))
  refine wpQuiet_nil ?_
  intro _ hw'
  obtain ⟨⟨dq, osq⟩, hw''⟩ := hw'
  subst hw''
  have HF := HF0.out dq osq
  dsimp only
  generalize Go.Sort.grow (redrawn w0 dq) osq = wz at HF ⊢
  go_wp2
  go_ret
  exact ⟨rfl, HF⟩
end Go.Proofs.YtcgnfjcbafmbgaaDoor
