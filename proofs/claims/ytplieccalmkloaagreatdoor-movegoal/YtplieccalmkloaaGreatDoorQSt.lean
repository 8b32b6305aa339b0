/-
  A store that is only read, as package move has it; its ahead and behind, and stepped: steps one behind the other. Conditions: those of each theorem.
-/
import Derived.Test.YtplieccalmkloaaGreatDoorQMath
import Derived.Test.YtplieccalmkloaaGreatDoorTPlc
import Derived.Test.YtplieccalmkloaaGreatDoorWConC
namespace Go.Proofs.YtplieccalmkloaaGreatDoor.Sto
open Go.RowKit Go.Shelf Bod Wid
open Gap (gSlice gRng)

/-- a store, or none, with the text s -/
structure Sv (w : World) (v : Value) (s : ByteArray) : Prop where
  ex : ∃ x k K, Spt w v x k ∧ Hold w (Tx.or x) K ∧ K.text = s
  ev : Ev w
section
variable {w : World} {v : Value} {s : ByteArray}
theorem Sv.below (h : Sv w v s) {W : World} (hb : Below w.heap.size w W) : Sv W v s := by
  obtain ⟨x, k, K, h1, h2, h3⟩ := h.ex
  exact ⟨⟨x, k, K, h1.below hb, h2.below hb, h3⟩, h.ev.below hb⟩
theorem Sv.le (h : Sv w v s) : s.size ≤ 1073741824 := by
  obtain ⟨x, k, K, h1, h2, h3⟩ := h.ex
  rw [← h3]
  have := h2.size
  omega
theorem Sv.pcs (h : Sv w v s) : Pcs w v s s.size := by
  obtain ⟨x, k, K, h1, h2, rfl⟩ := h.ex
  exact pcs_of h1 h2
theorem Sv.tl (h : Sv w v s) : Tl w (.iface 23 v) s := by
  have hl := h.le
  obtain ⟨x, k, K, h1, h2, rfl⟩ := h.ex
  exact (vt_store h1 h2 h.ev).tl hl
theorem Sv.len (h : Sv w v s) : Calls Tryz.prog 69 #[v] w fun e W' => e = .returned (.int .i64 s.size) ∧ Below w.heap.size w W' := by
  obtain ⟨x, k, K, h1, h2, rfl⟩ := h.ex
  exact slen_any h1 h2
theorem Sv.slice (h : Sv w v s) {a b : Nat} (h1 : a ≤ b) (h2 : b ≤ s.size) : Calls Tryz.prog 133 #[v, .int .i64 a, .int .i64 b] w fun e W' => e = .returned (.tuple #[.string (s.extract a b), .int .i64 0]) ∧ Below w.heap.size w W' := by
  obtain ⟨x, k, K, k1, k2, rfl⟩ := h.ex
  have := sslice_any k1 k2 a b
  rw [gSlice_in h1 h2] at this
  exact this
theorem Sv.text (h : Sv w v s) : Calls Tryz.prog 36 #[v] w fun e W' => e = .returned (.string s) ∧ Below w.heap.size w W' := by
  obtain ⟨x, k, K, h1, h2, rfl⟩ := h.ex
  exact stext_any h1 h2
theorem Sv.snap (h : Sv w v s) (i : Int) (hi : i ≤ 9223372036854775807) : Calls Tryz.prog 22 #[v, .int .i64 i] w fun e W' => e = .returned (.int .i64 (snp s i : Nat)) ∧ Below w.heap.size w W' :=
  (snap_of h.pcs h.ev i hi).mono fun e W' ⟨m, q1, q2, q3⟩ => ⟨by rw [q1, q2.uniq (snp_is s i)], q3⟩
theorem Sv.prev (h : Sv w v s) (a : Nat) : Calls Tryz.prog 109 #[v, .int .i64 a] w fun e W' => e = .returned (.int .i64 (pvC s a : Nat)) ∧ Below w.heap.size w W' :=
  (prev_of h.pcs h.ev a).mono fun e W' ⟨m, q1, q2, q3⟩ => ⟨by rw [q1, q2.uniq (pvC_is s a)], q3⟩
theorem Sv.next (h : Sv w v s) (a : Nat) : Calls Tryz.prog 45 #[v, .int .i64 a] w fun e W' => e = .returned (.int .i64 (nxt s a : Nat)) ∧ Below w.heap.size w W' :=
  (next_of h.pcs h.ev a).mono fun e W' ⟨m, q1, q2, q3⟩ => ⟨by rw [q1, q2.uniq (nxt_is s a)], q3⟩
theorem held0 (x : ByteArray) : heldN x 0 = 0 := by unfold heldN; omega
theorem heldE (x : ByteArray) : heldN x x.size = x.size := by unfold heldN; omega
set_option maxRecDepth 100000 in
set_option maxHeartbeats 2000000 in
theorem mahead_any (h : Sv w v s) (a : Nat) (ha : cbZ s a = true) : Calls Tryz.prog 113 #[v, .int .i64 a] w fun e W' => e = .returned (.int .i64 (aheadW (words s) s.size a : Nat)) ∧ Below w.heap.size w W' := by
  have hn := h.le
  have hal := cb_le ha
  obtain ⟨n, hz⟩ : ∃ n, s.size = n := ⟨_, rfl⟩
  have HP : Hid (Sv w v s ∧ cbZ s a = true) := ⟨h, ha⟩
  obtain ⟨V, hV⟩ : ∃ V, aheadW (words s) s.size a = V := ⟨_, rfl⟩
  have HV : Hid (aheadW (words s) s.size a = V ∧ s.size = n) := ⟨hV, hz⟩
  rw [hV]
  rw [hz] at hn hal
  clear h ha hV hz
  have b1 : (a : Int) ≤ 1073741824 := by omega
  obtain ⟨M, hM⟩ : ∃ M : Nat, 2147483648 ≤ M ∧ M ≤ 2147483648 := ⟨2147483648, by omega, by omega⟩
  have HMM : Hid (2147483648 ≤ M ∧ M ≤ 2147483648) := hM
  clear hM
  have HB0 : Hid (Below w.heap.size w w) := Below.refl _ _
  go_enter Tryz.func113, Tryz.ntmps113
  go_wp2
  go_loopw [5] (fun t5 wr => ∃ r : Nat, t5 = .int .i64 r ∧ 64 ≤ r ∧ r ≤ M ∧ Hid (Below w.heap.size w wr)) (fun t5 _ => M - (intOf t5).toNat)
  case atStart => exact ⟨64, rfl, by omega, by have := HMM.out; omega, HB0⟩
  case round =>
    clear HB0
    obtain ⟨r, rfl, hr1, hr2, HB⟩ := hrel
    have hr4 : (r : Int) ≤ 2147483648 := by have := HMM.out; omega
    have hs := snp_is s ((a : Int) + r)
    obtain ⟨t, ht⟩ : ∃ t, snp s ((a : Int) + r) = t := ⟨_, rfl⟩
    rw [ht] at hs
    have hz := HV.out.2
    have hts := cb_le hs.cb
    have hat : a ≤ t := by rcases hs.up with e | ⟨e, e'⟩ <;> omega
    have htr : t = n ∨ (a + r ≤ t ∧ t ≤ n) := by rcases hs.up with e | ⟨e, e'⟩ <;> omega
    have hp := size_extract s a t hts
    obtain ⟨q, hq⟩ : ∃ q, aheadW (words (s.extract a t)) (s.extract a t).size 0 = q := ⟨_, rfl⟩
    have hql := (ahead_ok (s.extract a t) 0).2.1
    rw [hq] at hql
    have HM : Hid (a + q < t ∨ t = n → V = a + q) := fun hc => by
      rw [← HV.out.1, ← hq]
      refine ahead_piece HP.out.2 hs.cb hat ?_
      rw [hq, hz]; exact hc
    have C1 : Hid (∀ W, Hid (Below w.heap.size w W) → Calls Tryz.prog 22 #[v, .int .i64 ((a : Int) + r)] W fun e W' => e = .returned (.int .i64 t) ∧ Hid (Below w.heap.size w W')) := fun W hW => ((HP.out.1.below hW.out).snap _ (by omega)).mono fun e W' ⟨q1, q2⟩ => ⟨by rw [q1, ht], Below.on hW.out q2⟩
    have C2 : Hid (∀ W, Hid (Below w.heap.size w W) → Calls Tryz.prog 133 #[v, .int .i64 a, .int .i64 t] W fun e W' => e = .returned (.tuple #[.string (s.extract a t), .int .i64 0]) ∧ Hid (Below w.heap.size w W')) := fun W hW => ((HP.out.1.below hW.out).slice hat hts).mono fun e W' ⟨q1, q2⟩ => ⟨q1, Below.on hW.out q2⟩
    have C3 : Hid (∀ W, Hid (Below w.heap.size w W) → Calls Tryz.prog 135 #[.string (s.extract a t), .int .i64 0] W fun e W' => e = .returned (.int .i64 q) ∧ Hid (Below w.heap.size w W')) := fun W hW => (Go.Proofs.YtplieccalmkloaaGreatDoor.ahead_any (s.extract a t) 0 (by unfold maxLen; omega) W (HP.out.1.ev.below hW.out).t).mono fun e W' ⟨q1, q2⟩ => ⟨by rw [q1, held0, hq], Below.on hW.out q2⟩
    have C4 : Hid (∀ W, Hid (Below w.heap.size w W) → Calls Tryz.prog 69 #[v] W fun e W' => e = .returned (.int .i64 n) ∧ Hid (Below w.heap.size w W')) := fun W hW => ((HP.out.1.below hW.out).len).mono fun e W' ⟨q1, q2⟩ => ⟨by rw [q1, hz], Below.on hW.out q2⟩
    generalize s.extract a t = p at C2 C3 hp hql
    have b2 : (t : Int) ≤ 1073741824 ∧ (q : Int) ≤ 1073741824 := by omega
    clear hs ht hz hts hp hql hq
    by_cases c3 : a + q < t
    · have c4 : (a : Int) + q < t := by omega
      have HN : Hid (V = a + q) := HM.out (.inl c3)
      clear c3 HM HP HV C4
      go_wp2_with (first
        | (go_at_call 22; refine (C1.out _ HB).mono ?_; clear C1 HB; rintro e w1 ⟨rfl, HB⟩)
        | (go_at_call 133; refine (C2.out _ HB).mono ?_; clear C2 HB; rintro e w2 ⟨rfl, HB⟩)
        | (go_at_call 135; refine (C3.out _ HB).mono ?_; clear C3 HB; rintro e w3 ⟨rfl, HB⟩))
      go_ret
      exact ⟨ret_int (by rw [HN.out]; omega), HB.out⟩
    · have c4 : ¬ ((a : Int) + q < t) := by omega
      by_cases c5 : t = n
      · have HN : Hid (V = a + q) := HM.out (.inr c5)
        subst c5
        clear c3 HM HP HV
        go_wp2_with (first
          | (go_at_call 22; refine (C1.out _ HB).mono ?_; clear C1 HB; rintro e w1 ⟨rfl, HB⟩)
          | (go_at_call 133; refine (C2.out _ HB).mono ?_; clear C2 HB; rintro e w2 ⟨rfl, HB⟩)
          | (go_at_call 135; refine (C3.out _ HB).mono ?_; clear C3 HB; rintro e w3 ⟨rfl, HB⟩)
          | (go_at_call 69; refine (C4.out _ HB).mono ?_; clear C4 HB; rintro e w4 ⟨rfl, HB⟩))
        go_ret
        exact ⟨ret_int (by rw [HN.out]; omega), HB.out⟩
      · have c6 : ¬ ((t : Int) = n) := by omega
        have c7 : ((t : Int) == n) = false := by simp; omega
        have HR3 : Hid (r ≤ 1073741824) := by show r ≤ 1073741824; omega
        clear c3 HM htr
        go_wp2_with (first
          | (go_at_call 22; refine (C1.out _ HB).mono ?_; clear C1 HB; rintro e w1 ⟨rfl, HB⟩)
          | (go_at_call 133; refine (C2.out _ HB).mono ?_; clear C2 HB; rintro e w2 ⟨rfl, HB⟩)
          | (go_at_call 135; refine (C3.out _ HB).mono ?_; clear C3 HB; rintro e w3 ⟨rfl, HB⟩)
          | (go_at_call 69; refine (C4.out _ HB).mono ?_; clear C4 HB; rintro e w4 ⟨rfl, HB⟩))
        have hm2 := HMM.out
        have hm3 := HR3.out
        exact ⟨⟨r * 2, by go_num, by omega, by omega, HB⟩, by simp [intOf]; omega⟩
set_option maxRecDepth 100000 in
set_option maxHeartbeats 2000000 in
theorem mbehind_any (h : Sv w v s) (a : Nat) (ha : cbZ s a = true) : Calls Tryz.prog 111 #[v, .int .i64 a] w fun e W' => e = .returned (.int .i64 (behindW (words s) a : Nat)) ∧ Below w.heap.size w W' := by
  have hn := h.le
  have hal := cb_le ha
  obtain ⟨n, hz⟩ : ∃ n, s.size = n := ⟨_, rfl⟩
  have HP : Hid (Sv w v s ∧ cbZ s a = true) := ⟨h, ha⟩
  obtain ⟨V, hV⟩ : ∃ V, behindW (words s) a = V := ⟨_, rfl⟩
  have HV : Hid (behindW (words s) a = V ∧ s.size = n) := ⟨hV, hz⟩
  rw [hV]
  rw [hz] at hn hal
  clear h ha hV hz
  have b1 : (a : Int) ≤ 1073741824 := by omega
  obtain ⟨M, hM⟩ : ∃ M : Nat, 2147483648 ≤ M ∧ M ≤ 2147483648 := ⟨2147483648, by omega, by omega⟩
  have HMM : Hid (2147483648 ≤ M ∧ M ≤ 2147483648) := hM
  clear hM
  have HB0 : Hid (Below w.heap.size w w) := Below.refl _ _
  go_enter Tryz.func111, Tryz.ntmps111
  go_wp2
  go_loopw [5] (fun t5 wr => ∃ r : Nat, t5 = .int .i64 r ∧ 64 ≤ r ∧ r ≤ M ∧ Hid (Below w.heap.size w wr)) (fun t5 _ => M - (intOf t5).toNat)
  case atStart => exact ⟨64, rfl, by omega, by have := HMM.out; omega, HB0⟩
  case round =>
    clear HB0
    obtain ⟨r, rfl, hr1, hr2, HB⟩ := hrel
    have hr4 : (r : Int) ≤ 2147483648 := by have := HMM.out; omega
    have hs := snp_is s ((a : Int) - r)
    obtain ⟨f, hf⟩ : ∃ f, snp s ((a : Int) - r) = f := ⟨_, rfl⟩
    rw [hf] at hs
    have hz := HV.out.2
    have hfa : f ≤ a := by
      rcases Nat.lt_or_ge a f with e | e
      · have := hs.no a (by omega) (by omega); rw [HP.out.2] at this; cases this
      · exact e
    have hfr : f = 0 ∨ r ≤ a := by
      rcases Nat.lt_or_ge a r with e | e
      · refine .inl ?_
        rcases Nat.eq_zero_or_pos f with e2 | e2
        · exact e2
        · have := hs.no 0 (by omega) (by omega); rw [cb_zero] at this; cases this
      · exact .inr e
    have hp := size_extract s f a (by omega)
    obtain ⟨q, hq⟩ : ∃ q, behindW (words (s.extract f a)) (s.extract f a).size = q := ⟨_, rfl⟩
    have hql := (behind_ok (s.extract f a) (s.extract f a).size).2.1
    rw [hq] at hql
    have HM : Hid (0 < q ∨ f = 0 → V = f + q) := fun hc => by
      rw [← HV.out.1, ← hq]
      refine behind_piece hs.cb HP.out.2 hfa ?_
      rw [hq]; exact hc
    obtain ⟨m, hm⟩ : ∃ m, (s.extract f a).size = m := ⟨_, rfl⟩
    have C1 : Hid (∀ W, Hid (Below w.heap.size w W) → Calls Tryz.prog 22 #[v, .int .i64 ((a : Int) - r)] W fun e W' => e = .returned (.int .i64 f) ∧ Hid (Below w.heap.size w W')) := fun W hW => ((HP.out.1.below hW.out).snap _ (by omega)).mono fun e W' ⟨q1, q2⟩ => ⟨by rw [q1, hf], Below.on hW.out q2⟩
    have C2 : Hid (∀ W, Hid (Below w.heap.size w W) → Calls Tryz.prog 133 #[v, .int .i64 f, .int .i64 a] W fun e W' => e = .returned (.tuple #[.string (s.extract f a), .int .i64 0]) ∧ Hid (Below w.heap.size w W')) := fun W hW => ((HP.out.1.below hW.out).slice hfa (by omega)).mono fun e W' ⟨q1, q2⟩ => ⟨q1, Below.on hW.out q2⟩
    have C3 : Hid (∀ W, Hid (Below w.heap.size w W) → Calls Tryz.prog 134 #[.string (s.extract f a), .int .i64 (s.extract f a).size] W fun e W' => e = .returned (.int .i64 q) ∧ Hid (Below w.heap.size w W')) := fun W hW => (Go.Proofs.YtplieccalmkloaaGreatDoor.behind_any (s.extract f a) (s.extract f a).size (by unfold maxLen; omega) W (HP.out.1.ev.below hW.out).t).mono fun e W' ⟨q1, q2⟩ => ⟨by rw [q1, heldE, hq], Below.on hW.out q2⟩
    generalize s.extract f a = p at C2 C3 hp hql hq hm
    have b2 : (f : Int) ≤ 1073741824 ∧ (q : Int) ≤ 1073741824 := by omega
    clear hs hf hz hp hql hq hm
    by_cases c3 : 0 < q
    · have c4 : (f : Int) < (f : Int) + q := by omega
      have HN : Hid (V = f + q) := HM.out (.inl c3)
      clear HM HP HV
      go_wp2_with (first
        | (go_at_call 22; refine (C1.out _ HB).mono ?_; clear C1 HB; rintro e w1 ⟨rfl, HB⟩)
        | (go_at_call 133; refine (C2.out _ HB).mono ?_; clear C2 HB; rintro e w2 ⟨rfl, HB⟩)
        | (go_at_call 134; refine (C3.out _ HB).mono ?_; clear C3 HB; rintro e w3 ⟨rfl, HB⟩))
      go_ret
      exact ⟨ret_int (by rw [HN.out]; omega), HB.out⟩
    · obtain rfl : q = 0 := by omega
      by_cases c5 : f = 0
      · have HN : Hid (V = f + 0) := HM.out (.inr c5)
        subst c5
        clear c3 HM HP HV
        go_wp2_with (first
          | (go_at_call 22; refine (C1.out _ HB).mono ?_; clear C1 HB; rintro e w1 ⟨rfl, HB⟩)
          | (go_at_call 133; refine (C2.out _ HB).mono ?_; clear C2 HB; rintro e w2 ⟨rfl, HB⟩)
          | (go_at_call 134; refine (C3.out _ HB).mono ?_; clear C3 HB; rintro e w3 ⟨rfl, HB⟩))
        go_ret
        exact ⟨ret_int (by rw [HN.out]; omega), HB.out⟩
      · have c6 : ¬ ((f : Int) = 0) := by omega
        have c7 : ((f : Int) == 0) = false := by simp; omega
        have HR3 : Hid (r ≤ 1073741824) := by show r ≤ 1073741824; omega
        clear c3 HM hfr
        go_wp2_with (first
          | (go_at_call 22; refine (C1.out _ HB).mono ?_; clear C1 HB; rintro e w1 ⟨rfl, HB⟩)
          | (go_at_call 133; refine (C2.out _ HB).mono ?_; clear C2 HB; rintro e w2 ⟨rfl, HB⟩)
          | (go_at_call 134; refine (C3.out _ HB).mono ?_; clear C3 HB; rintro e w3 ⟨rfl, HB⟩))
        have hm2 := HMM.out
        have hm3 := HR3.out
        exact ⟨⟨r * 2, by go_num, by omega, by omega, HB⟩, by simp [intOf]; omega⟩
end
set_option maxRecDepth 100000 in
set_option maxHeartbeats 2000000 in
/-- steps one behind the other, by any function value whose answers are known where P holds -/
theorem stepped_any {w : World} (f : FuncId) (fst cap : Array Value) (en : ∀ args W, (callFunc f args).run Tryz.prog W = .ok (.enter f args) W) (g : Nat → Nat) (P : Nat → Prop) (e : Nat) (he : (e : Int) ≤ 1073741824)
    (hP : ∀ b, P b → b ≤ 1073741824 ∧ (b ≠ e → P (g b)))
    (C : ∀ W (b : Nat), Below w.heap.size w W → P b → Calls Tryz.prog f (fst ++ #[.int .i64 b] ++ cap) W fun r W' => r = .returned (.int .i64 (g b : Nat)) ∧ Below W.heap.size W W')
    (a c : Nat) (ha : P a) (hc : c ≤ 1000) : Calls Tryz.prog 108 #[.int .i64 a, .int .i64 e, .int .i64 c, .func (.func f) fst cap] w fun r W' => r = .returned (.tuple #[.int .i64 (itr g e c a : Nat), .bool (!decide ((a : Int) = e))]) ∧ Below w.heap.size w W' := by
  have HC : Hid (∀ W (b : Nat), Hid (Below w.heap.size w W) → P b → Calls Tryz.prog f (fst ++ #[.int .i64 b] ++ cap) W fun r W' => r = .returned (.int .i64 (g b : Nat)) ∧ Hid (Below w.heap.size w W')) := fun W b hW hb => (C W b hW.out hb).mono fun r W' ⟨q1, q2⟩ => ⟨q1, Below.on hW.out q2⟩
  have HP : Hid (∀ b, P b → b ≤ 1073741824 ∧ (b ≠ e → P (g b))) := hP
  have HA : Hid (P a) := ha
  have HB0 : Hid (Below w.heap.size w w) := Below.refl _ _
  obtain ⟨R, hR⟩ : ∃ R, itr g e c a = R := ⟨_, rfl⟩
  have HI : Hid (itr g e c a = R) := hR
  have hal := (hP a ha).1
  have hc' : (c : Int) ≤ 1000 := by omega
  rw [hR]
  clear C hP ha hR
  go_enter Tryz.func108, Tryz.ntmps108
  go_wp2
  go_loopw [0, 13] (fun t0 t13 wr => ∃ (b k : Nat), t0 = .int .i64 b ∧ t13 = .int .i64 k ∧ k ≤ c ∧ Hid (P b ∧ itr g e (c - k) b = R) ∧ Hid (Below w.heap.size w wr)) (fun _ t13 _ => c - (intOf t13).toNat)
  case atStart => exact ⟨a, 0, rfl, rfl, Nat.zero_le _, ⟨HA.out, HI.out⟩, HB0⟩
  case round =>
    clear HA HI HB0
    obtain ⟨b, k, rfl, rfl, hk, HQ, HB⟩ := hrel
    have hbl := (HP.out b HQ.out.1).1
    by_cases hlt : k < c
    · have hlt' : (k : Int) < c := by omega
      by_cases hbe : b = e
      · have HR : Hid (e = R) := by have := HQ.out.2; rw [hbe, itr_edge] at this; exact this
        subst hbe
        clear HQ
        go_wp2
        go_ret2
        exact ⟨by rw [← HR.out]; rfl, HB.out⟩
      · have hbe' : ¬ ((b : Int) = e) := by omega
        have hbe2 : ((b : Int) == e) = false := by simp; omega
        have HN : Hid (P (g b) ∧ itr g e (c - (k + 1)) (g b) = R) := by
          refine ⟨(HP.out b HQ.out.1).2 hbe, ?_⟩
          have := HQ.out.2
          rw [show c - k = (c - (k + 1)) + 1 by omega, itr_on _ hbe] at this
          exact this
        have CB : Hid (∀ W, Hid (Below w.heap.size w W) → Calls Tryz.prog f (fst ++ #[.int .i64 b] ++ cap) W fun r W' => r = .returned (.int .i64 (g b : Nat)) ∧ Hid (Below w.heap.size w W')) := fun W hW => HC.out W b hW HQ.out.1
        generalize g b = b' at HN CB
        clear HQ
        go_wp2_with (go_at_fn f; refine (CB.out _ HB).mono ?_; clear CB HB; rintro r w1 ⟨rfl, HB⟩)
        exact ⟨⟨b', k + 1, rfl, by go_num, by omega, HN, HB⟩, by simp [intOf]; omega⟩
    · have hlt' : ¬ ((k : Int) < c) := by omega
      have HR : Hid (b = R) := by have := HQ.out.2; rw [show c - k = 0 by omega] at this; exact this
      clear HQ
      go_wp2
      go_ret2
      exact ⟨by rw [← HR.out]; rfl, HB.out⟩
end Go.Proofs.YtplieccalmkloaaGreatDoor.Sto
