/-
  Package move, walked: words ahead and behind, the table, Go, Column and Place; the statements' own laid and goes. Conditions: those of each theorem.
-/
import Derived.Test.YtplieccalmkloaaGreatDoorPkQA
import Derived.Test.YtplieccalmkloaaGreatDoorTPlc
import Derived.Test.YtplieccalmkloaaGreatDoorPkWC
import Derived.Test.YtplieccalmkloaaGreatDoorPkVW
import Derived.Test.YtplieccalmkloaaGreatDoorKBase
import Derived.Test.YtplieccalmkloaaGreatDoorPkK
import Derived.Deep.Cut
import Derived.Test.YtplieccalmkloaaGreatDoorPkTB
namespace Go.Proofs.YtplieccalmkloaaGreatDoor.Sto
open Go.RowKit Go.Shelf Bod Wid
open Gap (gSlice gRng)

/-- a store, or none, with the text s -/
structure Sv (w : World) (v : Value) (s : ByteArray) : Prop where
  ex : ∃ x k K, Spt w v x k ∧ Hold w (Tx.or x) K ∧ K.text = s
  ev : Ev w
section
variable {w : World} {v : Value} {s : ByteArray}
theorem Sv.below (h : Sv w v s) {W : World} (hb : Below w.heap.size w W) : Sv W v s := by
  obtain ⟨x, k, K, h1, h2, h3⟩ := h.ex
  exact ⟨⟨x, k, K, h1.below hb, h2.below hb, h3⟩, h.ev.below hb⟩
theorem Sv.le (h : Sv w v s) : s.size ≤ 1073741824 := by
  obtain ⟨x, k, K, h1, h2, h3⟩ := h.ex
  rw [← h3]
  have := h2.size
  omega
theorem Sv.pcs (h : Sv w v s) : Pcs w v s s.size := by
  obtain ⟨x, k, K, h1, h2, rfl⟩ := h.ex
  exact pcs_of h1 h2
theorem Sv.tl (h : Sv w v s) : Tl w (.iface 23 v) s := by
  have hl := h.le
  obtain ⟨x, k, K, h1, h2, rfl⟩ := h.ex
  exact (vt_store h1 h2 h.ev).tl hl
theorem Sv.len (h : Sv w v s) : Calls Tryz.prog 69 #[v] w fun e W' => e = .returned (.int .i64 s.size) ∧ Below w.heap.size w W' := by
  obtain ⟨x, k, K, h1, h2, rfl⟩ := h.ex
  exact slen_any h1 h2
theorem Sv.slice (h : Sv w v s) {a b : Nat} (h1 : a ≤ b) (h2 : b ≤ s.size) : Calls Tryz.prog 133 #[v, .int .i64 a, .int .i64 b] w fun e W' => e = .returned (.tuple #[.string (s.extract a b), .int .i64 0]) ∧ Below w.heap.size w W' := by
  obtain ⟨x, k, K, k1, k2, rfl⟩ := h.ex
  have := sslice_any k1 k2 a b
  rw [gSlice_in h1 h2] at this
  exact this
theorem Sv.text (h : Sv w v s) : Calls Tryz.prog 36 #[v] w fun e W' => e = .returned (.string s) ∧ Below w.heap.size w W' := by
  obtain ⟨x, k, K, h1, h2, rfl⟩ := h.ex
  exact stext_any h1 h2
theorem Sv.snap (h : Sv w v s) (i : Int) (hi : i ≤ 9223372036854775807) : Calls Tryz.prog 22 #[v, .int .i64 i] w fun e W' => e = .returned (.int .i64 (snp s i : Nat)) ∧ Below w.heap.size w W' :=
  (snap_of h.pcs h.ev i hi).mono fun e W' ⟨m, q1, q2, q3⟩ => ⟨by rw [q1, q2.uniq (snp_is s i)], q3⟩
theorem Sv.prev (h : Sv w v s) (a : Nat) : Calls Tryz.prog 109 #[v, .int .i64 a] w fun e W' => e = .returned (.int .i64 (pvC s a : Nat)) ∧ Below w.heap.size w W' :=
  (prev_of h.pcs h.ev a).mono fun e W' ⟨m, q1, q2, q3⟩ => ⟨by rw [q1, q2.uniq (pvC_is s a)], q3⟩
theorem Sv.next (h : Sv w v s) (a : Nat) : Calls Tryz.prog 45 #[v, .int .i64 a] w fun e W' => e = .returned (.int .i64 (nxt s a : Nat)) ∧ Below w.heap.size w W' :=
  (next_of h.pcs h.ev a).mono fun e W' ⟨m, q1, q2, q3⟩ => ⟨by rw [q1, q2.uniq (nxt_is s a)], q3⟩
theorem held0 (x : ByteArray) : heldN x 0 = 0 := by unfold heldN; omega
theorem heldE (x : ByteArray) : heldN x x.size = x.size := by unfold heldN; omega
set_option maxRecDepth 100000 in
set_option maxHeartbeats 2000000 in
theorem mahead_any (h : Sv w v s) (a : Nat) (ha : cbZ s a = true) : Calls Tryz.prog 113 #[v, .int .i64 a] w fun e W' => e = .returned (.int .i64 (aheadW (words s) s.size a : Nat)) ∧ Below w.heap.size w W' := by
  have hn := h.le
  have hal := cb_le ha
  obtain ⟨n, hz⟩ : ∃ n, s.size = n := ⟨_, rfl⟩
  have HP : Hid (Sv w v s ∧ cbZ s a = true) := ⟨h, ha⟩
  obtain ⟨V, hV⟩ : ∃ V, aheadW (words s) s.size a = V := ⟨_, rfl⟩
  have HV : Hid (aheadW (words s) s.size a = V ∧ s.size = n) := ⟨hV, hz⟩
  rw [hV]
  rw [hz] at hn hal
  clear h ha hV hz
  have b1 : (a : Int) ≤ 1073741824 := by omega
  obtain ⟨M, hM⟩ : ∃ M : Nat, 2147483648 ≤ M ∧ M ≤ 2147483648 := ⟨2147483648, by omega, by omega⟩
  have HMM : Hid (2147483648 ≤ M ∧ M ≤ 2147483648) := hM
  clear hM
  have HB0 : Hid (Below w.heap.size w w) := Below.refl _ _
  go_enter Tryz.func113, Tryz.ntmps113
  go_wp2
  go_loopw [5] (fun t5 wr => ∃ r : Nat, t5 = .int .i64 r ∧ 64 ≤ r ∧ r ≤ M ∧ Hid (Below w.heap.size w wr)) (fun t5 _ => M - (intOf t5).toNat)
  case atStart => exact ⟨64, rfl, by omega, by have := HMM.out; omega, HB0⟩
  case round =>
    clear HB0
    obtain ⟨r, rfl, hr1, hr2, HB⟩ := hrel
    have hr4 : (r : Int) ≤ 2147483648 := by have := HMM.out; omega
    have hs := snp_is s ((a : Int) + r)
    obtain ⟨t, ht⟩ : ∃ t, snp s ((a : Int) + r) = t := ⟨_, rfl⟩
    rw [ht] at hs
    have hz := HV.out.2
    have hts := cb_le hs.cb
    have hat : a ≤ t := by rcases hs.up with e | ⟨e, e'⟩ <;> omega
    have htr : t = n ∨ (a + r ≤ t ∧ t ≤ n) := by rcases hs.up with e | ⟨e, e'⟩ <;> omega
    have hp := size_extract s a t hts
    obtain ⟨q, hq⟩ : ∃ q, aheadW (words (s.extract a t)) (s.extract a t).size 0 = q := ⟨_, rfl⟩
    have hql := (ahead_ok (s.extract a t) 0).2.1
    rw [hq] at hql
    have HM : Hid (a + q < t ∨ t = n → V = a + q) := fun hc => by
      rw [← HV.out.1, ← hq]
      refine ahead_piece HP.out.2 hs.cb hat ?_
      rw [hq, hz]; exact hc
    have C1 : Hid (∀ W, Hid (Below w.heap.size w W) → Calls Tryz.prog 22 #[v, .int .i64 ((a : Int) + r)] W fun e W' => e = .returned (.int .i64 t) ∧ Hid (Below w.heap.size w W')) := fun W hW => ((HP.out.1.below hW.out).snap _ (by omega)).mono fun e W' ⟨q1, q2⟩ => ⟨by rw [q1, ht], Below.on hW.out q2⟩
    have C2 : Hid (∀ W, Hid (Below w.heap.size w W) → Calls Tryz.prog 133 #[v, .int .i64 a, .int .i64 t] W fun e W' => e = .returned (.tuple #[.string (s.extract a t), .int .i64 0]) ∧ Hid (Below w.heap.size w W')) := fun W hW => ((HP.out.1.below hW.out).slice hat hts).mono fun e W' ⟨q1, q2⟩ => ⟨q1, Below.on hW.out q2⟩
    have C3 : Hid (∀ W, Hid (Below w.heap.size w W) → Calls Tryz.prog 135 #[.string (s.extract a t), .int .i64 0] W fun e W' => e = .returned (.int .i64 q) ∧ Hid (Below w.heap.size w W')) := fun W hW => (Go.Proofs.YtplieccalmkloaaGreatDoor.ahead_any (s.extract a t) 0 (by unfold maxLen; omega) W (HP.out.1.ev.below hW.out).t).mono fun e W' ⟨q1, q2⟩ => ⟨by rw [q1, held0, hq], Below.on hW.out q2⟩
    have C4 : Hid (∀ W, Hid (Below w.heap.size w W) → Calls Tryz.prog 69 #[v] W fun e W' => e = .returned (.int .i64 n) ∧ Hid (Below w.heap.size w W')) := fun W hW => ((HP.out.1.below hW.out).len).mono fun e W' ⟨q1, q2⟩ => ⟨by rw [q1, hz], Below.on hW.out q2⟩
    generalize s.extract a t = p at C2 C3 hp hql
    have b2 : (t : Int) ≤ 1073741824 ∧ (q : Int) ≤ 1073741824 := by omega
    clear hs ht hz hts hp hql hq
    by_cases c3 : a + q < t
    · have c4 : (a : Int) + q < t := by omega
      have HN : Hid (V = a + q) := HM.out (.inl c3)
      clear c3 HM HP HV C4
      go_wp2_with (first
        | (go_at_call 22; refine (C1.out _ HB).mono ?_; clear C1 HB; rintro e w1 ⟨rfl, HB⟩)
        | (go_at_call 133; refine (C2.out _ HB).mono ?_; clear C2 HB; rintro e w2 ⟨rfl, HB⟩)
        | (go_at_call 135; refine (C3.out _ HB).mono ?_; clear C3 HB; rintro e w3 ⟨rfl, HB⟩))
      go_ret
      exact ⟨ret_int (by rw [HN.out]; omega), HB.out⟩
    · have c4 : ¬ ((a : Int) + q < t) := by omega
      by_cases c5 : t = n
      · have HN : Hid (V = a + q) := HM.out (.inr c5)
        subst c5
        clear c3 HM HP HV
        go_wp2_with (first
          | (go_at_call 22; refine (C1.out _ HB).mono ?_; clear C1 HB; rintro e w1 ⟨rfl, HB⟩)
          | (go_at_call 133; refine (C2.out _ HB).mono ?_; clear C2 HB; rintro e w2 ⟨rfl, HB⟩)
          | (go_at_call 135; refine (C3.out _ HB).mono ?_; clear C3 HB; rintro e w3 ⟨rfl, HB⟩)
          | (go_at_call 69; refine (C4.out _ HB).mono ?_; clear C4 HB; rintro e w4 ⟨rfl, HB⟩))
        go_ret
        exact ⟨ret_int (by rw [HN.out]; omega), HB.out⟩
      · have c6 : ¬ ((t : Int) = n) := by omega
        have c7 : ((t : Int) == n) = false := by simp; omega
        have HR3 : Hid (r ≤ 1073741824) := by show r ≤ 1073741824; omega
        clear c3 HM htr
        go_wp2_with (first
          | (go_at_call 22; refine (C1.out _ HB).mono ?_; clear C1 HB; rintro e w1 ⟨rfl, HB⟩)
          | (go_at_call 133; refine (C2.out _ HB).mono ?_; clear C2 HB; rintro e w2 ⟨rfl, HB⟩)
          | (go_at_call 135; refine (C3.out _ HB).mono ?_; clear C3 HB; rintro e w3 ⟨rfl, HB⟩)
          | (go_at_call 69; refine (C4.out _ HB).mono ?_; clear C4 HB; rintro e w4 ⟨rfl, HB⟩))
        have hm2 := HMM.out
        have hm3 := HR3.out
        exact ⟨⟨r * 2, by go_num, by omega, by omega, HB⟩, by simp [intOf]; omega⟩
set_option maxRecDepth 100000 in
set_option maxHeartbeats 2000000 in
theorem mbehind_any (h : Sv w v s) (a : Nat) (ha : cbZ s a = true) : Calls Tryz.prog 111 #[v, .int .i64 a] w fun e W' => e = .returned (.int .i64 (behindW (words s) a : Nat)) ∧ Below w.heap.size w W' := by
  have hn := h.le
  have hal := cb_le ha
  obtain ⟨n, hz⟩ : ∃ n, s.size = n := ⟨_, rfl⟩
  have HP : Hid (Sv w v s ∧ cbZ s a = true) := ⟨h, ha⟩
  obtain ⟨V, hV⟩ : ∃ V, behindW (words s) a = V := ⟨_, rfl⟩
  have HV : Hid (behindW (words s) a = V ∧ s.size = n) := ⟨hV, hz⟩
  rw [hV]
  rw [hz] at hn hal
  clear h ha hV hz
  have b1 : (a : Int) ≤ 1073741824 := by omega
  obtain ⟨M, hM⟩ : ∃ M : Nat, 2147483648 ≤ M ∧ M ≤ 2147483648 := ⟨2147483648, by omega, by omega⟩
  have HMM : Hid (2147483648 ≤ M ∧ M ≤ 2147483648) := hM
  clear hM
  have HB0 : Hid (Below w.heap.size w w) := Below.refl _ _
  go_enter Tryz.func111, Tryz.ntmps111
  go_wp2
  go_loopw [5] (fun t5 wr => ∃ r : Nat, t5 = .int .i64 r ∧ 64 ≤ r ∧ r ≤ M ∧ Hid (Below w.heap.size w wr)) (fun t5 _ => M - (intOf t5).toNat)
  case atStart => exact ⟨64, rfl, by omega, by have := HMM.out; omega, HB0⟩
  case round =>
    clear HB0
    obtain ⟨r, rfl, hr1, hr2, HB⟩ := hrel
    have hr4 : (r : Int) ≤ 2147483648 := by have := HMM.out; omega
    have hs := snp_is s ((a : Int) - r)
    obtain ⟨f, hf⟩ : ∃ f, snp s ((a : Int) - r) = f := ⟨_, rfl⟩
    rw [hf] at hs
    have hz := HV.out.2
    have hfa : f ≤ a := by
      rcases Nat.lt_or_ge a f with e | e
      · have := hs.no a (by omega) (by omega); rw [HP.out.2] at this; cases this
      · exact e
    have hfr : f = 0 ∨ r ≤ a := by
      rcases Nat.lt_or_ge a r with e | e
      · refine .inl ?_
        rcases Nat.eq_zero_or_pos f with e2 | e2
        · exact e2
        · have := hs.no 0 (by omega) (by omega); rw [cb_zero] at this; cases this
      · exact .inr e
    have hp := size_extract s f a (by omega)
    obtain ⟨q, hq⟩ : ∃ q, behindW (words (s.extract f a)) (s.extract f a).size = q := ⟨_, rfl⟩
    have hql := (behind_ok (s.extract f a) (s.extract f a).size).2.1
    rw [hq] at hql
    have HM : Hid (0 < q ∨ f = 0 → V = f + q) := fun hc => by
      rw [← HV.out.1, ← hq]
      refine behind_piece hs.cb HP.out.2 hfa ?_
      rw [hq]; exact hc
    obtain ⟨m, hm⟩ : ∃ m, (s.extract f a).size = m := ⟨_, rfl⟩
    have C1 : Hid (∀ W, Hid (Below w.heap.size w W) → Calls Tryz.prog 22 #[v, .int .i64 ((a : Int) - r)] W fun e W' => e = .returned (.int .i64 f) ∧ Hid (Below w.heap.size w W')) := fun W hW => ((HP.out.1.below hW.out).snap _ (by omega)).mono fun e W' ⟨q1, q2⟩ => ⟨by rw [q1, hf], Below.on hW.out q2⟩
    have C2 : Hid (∀ W, Hid (Below w.heap.size w W) → Calls Tryz.prog 133 #[v, .int .i64 f, .int .i64 a] W fun e W' => e = .returned (.tuple #[.string (s.extract f a), .int .i64 0]) ∧ Hid (Below w.heap.size w W')) := fun W hW => ((HP.out.1.below hW.out).slice hfa (by omega)).mono fun e W' ⟨q1, q2⟩ => ⟨q1, Below.on hW.out q2⟩
    have C3 : Hid (∀ W, Hid (Below w.heap.size w W) → Calls Tryz.prog 134 #[.string (s.extract f a), .int .i64 (s.extract f a).size] W fun e W' => e = .returned (.int .i64 q) ∧ Hid (Below w.heap.size w W')) := fun W hW => (Go.Proofs.YtplieccalmkloaaGreatDoor.behind_any (s.extract f a) (s.extract f a).size (by unfold maxLen; omega) W (HP.out.1.ev.below hW.out).t).mono fun e W' ⟨q1, q2⟩ => ⟨by rw [q1, heldE, hq], Below.on hW.out q2⟩
    generalize s.extract f a = p at C2 C3 hp hql hq hm
    have b2 : (f : Int) ≤ 1073741824 ∧ (q : Int) ≤ 1073741824 := by omega
    clear hs hf hz hp hql hq hm
    by_cases c3 : 0 < q
    · have c4 : (f : Int) < (f : Int) + q := by omega
      have HN : Hid (V = f + q) := HM.out (.inl c3)
      clear HM HP HV
      go_wp2_with (first
        | (go_at_call 22; refine (C1.out _ HB).mono ?_; clear C1 HB; rintro e w1 ⟨rfl, HB⟩)
        | (go_at_call 133; refine (C2.out _ HB).mono ?_; clear C2 HB; rintro e w2 ⟨rfl, HB⟩)
        | (go_at_call 134; refine (C3.out _ HB).mono ?_; clear C3 HB; rintro e w3 ⟨rfl, HB⟩))
      go_ret
      exact ⟨ret_int (by rw [HN.out]; omega), HB.out⟩
    · obtain rfl : q = 0 := by omega
      by_cases c5 : f = 0
      · have HN : Hid (V = f + 0) := HM.out (.inr c5)
        subst c5
        clear c3 HM HP HV
        go_wp2_with (first
          | (go_at_call 22; refine (C1.out _ HB).mono ?_; clear C1 HB; rintro e w1 ⟨rfl, HB⟩)
          | (go_at_call 133; refine (C2.out _ HB).mono ?_; clear C2 HB; rintro e w2 ⟨rfl, HB⟩)
          | (go_at_call 134; refine (C3.out _ HB).mono ?_; clear C3 HB; rintro e w3 ⟨rfl, HB⟩))
        go_ret
        exact ⟨ret_int (by rw [HN.out]; omega), HB.out⟩
      · have c6 : ¬ ((f : Int) = 0) := by omega
        have c7 : ((f : Int) == 0) = false := by simp; omega
        have HR3 : Hid (r ≤ 1073741824) := by show r ≤ 1073741824; omega
        clear c3 HM hfr
        go_wp2_with (first
          | (go_at_call 22; refine (C1.out _ HB).mono ?_; clear C1 HB; rintro e w1 ⟨rfl, HB⟩)
          | (go_at_call 133; refine (C2.out _ HB).mono ?_; clear C2 HB; rintro e w2 ⟨rfl, HB⟩)
          | (go_at_call 134; refine (C3.out _ HB).mono ?_; clear C3 HB; rintro e w3 ⟨rfl, HB⟩))
        have hm2 := HMM.out
        have hm3 := HR3.out
        exact ⟨⟨r * 2, by go_num, by omega, by omega, HB⟩, by simp [intOf]; omega⟩
end
set_option maxRecDepth 100000 in
set_option maxHeartbeats 2000000 in
/-- steps one behind the other, by any function value whose answers are known where P holds -/
theorem stepped_any {w : World} (f : FuncId) (fst cap : Array Value) (en : ∀ args W, (callFunc f args).run Tryz.prog W = .ok (.enter f args) W) (g : Nat → Nat) (P : Nat → Prop) (e : Nat) (he : (e : Int) ≤ 1073741824)
    (hP : ∀ b, P b → b ≤ 1073741824 ∧ (b ≠ e → P (g b)))
    (C : ∀ W (b : Nat), Below w.heap.size w W → P b → Calls Tryz.prog f (fst ++ #[.int .i64 b] ++ cap) W fun r W' => r = .returned (.int .i64 (g b : Nat)) ∧ Below W.heap.size W W')
    (a c : Nat) (ha : P a) (hc : c ≤ 1000) : Calls Tryz.prog 108 #[.int .i64 a, .int .i64 e, .int .i64 c, .func (.func f) fst cap] w fun r W' => r = .returned (.tuple #[.int .i64 (itr g e c a : Nat), .bool (!decide ((a : Int) = e))]) ∧ Below w.heap.size w W' := by
  have HC : Hid (∀ W (b : Nat), Hid (Below w.heap.size w W) → P b → Calls Tryz.prog f (fst ++ #[.int .i64 b] ++ cap) W fun r W' => r = .returned (.int .i64 (g b : Nat)) ∧ Hid (Below w.heap.size w W')) := fun W b hW hb => (C W b hW.out hb).mono fun r W' ⟨q1, q2⟩ => ⟨q1, Below.on hW.out q2⟩
  have HP : Hid (∀ b, P b → b ≤ 1073741824 ∧ (b ≠ e → P (g b))) := hP
  have HA : Hid (P a) := ha
  have HB0 : Hid (Below w.heap.size w w) := Below.refl _ _
  obtain ⟨R, hR⟩ : ∃ R, itr g e c a = R := ⟨_, rfl⟩
  have HI : Hid (itr g e c a = R) := hR
  have hal := (hP a ha).1
  have hc' : (c : Int) ≤ 1000 := by omega
  rw [hR]
  clear C hP ha hR
  go_enter Tryz.func108, Tryz.ntmps108
  go_wp2
  go_loopw [0, 13] (fun t0 t13 wr => ∃ (b k : Nat), t0 = .int .i64 b ∧ t13 = .int .i64 k ∧ k ≤ c ∧ Hid (P b ∧ itr g e (c - k) b = R) ∧ Hid (Below w.heap.size w wr)) (fun _ t13 _ => c - (intOf t13).toNat)
  case atStart => exact ⟨a, 0, rfl, rfl, Nat.zero_le _, ⟨HA.out, HI.out⟩, HB0⟩
  case round =>
    clear HA HI HB0
    obtain ⟨b, k, rfl, rfl, hk, HQ, HB⟩ := hrel
    have hbl := (HP.out b HQ.out.1).1
    by_cases hlt : k < c
    · have hlt' : (k : Int) < c := by omega
      by_cases hbe : b = e
      · have HR : Hid (e = R) := by have := HQ.out.2; rw [hbe, itr_edge] at this; exact this
        subst hbe
        clear HQ
        go_wp2
        go_ret2
        exact ⟨by rw [← HR.out]; rfl, HB.out⟩
      · have hbe' : ¬ ((b : Int) = e) := by omega
        have hbe2 : ((b : Int) == e) = false := by simp; omega
        have HN : Hid (P (g b) ∧ itr g e (c - (k + 1)) (g b) = R) := by
          refine ⟨(HP.out b HQ.out.1).2 hbe, ?_⟩
          have := HQ.out.2
          rw [show c - k = (c - (k + 1)) + 1 by omega, itr_on _ hbe] at this
          exact this
        have CB : Hid (∀ W, Hid (Below w.heap.size w W) → Calls Tryz.prog f (fst ++ #[.int .i64 b] ++ cap) W fun r W' => r = .returned (.int .i64 (g b : Nat)) ∧ Hid (Below w.heap.size w W')) := fun W hW => HC.out W b hW HQ.out.1
        generalize g b = b' at HN CB
        clear HQ
        go_wp2_with (go_at_fn f; refine (CB.out _ HB).mono ?_; clear CB HB; rintro r w1 ⟨rfl, HB⟩)
        exact ⟨⟨b', k + 1, rfl, by go_num, by omega, HN, HB⟩, by simp [intOf]; omega⟩
    · have hlt' : ¬ ((k : Int) < c) := by omega
      have HR : Hid (b = R) := by have := HQ.out.2; rw [show c - k = 0 by omega] at this; exact this
      clear HQ
      go_wp2
      go_ret2
      exact ⟨by rw [← HR.out]; rfl, HB.out⟩
end Go.Proofs.YtplieccalmkloaaGreatDoor.Sto
namespace Go.Proofs.YtplieccalmkloaaGreatDoor.Sto
open Go.RowKit Go.Great Go.Shelf Wid

/-- the motions: kind, function, whether it goes by a column -/
def mot : List (Int × Nat × Bool) := [(4, 78, false), (5, 79, false), (6, 80, false), (7, 81, false), (8, 82, false), (9, 83, false), (10, 84, true), (11, 85, true), (12, 86, false), (13, 87, false)]
def mrow (p : Int × Nat × Bool) : Value := .agg #[.int .i64 p.1, .func (.func p.2.1) #[] #[], .bool p.2.2]
def mcells : Array Value := (mot.flatMap fun p => [Value.int .i64 p.1, .func (.func p.2.1) #[] #[], .bool p.2.2]).toArray
def mzero : Array Value := ((List.replicate 10 [Value.int .i64 0, .nilFunc, .bool false]).flatten).toArray
set_option maxRecDepth 100000 in
set_option maxHeartbeats 2000000 in
theorem motions_any (w : World) : Calls Tryz.prog 43 #[] w fun e w' => e = .returned (.agg mcells) ∧ Below w.heap.size w w' := by
  refine calls_of_wp Tryz.func43 rfl ?_
  apply wp_seq_k; intro K0 hK0
  apply wp_region_lit
  refine wpList_allocTo rfl (some 0) rfl (.pointer (some ⟨w.heap.size, 0, none⟩)) (.cells mzero 91) (by as_aux_lemma => kernel_rfl) ?_
  apply wpList_nil
  refine hK0 _ _ ?_
  clear hK0
  apply wp_seq_k; intro K1 hK1
  apply wp_region_lit
  refine wpList_buildTo rfl 61 _ rfl (some 1) rfl #[.int .i64 4, .func (.func 78) #[] #[], .bool false] (by as_aux_lemma => kernel_rfl) ?_
  refine wpList_buildTo rfl 61 _ rfl (some 2) rfl #[.int .i64 5, .func (.func 79) #[] #[], .bool false] (by as_aux_lemma => kernel_rfl) ?_
  refine wpList_buildTo rfl 61 _ rfl (some 3) rfl #[.int .i64 6, .func (.func 80) #[] #[], .bool false] (by as_aux_lemma => kernel_rfl) ?_
  refine wpList_buildTo rfl 61 _ rfl (some 4) rfl #[.int .i64 7, .func (.func 81) #[] #[], .bool false] (by as_aux_lemma => kernel_rfl) ?_
  refine wpList_buildTo rfl 61 _ rfl (some 5) rfl #[.int .i64 8, .func (.func 82) #[] #[], .bool false] (by as_aux_lemma => kernel_rfl) ?_
  refine wpList_buildTo rfl 61 _ rfl (some 6) rfl #[.int .i64 9, .func (.func 83) #[] #[], .bool false] (by as_aux_lemma => kernel_rfl) ?_
  refine wpList_buildTo rfl 61 _ rfl (some 7) rfl #[.int .i64 10, .func (.func 84) #[] #[], .bool true] (by as_aux_lemma => kernel_rfl) ?_
  refine wpList_buildTo rfl 61 _ rfl (some 8) rfl #[.int .i64 11, .func (.func 85) #[] #[], .bool true] (by as_aux_lemma => kernel_rfl) ?_
  refine wpList_buildTo rfl 61 _ rfl (some 9) rfl #[.int .i64 12, .func (.func 86) #[] #[], .bool false] (by as_aux_lemma => kernel_rfl) ?_
  refine wpList_buildTo rfl 61 _ rfl (some 10) rfl #[.int .i64 13, .func (.func 87) #[] #[], .bool false] (by as_aux_lemma => kernel_rfl) ?_
  refine wpList_buildTo rfl 91 _ rfl (some 11) rfl mcells (by as_aux_lemma => kernel_rfl) ?_
  refine wpList_store_rowTo rfl 91 _ _ rfl rfl w.heap.size mcells (by as_aux_lemma => kernel_rfl) (by as_aux_lemma => kernel_rfl) 91 mzero Array.getElem?_push_size (by as_aux_lemma => kernel_rfl) (by as_aux_lemma => kernel_rfl) (by as_aux_lemma => kernel_rfl) ?_
  apply wpList_nil
  refine hK1 _ _ ?_
  clear hK1
  rw [setRow_alloc]
  refine wp_ret (bodyPost_ret (res_arr (t := 91) (e := 61) (n := 10) (d := 0) (i := ((Tryz.prog.info? 91).getD default)) (by as_aux_lemma => kernel_rfl) (by as_aux_lemma => kernel_rfl) (by as_aux_lemma => kernel_rfl) _ w _ (by as_aux_lemma => kernel_rfl) (by as_aux_lemma => kernel_rfl)) (by as_aux_lemma => kernel_rfl) ⟨rfl, (Below.refl _ w).alloc (Nat.le_refl _) _⟩)

theorem ix10 (w : World) : ∀ (i : Nat) (p : Int × Nat × Bool), mot[i]? = some p → (Instr.index 91 (.agg mcells) (.int .i64 i)).run Tryz.prog w = .ok (mrow p) w := by
  intro i p h
  have hi : i < 10 := (List.getElem?_eq_some_iff.1 h).1
  by_cases h0 : i = 0
  · have e : ∀ w : World, (Instr.index 91 (.agg mcells) (.int .i64 0)).run Tryz.prog w = .ok (mrow (4, 78, false)) w := fun w => by kernel_rfl
    subst h0
    rw [← (Option.some.inj h : ((4 : Int), (78 : Nat), false) = p)]
    exact e w
  by_cases h1 : i = 1
  · have e : ∀ w : World, (Instr.index 91 (.agg mcells) (.int .i64 1)).run Tryz.prog w = .ok (mrow (5, 79, false)) w := fun w => by kernel_rfl
    subst h1
    rw [← (Option.some.inj h : ((5 : Int), (79 : Nat), false) = p)]
    exact e w
  by_cases h2 : i = 2
  · have e : ∀ w : World, (Instr.index 91 (.agg mcells) (.int .i64 2)).run Tryz.prog w = .ok (mrow (6, 80, false)) w := fun w => by kernel_rfl
    subst h2
    rw [← (Option.some.inj h : ((6 : Int), (80 : Nat), false) = p)]
    exact e w
  by_cases h3 : i = 3
  · have e : ∀ w : World, (Instr.index 91 (.agg mcells) (.int .i64 3)).run Tryz.prog w = .ok (mrow (7, 81, false)) w := fun w => by kernel_rfl
    subst h3
    rw [← (Option.some.inj h : ((7 : Int), (81 : Nat), false) = p)]
    exact e w
  by_cases h4 : i = 4
  · have e : ∀ w : World, (Instr.index 91 (.agg mcells) (.int .i64 4)).run Tryz.prog w = .ok (mrow (8, 82, false)) w := fun w => by kernel_rfl
    subst h4
    rw [← (Option.some.inj h : ((8 : Int), (82 : Nat), false) = p)]
    exact e w
  by_cases h5 : i = 5
  · have e : ∀ w : World, (Instr.index 91 (.agg mcells) (.int .i64 5)).run Tryz.prog w = .ok (mrow (9, 83, false)) w := fun w => by kernel_rfl
    subst h5
    rw [← (Option.some.inj h : ((9 : Int), (83 : Nat), false) = p)]
    exact e w
  by_cases h6 : i = 6
  · have e : ∀ w : World, (Instr.index 91 (.agg mcells) (.int .i64 6)).run Tryz.prog w = .ok (mrow (10, 84, true)) w := fun w => by kernel_rfl
    subst h6
    rw [← (Option.some.inj h : ((10 : Int), (84 : Nat), true) = p)]
    exact e w
  by_cases h7 : i = 7
  · have e : ∀ w : World, (Instr.index 91 (.agg mcells) (.int .i64 7)).run Tryz.prog w = .ok (mrow (11, 85, true)) w := fun w => by kernel_rfl
    subst h7
    rw [← (Option.some.inj h : ((11 : Int), (85 : Nat), true) = p)]
    exact e w
  by_cases h8 : i = 8
  · have e : ∀ w : World, (Instr.index 91 (.agg mcells) (.int .i64 8)).run Tryz.prog w = .ok (mrow (12, 86, false)) w := fun w => by kernel_rfl
    subst h8
    rw [← (Option.some.inj h : ((12 : Int), (86 : Nat), false) = p)]
    exact e w
  by_cases h9 : i = 9
  · have e : ∀ w : World, (Instr.index 91 (.agg mcells) (.int .i64 9)).run Tryz.prog w = .ok (mrow (13, 87, false)) w := fun w => by kernel_rfl
    subst h9
    rw [← (Option.some.inj h : ((13 : Int), (87 : Nat), false) = p)]
    exact e w
  omega
/-- the answer's box of motionOf -/
structure Mob (w : World) (W : World) : Prop where
  bel : Below w.heap.size w W
  r : W.heap[w.heap.size]? = some (.cells #[.int .i64 0, .nilFunc, .bool false] 61 (0, 0))
theorem Mob.below {w W X : World} (h : Mob w W) (hb : Below W.heap.size W X) : Mob w X :=
  ⟨Below.on h.bel hb, (hb.block _ (Array.getElem?_eq_some_iff.1 h.r).1).trans h.r⟩
theorem Mob.get {w W : World} (h : Mob w W) : (W.cell? ⟨w.heap.size, 0, none⟩ = some (.int .i64 0) ∧ W.cell? ⟨w.heap.size, 1, none⟩ = some .nilFunc ∧ W.cell? ⟨w.heap.size, 2, none⟩ = some (.bool false)) ∧ W.frozen? ⟨w.heap.size, 0, none⟩ = false ∧ W.frozen? ⟨w.heap.size, 1, none⟩ = false ∧ W.frozen? ⟨w.heap.size, 2, none⟩ = false ∧ w.heap.size < W.heap.size :=
  ⟨⟨by simp [World.cell?, h.r], by simp [World.cell?, h.r], by simp [World.cell?, h.r]⟩, by simp [World.frozen?, h.r], by simp [World.frozen?, h.r], by simp [World.frozen?, h.r], (Array.getElem?_eq_some_iff.1 h.r).1⟩
theorem Mob.set {w W : World} (h : Mob w W) (a b c : Value) : Below w.heap.size w (((W.setCell ⟨w.heap.size, 0, none⟩ a).setCell ⟨w.heap.size, 1, none⟩ b).setCell ⟨w.heap.size, 2, none⟩ c) ∧ (((W.setCell ⟨w.heap.size, 0, none⟩ a).setCell ⟨w.heap.size, 1, none⟩ b).setCell ⟨w.heap.size, 2, none⟩ c).heap[w.heap.size]? = some (.cells #[a, b, c] 61 (0, 0)) := by
  have s1 := set1 (i := 0) a h.r
  have s2 := set1 (i := 1) b s1
  have s3 := set1 (i := 2) c s2
  exact ⟨((h.bel.setCell (p := ⟨w.heap.size, 0, none⟩) (by simp) _).setCell (p := ⟨w.heap.size, 1, none⟩) (by simp) _).setCell (p := ⟨w.heap.size, 2, none⟩) (by simp) _, by simpa using s3⟩
def mfind (k : Int) : Option (Int × Nat × Bool) := mot.find? fun p => decide (p.1 = k)
/-- motionOf's answer as a value -/
def mres (k : Int) : Value := match mfind k with
  | some p => .tuple #[mrow p, .bool true]
  | none => .tuple #[.agg #[.int .i64 0, .nilFunc, .bool false], .bool false]
theorem cells3 {W : World} {b : Nat} {x y z : Value} {t : TypeId} (h : W.heap[b]? = some (.cells #[x, y, z] t (0, 0))) : W.cell? ⟨b, 0, none⟩ = some x ∧ W.cell? ⟨b, 1, none⟩ = some y ∧ W.cell? ⟨b, 2, none⟩ = some z := by simp [World.cell?, h]
set_option maxRecDepth 100000 in
set_option maxHeartbeats 1000000 in
theorem motionOf_any (k : Int) (w : World) : Calls Tryz.prog 21 #[.int .i64 k] w fun e w' => e = .returned (mres k) ∧ Below w.heap.size w w' := by
  obtain ⟨W0, hW0⟩ : ∃ W0, w.alloc (.cells #[.int .i64 0, .nilFunc, .bool false] 61) = W0 := ⟨_, rfl⟩
  have HM : Hid (Mob w W0) := by show Mob _ _; rw [← hW0]; exact ⟨(Below.refl _ w).alloc (Nat.le_refl _) _, World.alloc_heap_new _ _⟩
  have C0 : Hid (Calls Tryz.prog 43 #[] W0 fun e w' => e = .returned (.agg mcells) ∧ Hid (Mob w w')) := (motions_any W0).mono fun e W' ⟨q1, q2⟩ => ⟨q1, HM.out.below q2⟩
  have hI := ix10
  obtain ⟨R, hR⟩ : ∃ R, mres k = R := ⟨_, rfl⟩
  have HR : Hid (mres k = R) := hR
  rw [hR]
  clear hR HM
  generalize mcells = A at C0 hI
  go_enter Tryz.func21, Tryz.ntmps21
  go_wp2_with (go_at_call 43; refine C0.out.mono ?_; clear C0 hW0; rintro e w0 ⟨rfl, HM⟩)
  go_loopw [7] (fun t wr => ∃ i : Nat, t = .int .i64 i ∧ i ≤ 10 ∧ Hid (∀ j p, j < i → mot[j]? = some p → p.1 ≠ k) ∧ Hid (Mob w wr)) (fun t _ => 10 - (intOf t).toNat)
  case atStart => exact ⟨0, rfl, Nat.zero_le _, (fun j p h => by omega), HM⟩
  case round =>
    clear HM
    obtain ⟨i, rfl, hi, HN, HM⟩ := hrel
    by_cases hlt : i < 10
    · obtain ⟨p, hp⟩ : ∃ p, mot[i]? = some p := ⟨mot[i]'hlt, List.getElem?_eq_getElem hlt⟩
      have hJ := hI wr i p hp
      have HP : Hid (mot[i]? = some p) := hp
      have hlt' : (i : Int) < 10 := by omega
      clear hI hp
      obtain ⟨k1, f1, b1⟩ := p
      unfold mrow at hJ
      simp only at hJ
      have HA : Hid (Mob w (wr.alloc (.cells #[.int .i64 k1, .func (.func f1) #[] #[], .bool b1] 61))) := HM.out.below ((Below.refl _ wr).alloc (Nat.le_refl _) _)
      have HX : Hid ((wr.alloc (.cells #[.int .i64 k1, .func (.func f1) #[] #[], .bool b1] 61)).heap[wr.heap.size]? = some (.cells #[.int .i64 k1, .func (.func f1) #[] #[], .bool b1] 61 (0, 0))) := World.alloc_heap_new _ _
      by_cases h1 : k1 = k
      · subst h1
        have HF : Hid (R = .tuple #[.agg #[.int .i64 k1, .func (.func f1) #[] #[], .bool b1], .bool true]) := by
          show R = _
          rw [← HR.out]
          unfold mres mfind
          have : mot.find? (fun p => decide (p.1 = k1)) = some (k1, f1, b1) := by
            rw [List.find?_eq_some_iff_getElem]
            refine ⟨by simp, i, hlt, ?_, fun j hj => ?_⟩
            · have := HP.out; rw [List.getElem?_eq_getElem hlt] at this; exact Option.some.inj this
            · have := HN.out j (mot[j]'(by have : mot.length = 10 := rfl; omega)) hj (List.getElem?_eq_getElem _)
              simpa using this
          rw [this]; rfl
        clear HN HP HR
        go_upto_region 4 with fail
        generalize wr.alloc (.cells #[.int .i64 k1, .func (.func f1) #[] #[], .bool b1] 61) = W1 at HA HX ⊢
        obtain ⟨x0, x1, x2⟩ := cells3 HX.out
        obtain ⟨⟨y0, y1, y2⟩, g0, g1, g2, hl⟩ := HA.out.get
        clear HX HM hJ
        go_wp2
        obtain ⟨hS, hT⟩ := HA.out.set (.int .i64 k1) (.func (.func f1) #[] #[]) (.bool b1)
        obtain ⟨z0, z1, z2⟩ := cells3 hT
        rw [HF.out]
        exact bodyPost_ret (v := .tuple #[.agg #[.int .i64 k1, .func (.func f1) #[] #[], .bool b1], .bool true]) (by simp [results, Tryz.results21, go_sem, z0, z1, z2]) rfl ⟨rfl, hS⟩
      · have h1' : (k1 == k) = false := by simp [h1]
        have h1'' : decide (k1 = k) = false := by simp [h1]
        go_upto_region 4 with fail
        generalize wr.alloc (.cells #[.int .i64 k1, .func (.func f1) #[] #[], .bool b1] 61) = W1 at HA HX ⊢
        obtain ⟨x0, x1, x2⟩ := cells3 HX.out
        clear HX HM hJ
        go_wp2
        exact ⟨⟨i + 1, by go_num, by omega, (fun j q hj hq => by
          by_cases e : j = i
          · subst e; rw [HP.out] at hq; cases hq; exact h1
          · exact HN.out j q (by omega) hq), HA⟩, by simp [intOf]; omega⟩
    · have hge : ¬ ((i : Int) < 10) := by omega
      have HF : Hid (R = .tuple #[.agg #[.int .i64 0, .nilFunc, .bool false], .bool false]) := by
        show R = _
        rw [← HR.out]
        unfold mres mfind
        have : mot.find? (fun p => decide (p.1 = k)) = none := by
          rw [List.find?_eq_none]
          intro q hq
          obtain ⟨j, hj⟩ := List.mem_iff_getElem?.1 hq
          have hj' : j < 10 := (List.getElem?_eq_some_iff.1 hj).1
          simpa using HN.out j q (by omega) hj
        rw [this]
      obtain ⟨⟨y0, y1, y2⟩, f0, f1, f2, hl⟩ := HM.out.get
      clear HN HR hI
      go_wp2
      obtain ⟨hS, hT⟩ := HM.out.set (.int .i64 0) .nilFunc (.bool false)
      obtain ⟨z0, z1, z2⟩ := cells3 hT
      rw [HF.out]
      exact bodyPost_ret (v := .tuple #[.agg #[.int .i64 0, .nilFunc, .bool false], .bool false]) (by simp [results, Tryz.results21, go_sem, z0, z1, z2]) rfl ⟨rfl, hS⟩
theorem mres_cases (k : Int) : (∃ f b, mres k = .tuple #[.agg #[.int .i64 k, .func (.func f) #[] #[], .bool b], .bool true] ∧ (k, f, b) ∈ mot ∧ (4 ≤ k ∧ k ≤ 13)) ∨ (mres k = .tuple #[.agg #[.int .i64 0, .nilFunc, .bool false], .bool false] ∧ ¬ (4 ≤ k ∧ k ≤ 13)) := by
  unfold mres
  by_cases h : 4 ≤ k ∧ k ≤ 13
  · refine .inl ?_
    have : k = 4 ∨ k = 5 ∨ k = 6 ∨ k = 7 ∨ k = 8 ∨ k = 9 ∨ k = 10 ∨ k = 11 ∨ k = 12 ∨ k = 13 := by omega
    rcases this with rfl | rfl | rfl | rfl | rfl | rfl | rfl | rfl | rfl | rfl <;> exact ⟨_, _, rfl, by simp [mot], h⟩
  · have e : mfind k = none := by
      unfold mfind
      rw [List.find?_eq_none]
      intro p hp
      simp only [mot, List.mem_cons, List.not_mem_nil, or_false] at hp
      rcases hp with rfl | rfl | rfl | rfl | rfl | rfl | rfl | rfl | rfl | rfl <;> simp <;> omega
    rw [e]
    exact .inr ⟨rfl, h⟩
set_option maxRecDepth 100000 in
set_option maxHeartbeats 1000000 in
theorem Motion_any (k : Int) (w : World) : Calls Tryz.prog 19 #[.int .i64 k] w fun e w' => e = .returned (.bool (decide (4 ≤ k ∧ k ≤ 13))) ∧ Below w.heap.size w w' := by
  have C := motionOf_any k w
  rcases mres_cases k with ⟨f, b, h1, -, h2⟩ | ⟨h1, h2⟩
  · rw [h1] at C
    rw [decide_eq_true h2]
    have C0 : Hid (Calls Tryz.prog 21 #[.int .i64 k] w fun e w' => e = .returned (.tuple #[.agg #[.int .i64 k, .func (.func f) #[] #[], .bool b], .bool true]) ∧ Hid (Below w.heap.size w w')) := C
    clear C h1 h2
    go_enter Tryz.func19, Tryz.ntmps19
    go_wp2_with (go_at_call 21; refine C0.out.mono ?_; clear C0; rintro e w0 ⟨rfl, HB⟩)
    go_ret
    exact ⟨rfl, HB.out.alloc HB.out.size _⟩
  · rw [h1] at C
    rw [decide_eq_false h2]
    have C0 : Hid (Calls Tryz.prog 21 #[.int .i64 k] w fun e w' => e = .returned (.tuple #[.agg #[.int .i64 0, .nilFunc, .bool false], .bool false]) ∧ Hid (Below w.heap.size w w')) := C
    clear C h1 h2
    go_enter Tryz.func19, Tryz.ntmps19
    go_wp2_with (go_at_call 21; refine C0.out.mono ?_; clear C0; rintro e w0 ⟨rfl, HB⟩)
    go_ret
    exact ⟨rfl, HB.out.alloc HB.out.size _⟩
end Go.Proofs.YtplieccalmkloaaGreatDoor.Sto
namespace Go.Proofs.YtplieccalmkloaaGreatDoor.Sto
open Go.RowKit Go.Shelf Bod Wid

section
variable {w : World} {v : Value} {s : ByteArray}
theorem Sv.ptr (h : Sv w v s) : ∃ p, v = .pointer p := by
  obtain ⟨x, k, K, h1, -, -⟩ := h.ex
  rcases h1 with ⟨h1, -, -⟩ | ⟨b, h1, -⟩
  · exact ⟨_, h1⟩
  · exact ⟨_, h1⟩
set_option maxRecDepth 100000 in
set_option maxHeartbeats 1000000 in
theorem heldLine_any (h : Sv w v s) (l : Int) : Calls Tryz.prog 28 #[v, .int .i64 l] w fun e W' => e = .returned (.int .i64 (hl s l)) ∧ Below w.heap.size w W' := by
  have hs := h.le
  have hcl : cn s 0 s.size ≤ 1073741824 := by have := cn_le (s := s) (a := 0) (c := s.size) (Nat.le_refl _); omega
  have C : Hid (Calls Tryz.prog 33 #[.iface 23 v] w fun e W' => e = .returned (.int .i64 ((cn s 0 s.size : Int) + 1)) ∧ Hid (Below w.heap.size w W')) := ask_count h.tl
  unfold hl
  generalize cn s 0 s.size = z at C hcl ⊢
  have hz : (z : Int) ≤ 1073741824 := by omega
  clear h hs hcl
  go_enter Tryz.func28, Tryz.ntmps28
  go_wp2_with (go_at_call 33; refine C.out.mono ?_; clear C; rintro e w1 ⟨rfl, HB⟩)
  go_ret
  exact ⟨ret_int (by omega), HB.out⟩
set_option maxRecDepth 100000 in
set_option maxHeartbeats 1000000 in
theorem lineOf_any (h : Sv w v s) (a : Nat) (ha : cbZ s a = true) : Calls Tryz.prog 114 #[v, .int .i64 a] w fun e W' => e = .returned (.agg #[.int .i64 ((lspF s (cn s 0 a)).getD (0, 0)).1, .int .i64 ((lspF s (cn s 0 a)).getD (0, 0)).2]) ∧ Below w.heap.size w W' := by
  have hs := h.le
  have hal := cb_le ha
  obtain ⟨x, y, hP⟩ := pl_ex ha
  rw [lspF_eq hP.sp]
  have hcl : cn s 0 a ≤ 1073741824 := by have := cn_le (s := s) (a := 0) (c := a) hal; omega
  obtain ⟨W0, hW0⟩ : ∃ W0, w.alloc (.cells #[.int .i64 0, .int .i64 0] 50) = W0 := ⟨_, rfl⟩
  have HR : Hid (Rb w 0 0 W0) := by show Rb _ _ _ _; rw [← hW0]; exact ⟨(Below.refl _ w).alloc (Nat.le_refl _) _, World.alloc_heap_new _ _⟩
  have C1 : Hid (Calls Tryz.prog 32 #[.iface 23 v, .int .i64 a] W0 fun e W' => e = .returned (.tuple #[.int .i64 (cn s 0 a : Nat), .int .i64 0]) ∧ Hid (Rb w 0 0 W')) := (ask_of (h.below HR.out.bel).tl a).mono fun e W' ⟨q1, q2⟩ => ⟨by rw [q1]; unfold ofv; rw [if_pos ⟨by omega, by omega⟩, if_pos ⟨by omega, by omega⟩]; rfl, HR.out.below q2⟩
  have C2 : Hid (∀ W, Hid (Rb w 0 0 W) → Calls Tryz.prog 31 #[.iface 23 v, .int .i64 (cn s 0 a : Nat)] W fun e W' => e = .returned (.tuple #[.agg #[.int .i64 x, .int .i64 y], .int .i64 0]) ∧ Hid (Rb w 0 0 W')) := fun W hW => (ask_span (h.below hW.out.bel).tl _ (by omega) hP.sp).mono fun e W' ⟨q1, q2⟩ => ⟨q1, hW.out.below q2⟩
  generalize cn s 0 a = z at C1 C2 hcl ⊢
  have hz : (z : Int) ≤ 1073741824 := by omega
  clear h hs hcl hP ha HR
  go_enter Tryz.func114, Tryz.ntmps114
  go_upto_region 3 with (first
    | (go_at_call 32; refine C1.out.mono ?_; clear C1 hW0; rintro e w1 ⟨rfl, HR⟩)
    | (go_at_call 31; refine (C2.out _ HR).mono ?_; clear C2 HR; rintro e w2 ⟨rfl, HR⟩))
  have HA : Hid (Rb w 0 0 (w2.alloc (.cells #[.int .i64 x, .int .i64 y] 50))) := HR.out.below ((Below.refl _ w2).alloc (Nat.le_refl _) _)
  have HX : Hid ((w2.alloc (.cells #[.int .i64 x, .int .i64 y] 50)).heap[w2.heap.size]? = some (.cells #[.int .i64 x, .int .i64 y] 50 (0, 0))) := World.alloc_heap_new _ _
  generalize w2.alloc (.cells #[.int .i64 x, .int .i64 y] 50) = W1 at HA HX ⊢
  have x0 : W1.cell? ⟨w2.heap.size, 0, none⟩ = some (.int .i64 x) := by have := HX.out; simp [World.cell?, this]
  have x1 : W1.cell? ⟨w2.heap.size, 1, none⟩ = some (.int .i64 y) := by have := HX.out; simp [World.cell?, this]
  obtain ⟨y0, y1, y2, y3, y4⟩ := HA.out.get
  clear HX HR
  go_wp2
  have hS := HA.out.set x y
  obtain ⟨z0, z1, -, -, -⟩ := hS.get
  exact bodyPost_ret (v := .agg #[.int .i64 x, .int .i64 y]) (by simp [results, Tryz.results114, go_sem, z0, z1]) rfl ⟨rfl, hS.bel⟩
set_option maxRecDepth 100000 in
set_option maxHeartbeats 1000000 in
theorem linesAway_any (hM : Tryz.prog.follows .mixedOrders = true) (h : Sv w v s) (a : Nat) (ha : cbZ s a = true) (want d : Int) (hw : want ≤ 9223372036854775807) (hd : -1000 ≤ d ∧ d ≤ 1000) : Calls Tryz.prog 115 #[v, .int .i64 a, .int .i64 want, .int .i64 d] w fun e W' => e = .returned (.tuple #[.int .i64 (away s a want d).1, .bool (away s a want d).2]) ∧ Below w.heap.size w W' := by
  have hs := h.le
  have hal := cb_le ha
  have hcl : cn s 0 a ≤ 1073741824 := by have := cn_le (s := s) (a := 0) (c := a) hal; omega
  have hcz : cn s 0 s.size ≤ 1073741824 := by have := cn_le (s := s) (a := 0) (c := s.size) (Nat.le_refl _); omega
  have hin := hl_in s ((cn s 0 a : Int) + d)
  have C1 : Hid (Calls Tryz.prog 32 #[.iface 23 v, .int .i64 a] w fun e W' => e = .returned (.tuple #[.int .i64 (cn s 0 a : Nat), .int .i64 0]) ∧ Hid (Below w.heap.size w W')) := (ask_of h.tl a).mono fun e W' ⟨q1, q2⟩ => ⟨by rw [q1]; unfold ofv; rw [if_pos ⟨by omega, by omega⟩, if_pos ⟨by omega, by omega⟩]; rfl, q2⟩
  have C2 : Hid (∀ W, Hid (Below w.heap.size w W) → Calls Tryz.prog 28 #[v, .int .i64 ((cn s 0 a : Int) + d)] W fun e W' => e = .returned (.int .i64 (hl s ((cn s 0 a : Int) + d))) ∧ Hid (Below w.heap.size w W')) := fun W hW => (heldLine_any (h.below hW.out) _).mono fun e W' ⟨q1, q2⟩ => ⟨q1, Below.on hW.out q2⟩
  have C3 : Hid (∀ W, Hid (Below w.heap.size w W) → Calls Tryz.prog 27 #[.iface 23 v, .int .i64 (hl s ((cn s 0 a : Int) + d)), .int .i64 want] W fun e W' => e = .returned (.tuple #[.int .i64 (plcF s (hl s ((cn s 0 a : Int) + d)) want : Nat), .int .i64 0]) ∧ Hid (Below w.heap.size w W')) := fun W hW => (ask_at hM (h.below hW.out).tl (h.ev.below hW.out) _ want (by omega) hw (plc_isA hin)).mono fun e W' ⟨q1, q2⟩ => ⟨q1, Below.on hW.out q2⟩
  unfold away
  simp only
  generalize plcF s (hl s ((cn s 0 a : Int) + d)) want = m at C3 ⊢
  generalize hl s ((cn s 0 a : Int) + d) = j at C2 C3 hin ⊢
  generalize cn s 0 a = z at C1 C2 hcl ⊢
  have hz : (z : Int) ≤ 1073741824 := by omega
  have hj : j ≤ 1073741824 := by omega
  clear h hs hcl ha hcz hM hin
  go_enter Tryz.func115, Tryz.ntmps115
  go_wp2_with (first
    | (go_at_call 32; refine C1.out.mono ?_; clear C1; rintro e w1 ⟨rfl, HB⟩)
    | (go_at_call 28; refine (C2.out _ HB).mono ?_; clear C2 HB; rintro e w2 ⟨rfl, HB⟩)
    | (go_at_call 27; refine (C3.out _ HB).mono ?_; clear C3 HB; rintro e w3 ⟨rfl, HB⟩))
  go_ret2
  exact ⟨rfl, HB.out⟩
set_option maxRecDepth 100000 in
set_option maxHeartbeats 1000000 in
theorem Column_any (hM : Tryz.prog.follows .mixedOrders = true) (h : Sv w v s) (i : Int) (hi : i ≤ 9223372036854775807) : Calls Tryz.prog 9 #[v, .int .i64 i] w fun e W' => e = .returned (.int .i64 (colF s (snp s i))) ∧ Below w.heap.size w W' := by
  have hc := (snp_is s i).cb
  have C1 : Hid (∀ W, Hid (Below w.heap.size w W) → Calls Tryz.prog 22 #[v, .int .i64 i] W fun e W' => e = .returned (.int .i64 (snp s i : Nat)) ∧ Hid (Below w.heap.size w W')) := fun W hW => ((h.below hW.out).snap i hi).mono fun e W' ⟨q1, q2⟩ => ⟨q1, Below.on hW.out q2⟩
  have C2 : Hid (∀ W, Hid (Below w.heap.size w W) → Calls Tryz.prog 24 #[.iface 23 v, .int .i64 (snp s i : Nat)] W fun e W' => e = .returned (.tuple #[.int .i64 (colF s (snp s i)), .int .i64 0]) ∧ Hid (Below w.heap.size w W')) := fun W hW => (ask_col hM (h.below hW.out).tl (h.ev.below hW.out) _ (col_isCo hc)).mono fun e W' ⟨q1, q2⟩ => ⟨q1, Below.on hW.out q2⟩
  generalize colF s (snp s i) = z at C2 ⊢
  generalize snp s i = p at C1 C2 hc
  have HB0 : Hid (Below w.heap.size w w) := Below.refl _ _
  clear h hc hM
  go_enter Tryz.func9, Tryz.ntmps9
  go_wp2_with (first
    | (go_at_call 22; refine (C1.out _ HB0).mono ?_; clear C1 HB0; rintro e w2 ⟨rfl, HB⟩)
    | (go_at_call 24; refine (C2.out _ HB).mono ?_; clear C2 HB; rintro e w3 ⟨rfl, HB⟩))
  go_ret
  exact ⟨rfl, HB.out⟩
set_option maxRecDepth 100000 in
set_option maxHeartbeats 1000000 in
theorem Place_any (hM : Tryz.prog.follows .mixedOrders = true) (h : Sv w v s) (l c : Int) (hc : c ≤ 9223372036854775807) : Calls Tryz.prog 11 #[v, .int .i64 l, .int .i64 c] w fun e W' => e = .returned (.int .i64 (plcF s (hl s l) c : Nat)) ∧ Below w.heap.size w W' := by
  have hs := h.le
  have hcz : cn s 0 s.size ≤ 1073741824 := by have := cn_le (s := s) (a := 0) (c := s.size) (Nat.le_refl _); omega
  have hin := hl_in s l
  have C1 : Hid (∀ W, Hid (Below w.heap.size w W) → Calls Tryz.prog 28 #[v, .int .i64 l] W fun e W' => e = .returned (.int .i64 (hl s l)) ∧ Hid (Below w.heap.size w W')) := fun W hW => (heldLine_any (h.below hW.out) l).mono fun e W' ⟨q1, q2⟩ => ⟨q1, Below.on hW.out q2⟩
  have C2 : Hid (∀ W, Hid (Below w.heap.size w W) → Calls Tryz.prog 27 #[.iface 23 v, .int .i64 (hl s l), .int .i64 c] W fun e W' => e = .returned (.tuple #[.int .i64 (plcF s (hl s l) c : Nat), .int .i64 0]) ∧ Hid (Below w.heap.size w W')) := fun W hW => (ask_at hM (h.below hW.out).tl (h.ev.below hW.out) _ c (by omega) hc (plc_isA hin)).mono fun e W' ⟨q1, q2⟩ => ⟨q1, Below.on hW.out q2⟩
  generalize plcF s (hl s l) c = z at C2 ⊢
  generalize hl s l = p at C1 C2 hin
  have HB0 : Hid (Below w.heap.size w w) := Below.refl _ _
  clear h hs hcz hM hin
  go_enter Tryz.func11, Tryz.ntmps11
  go_wp2_with (first
    | (go_at_call 28; refine (C1.out _ HB0).mono ?_; clear C1 HB0; rintro e w2 ⟨rfl, HB⟩)
    | (go_at_call 27; refine (C2.out _ HB).mono ?_; clear C2 HB; rintro e w3 ⟨rfl, HB⟩))
  go_ret
  exact ⟨rfl, HB.out⟩
set_option maxRecDepth 100000 in
set_option maxHeartbeats 1000000 in
theorem columnWanted_any (hM : Tryz.prog.follows .mixedOrders = true) (h : Sv w v s) (p : Nat) (hp : cbZ s p = true) (g : Int) : Calls Tryz.prog 23 #[v, .int .i64 p, .int .i64 g] w fun e W' => e = .returned (.int .i64 (if g = -1 then colF s p else g)) ∧ Below w.heap.size w W' := by
  have hal := cb_le hp
  have hs := h.le
  have C : Hid (Calls Tryz.prog 9 #[v, .int .i64 p] w fun e W' => e = .returned (.int .i64 (colF s p)) ∧ Hid (Below w.heap.size w W')) := by
    have := Column_any hM h p (by omega)
    rw [snp_self hp] at this
    exact this
  generalize colF s p = z at C ⊢
  clear h hM hp hal hs
  by_cases hg : g = -1
  · subst hg
    rw [if_pos rfl]
    go_enter Tryz.func23, Tryz.ntmps23
    go_wp2_with (go_at_call 9; refine C.out.mono ?_; clear C; rintro e w1 ⟨rfl, HB⟩)
    go_ret
    exact ⟨rfl, HB.out⟩
  · rw [if_neg hg]
    have e1 : (g == -1) = false := by simp [hg]
    have e2 : decide (g = -1) = false := by simp [hg]
    clear C
    go_enter Tryz.func23, Tryz.ntmps23
    go_wp2
    go_ret
    exact ⟨rfl, Below.refl _ _⟩
set_option maxRecDepth 100000 in
set_option maxHeartbeats 1000000 in
theorem left_any (h : Sv w v s) (a : Nat) (ha : cbZ s a = true) (want : Int) (c : Nat) (hc : c ≤ 1000) : Calls Tryz.prog 78 #[v, .int .i64 a, .int .i64 want, .int .i64 c] w fun e W' => e = .returned (.tuple #[.int .i64 (itr (pvC s) 0 c a : Nat), .bool (!decide ((a : Int) = (0 : Nat)))]) ∧ Below w.heap.size w W' := by
  have hmf : ∀ (fn : Fn) (first cap : Array Value) (w : World), (Instr.makeFunc fn first cap).run Tryz.prog w = .ok (.func fn first cap) w := fun _ _ _ _ => rfl
  have hs := h.le
  have C : Hid (Calls Tryz.prog 108 #[.int .i64 a, .int .i64 0, .int .i64 c, .func (.func 109) #[v] #[]] w fun e W' => e = .returned (.tuple #[.int .i64 (itr (pvC s) 0 c a : Nat), .bool (!decide ((a : Int) = (0 : Nat)))]) ∧ Hid (Below w.heap.size w W')) :=
    stepped_any 109 #[v] #[] (enters_of Tryz.func109 (by kernel_rfl) rfl) (pvC s) (fun b => cbZ s (b : Nat) = true) 0 (by omega) (fun b hb => ⟨by have := cb_le hb; have := h.le; omega, fun _ => (pvC_is s b).cb⟩) (fun W b hW hb => by
      have := (h.below hW).prev b
      exact this) a c ha hc
  generalize itr (pvC s) 0 c a = R at C ⊢
  generalize (!decide ((a : Int) = (0 : Nat))) = B at C ⊢
  clear h ha hs
  go_enter Tryz.func78, Tryz.ntmps78
  go_wp2_with (go_at_call 108; refine C.out.mono ?_; clear C; rintro e w1 ⟨rfl, HB⟩)
  go_ret2
  exact ⟨rfl, HB.out⟩
set_option maxRecDepth 100000 in
set_option maxHeartbeats 1000000 in
theorem right_any (h : Sv w v s) (a : Nat) (ha : cbZ s a = true) (want : Int) (c : Nat) (hc : c ≤ 1000) : Calls Tryz.prog 79 #[v, .int .i64 a, .int .i64 want, .int .i64 c] w fun e W' => e = .returned (.tuple #[.int .i64 (itr (nxt s) s.size c a : Nat), .bool (!decide ((a : Int) = (s.size : Nat)))]) ∧ Below w.heap.size w W' := by
  have hmf : ∀ (fn : Fn) (first cap : Array Value) (w : World), (Instr.makeFunc fn first cap).run Tryz.prog w = .ok (.func fn first cap) w := fun _ _ _ _ => rfl
  have hs := h.le
  have C0 : Hid (∀ W, Hid (Below w.heap.size w W) → Calls Tryz.prog 69 #[v] W fun e W' => e = .returned (.int .i64 s.size) ∧ Hid (Below w.heap.size w W')) := fun W hW => (h.below hW.out).len.mono fun e W' ⟨q1, q2⟩ => ⟨q1, Below.on hW.out q2⟩
  have C : Hid (∀ W, Hid (Below w.heap.size w W) → Calls Tryz.prog 108 #[.int .i64 a, .int .i64 s.size, .int .i64 c, .func (.func 45) #[v] #[]] W fun e W' => e = .returned (.tuple #[.int .i64 (itr (nxt s) s.size c a : Nat), .bool (!decide ((a : Int) = (s.size : Nat)))]) ∧ Hid (Below w.heap.size w W')) := fun W hW =>
    (stepped_any 45 #[v] #[] (enters_of Tryz.func45 (by kernel_rfl) rfl) (nxt s) (fun b => cbZ s (b : Nat) = true) s.size (by omega) (fun b hb => ⟨by have := cb_le hb; have := h.le; omega, fun _ => (nxt_is s b).cb⟩) (fun X b hX hb => by
      have := (h.below (Below.on hW.out hX)).next b
      exact this) a c ha hc).mono fun e W' ⟨q1, q2⟩ => ⟨q1, Below.on hW.out q2⟩
  generalize itr (nxt s) s.size c a = R at C ⊢
  generalize (!decide ((a : Int) = (s.size : Nat))) = B at C ⊢
  generalize s.size = n at C0 C hs ⊢
  have HB0 : Hid (Below w.heap.size w w) := Below.refl _ _
  clear h ha
  go_enter Tryz.func79, Tryz.ntmps79
  go_wp2_with (first
    | (go_at_call 69; refine (C0.out _ HB0).mono ?_; clear C0 HB0; rintro e w0 ⟨rfl, HB⟩)
    | (go_at_call 108; refine (C.out _ HB).mono ?_; clear C HB; rintro e w1 ⟨rfl, HB⟩))
  go_ret2
  exact ⟨rfl, HB.out⟩
set_option maxRecDepth 100000 in
set_option maxHeartbeats 1000000 in
theorem wl1_any (h : Sv w v s) (bx b : Nat) (hb : cbZ s b = true) (hx : w.cell? ⟨bx, 0, none⟩ = some v) : Calls Tryz.prog 110 #[.int .i64 b, .pointer (some ⟨bx, 0, none⟩)] w fun e W' => e = .returned (.int .i64 (behindW (words s) b : Nat)) ∧ Below w.heap.size w W' := by
  have C : Hid (Calls Tryz.prog 111 #[v, .int .i64 b] w fun e W' => e = .returned (.int .i64 (behindW (words s) b : Nat)) ∧ Hid (Below w.heap.size w W')) := mbehind_any h b hb
  generalize behindW (words s) b = R at C ⊢
  clear h hb
  go_enter Tryz.func110, Tryz.ntmps110
  go_wp2_with (go_at_call 111; refine C.out.mono ?_; clear C; rintro e w1 ⟨rfl, HB⟩)
  go_ret
  exact ⟨rfl, HB.out⟩
set_option maxRecDepth 100000 in
set_option maxHeartbeats 1000000 in
theorem wr1_any (h : Sv w v s) (bx b : Nat) (hb : cbZ s b = true) (hx : w.cell? ⟨bx, 0, none⟩ = some v) : Calls Tryz.prog 112 #[.int .i64 b, .pointer (some ⟨bx, 0, none⟩)] w fun e W' => e = .returned (.int .i64 (aheadW (words s) s.size b : Nat)) ∧ Below w.heap.size w W' := by
  have C : Hid (Calls Tryz.prog 113 #[v, .int .i64 b] w fun e W' => e = .returned (.int .i64 (aheadW (words s) s.size b : Nat)) ∧ Hid (Below w.heap.size w W')) := mahead_any h b hb
  generalize aheadW (words s) s.size b = R at C ⊢
  clear h hb
  go_enter Tryz.func112, Tryz.ntmps112
  go_wp2_with (go_at_call 113; refine C.out.mono ?_; clear C; rintro e w1 ⟨rfl, HB⟩)
  go_ret
  exact ⟨rfl, HB.out⟩
set_option maxRecDepth 100000 in
set_option maxHeartbeats 1000000 in
theorem wordLeft_any (h : Sv w v s) (a : Nat) (ha : cbZ s a = true) (want : Int) (c : Nat) (hc : c ≤ 1000) : Calls Tryz.prog 80 #[v, .int .i64 a, .int .i64 want, .int .i64 c] w fun e W' => e = .returned (.tuple #[.int .i64 (itr (behindW (words s)) 0 c a : Nat), .bool (!decide ((a : Int) = (0 : Nat)))]) ∧ Below w.heap.size w W' := by
  have hmf : ∀ (fn : Fn) (first cap : Array Value) (w : World), (Instr.makeFunc fn first cap).run Tryz.prog w = .ok (.func fn first cap) w := fun _ _ _ _ => rfl
  obtain ⟨pv, rfl⟩ := h.ptr
  have hs := h.le
  obtain ⟨W0, hW0⟩ : ∃ W0, w.alloc (.cells #[.pointer pv] 23) = W0 := ⟨_, rfl⟩
  have hb0 : Below w.heap.size w W0 ∧ W0.heap[w.heap.size]? = some (.cells #[.pointer pv] 23 (0, 0)) := by rw [← hW0]; exact ⟨(Below.refl _ w).alloc (Nat.le_refl _) _, World.alloc_heap_new w _⟩
  have hcx : ∀ W, Below W0.heap.size W0 W → W.cell? ⟨w.heap.size, 0, none⟩ = some (.pointer pv) := fun W hW => by
    have := (hW.block _ (Array.getElem?_eq_some_iff.1 hb0.2).1).trans hb0.2
    simp [World.cell?, this]
  have HB0 : Hid (Below w.heap.size w W0) := hb0.1
  have hc0 := hcx W0 (Below.refl _ _)
  have C : Hid (Calls Tryz.prog 108 #[.int .i64 a, .int .i64 0, .int .i64 c, .func (.func 110) #[] #[.pointer (some ⟨w.heap.size, 0, none⟩)]] W0 fun e W' => e = .returned (.tuple #[.int .i64 (itr (behindW (words s)) 0 c a : Nat), .bool (!decide ((a : Int) = (0 : Nat)))]) ∧ Hid (Below w.heap.size w W')) :=
    (stepped_any 110 #[] #[.pointer (some ⟨w.heap.size, 0, none⟩)] (enters_of Tryz.func110 (by kernel_rfl) rfl) (behindW (words s)) (fun b => cbZ s (b : Nat) = true) 0 (by omega) (fun b hb => ⟨by have := cb_le hb; omega, fun _ => (behind_ok s b).1⟩) (fun X b hX hb => wl1_any (h.below (Below.on hb0.1 hX)) w.heap.size b hb (hcx X hX)) a c ha hc).mono fun e W' ⟨q1, q2⟩ => ⟨q1, Below.on hb0.1 q2⟩
  generalize itr (behindW (words s)) 0 c a = R at C ⊢
  generalize (!decide ((a : Int) = (0 : Nat))) = B at C ⊢
  clear h ha hs hb0 hcx HB0
  go_enter Tryz.func80, Tryz.ntmps80
  go_wp2_with (go_at_call 108; refine C.out.mono ?_; clear C hW0 hc0; rintro e w1 ⟨rfl, HB⟩)
  go_ret2
  exact ⟨rfl, HB.out⟩
set_option maxRecDepth 100000 in
set_option maxHeartbeats 1000000 in
theorem wordRight_any (h : Sv w v s) (a : Nat) (ha : cbZ s a = true) (want : Int) (c : Nat) (hc : c ≤ 1000) : Calls Tryz.prog 81 #[v, .int .i64 a, .int .i64 want, .int .i64 c] w fun e W' => e = .returned (.tuple #[.int .i64 (itr (aheadW (words s) s.size) s.size c a : Nat), .bool (!decide ((a : Int) = (s.size : Nat)))]) ∧ Below w.heap.size w W' := by
  have hmf : ∀ (fn : Fn) (first cap : Array Value) (w : World), (Instr.makeFunc fn first cap).run Tryz.prog w = .ok (.func fn first cap) w := fun _ _ _ _ => rfl
  obtain ⟨pv, rfl⟩ := h.ptr
  have hs := h.le
  obtain ⟨W0, hW0⟩ : ∃ W0, w.alloc (.cells #[.pointer pv] 23) = W0 := ⟨_, rfl⟩
  have hb0 : Below w.heap.size w W0 ∧ W0.heap[w.heap.size]? = some (.cells #[.pointer pv] 23 (0, 0)) := by rw [← hW0]; exact ⟨(Below.refl _ w).alloc (Nat.le_refl _) _, World.alloc_heap_new w _⟩
  have hcx : ∀ W, Below W0.heap.size W0 W → W.cell? ⟨w.heap.size, 0, none⟩ = some (.pointer pv) := fun W hW => by
    have := (hW.block _ (Array.getElem?_eq_some_iff.1 hb0.2).1).trans hb0.2
    simp [World.cell?, this]
  have HB0 : Hid (Below w.heap.size w W0) := hb0.1
  have hc0 := hcx W0 (Below.refl _ _)
  have C0 : Hid (Calls Tryz.prog 69 #[.pointer pv] W0 fun e W' => e = .returned (.int .i64 s.size) ∧ Hid (Below W0.heap.size W0 W')) := (h.below hb0.1).len
  have C : Hid (∀ W, Hid (Below W0.heap.size W0 W) → Calls Tryz.prog 108 #[.int .i64 a, .int .i64 s.size, .int .i64 c, .func (.func 112) #[] #[.pointer (some ⟨w.heap.size, 0, none⟩)]] W fun e W' => e = .returned (.tuple #[.int .i64 (itr (aheadW (words s) s.size) s.size c a : Nat), .bool (!decide ((a : Int) = (s.size : Nat)))]) ∧ Hid (Below w.heap.size w W')) := fun W hW =>
    (stepped_any 112 #[] #[.pointer (some ⟨w.heap.size, 0, none⟩)] (enters_of Tryz.func112 (by kernel_rfl) rfl) (aheadW (words s) s.size) (fun b => cbZ s (b : Nat) = true) s.size (by omega) (fun b hb => ⟨by have := cb_le hb; omega, fun _ => (ahead_ok s b).1⟩) (fun X b hX hb => wr1_any (h.below (Below.on hb0.1 (Below.on hW.out hX))) w.heap.size b hb (hcx X (Below.on hW.out hX))) a c ha hc).mono fun e W' ⟨q1, q2⟩ => ⟨q1, Below.on hb0.1 (Below.on hW.out q2)⟩
  generalize itr (aheadW (words s) s.size) s.size c a = R at C ⊢
  generalize (!decide ((a : Int) = (s.size : Nat))) = B at C ⊢
  generalize s.size = n at C0 C hs ⊢
  clear h ha hb0 hcx HB0
  go_enter Tryz.func81, Tryz.ntmps81
  go_wp2_with (first
    | (go_at_call 69; refine C0.out.mono ?_; clear C0 hW0 hc0; rintro e w0 ⟨rfl, HB⟩)
    | (go_at_call 108; refine (C.out _ HB).mono ?_; clear C HB; rintro e w1 ⟨rfl, HB⟩))
  go_ret2
  exact ⟨rfl, HB.out⟩
set_option maxRecDepth 100000 in
set_option maxHeartbeats 1000000 in
theorem lineStart_any (h : Sv w v s) (a : Nat) (ha : cbZ s a = true) (want : Int) (c : Nat) : Calls Tryz.prog 82 #[v, .int .i64 a, .int .i64 want, .int .i64 c] w fun e W' => e = .returned (.tuple #[.int .i64 ((lspF s (cn s 0 a)).getD (0, 0)).1, .bool true]) ∧ Below w.heap.size w W' := by
  have C : Hid (Calls Tryz.prog 114 #[v, .int .i64 a] w fun e W' => e = .returned (.agg #[.int .i64 ((lspF s (cn s 0 a)).getD (0, 0)).1, .int .i64 ((lspF s (cn s 0 a)).getD (0, 0)).2]) ∧ Hid (Below w.heap.size w W')) := lineOf_any h a ha
  generalize ((lspF s (cn s 0 a)).getD (0, 0)).1 = x at C ⊢
  generalize ((lspF s (cn s 0 a)).getD (0, 0)).2 = y at C ⊢
  have hfd : ∀ W, (Instr.field 50 (.agg #[.int .i64 x, .int .i64 y]) 0).run Tryz.prog W = .ok (.int .i64 x) W := fun W => by kernel_rfl
  clear h ha
  go_enter Tryz.func82, Tryz.ntmps82
  go_wp2_with (go_at_call 114; refine C.out.mono ?_; clear C; rintro e w1 ⟨rfl, HB⟩)
  go_ret2
  exact ⟨rfl, HB.out⟩
set_option maxRecDepth 100000 in
set_option maxHeartbeats 1000000 in
theorem lineEnd_any (h : Sv w v s) (a : Nat) (ha : cbZ s a = true) (want : Int) (c : Nat) : Calls Tryz.prog 83 #[v, .int .i64 a, .int .i64 want, .int .i64 c] w fun e W' => e = .returned (.tuple #[.int .i64 ((lspF s (cn s 0 a)).getD (0, 0)).2, .bool true]) ∧ Below w.heap.size w W' := by
  have C : Hid (Calls Tryz.prog 114 #[v, .int .i64 a] w fun e W' => e = .returned (.agg #[.int .i64 ((lspF s (cn s 0 a)).getD (0, 0)).1, .int .i64 ((lspF s (cn s 0 a)).getD (0, 0)).2]) ∧ Hid (Below w.heap.size w W')) := lineOf_any h a ha
  generalize ((lspF s (cn s 0 a)).getD (0, 0)).1 = x at C ⊢
  generalize ((lspF s (cn s 0 a)).getD (0, 0)).2 = y at C ⊢
  have hfd : ∀ W, (Instr.field 50 (.agg #[.int .i64 x, .int .i64 y]) 1).run Tryz.prog W = .ok (.int .i64 y) W := fun W => by kernel_rfl
  clear h ha
  go_enter Tryz.func83, Tryz.ntmps83
  go_wp2_with (go_at_call 114; refine C.out.mono ?_; clear C; rintro e w1 ⟨rfl, HB⟩)
  go_ret2
  exact ⟨rfl, HB.out⟩
set_option maxRecDepth 100000 in
set_option maxHeartbeats 1000000 in
theorem up_any (hM : Tryz.prog.follows .mixedOrders = true) (h : Sv w v s) (a : Nat) (ha : cbZ s a = true) (want : Int) (hw : want ≤ 9223372036854775807) (c : Nat) (hc : c ≤ 1000) : Calls Tryz.prog 84 #[v, .int .i64 a, .int .i64 want, .int .i64 c] w fun e W' => e = .returned (.tuple #[.int .i64 (away s a want (-(c : Int))).1, .bool (away s a want (-(c : Int))).2]) ∧ Below w.heap.size w W' := by
  have C : Hid (Calls Tryz.prog 115 #[v, .int .i64 a, .int .i64 want, .int .i64 (-(c : Int))] w fun e W' => e = .returned (.tuple #[.int .i64 (away s a want (-(c : Int))).1, .bool (away s a want (-(c : Int))).2]) ∧ Hid (Below w.heap.size w W')) := linesAway_any hM h a ha want (-(c : Int)) hw (by omega)
  generalize away s a want (-(c : Int)) = R at C ⊢
  have hc' : (c : Int) ≤ 1000 := by omega
  clear h ha hM
  go_enter Tryz.func84, Tryz.ntmps84
  go_wp2_with (go_at_call 115; refine C.out.mono ?_; clear C; rintro e w1 ⟨rfl, HB⟩)
  go_ret2
  exact ⟨rfl, HB.out⟩
set_option maxRecDepth 100000 in
set_option maxHeartbeats 1000000 in
theorem down_any (hM : Tryz.prog.follows .mixedOrders = true) (h : Sv w v s) (a : Nat) (ha : cbZ s a = true) (want : Int) (hw : want ≤ 9223372036854775807) (c : Nat) (hc : c ≤ 1000) : Calls Tryz.prog 85 #[v, .int .i64 a, .int .i64 want, .int .i64 c] w fun e W' => e = .returned (.tuple #[.int .i64 (away s a want (c : Int)).1, .bool (away s a want (c : Int)).2]) ∧ Below w.heap.size w W' := by
  have C : Hid (Calls Tryz.prog 115 #[v, .int .i64 a, .int .i64 want, .int .i64 (c : Int)] w fun e W' => e = .returned (.tuple #[.int .i64 (away s a want (c : Int)).1, .bool (away s a want (c : Int)).2]) ∧ Hid (Below w.heap.size w W')) := linesAway_any hM h a ha want (c : Int) hw (by omega)
  generalize away s a want (c : Int) = R at C ⊢
  have hc' : (c : Int) ≤ 1000 := by omega
  clear h ha hM
  go_enter Tryz.func85, Tryz.ntmps85
  go_wp2_with (go_at_call 115; refine C.out.mono ?_; clear C; rintro e w1 ⟨rfl, HB⟩)
  go_ret2
  exact ⟨rfl, HB.out⟩
set_option maxRecDepth 100000 in
theorem textStart_any (w : World) (v : Value) (a want : Int) (c : Int) : Calls Tryz.prog 86 #[v, .int .i64 a, .int .i64 want, .int .i64 c] w fun e W' => e = .returned (.tuple #[.int .i64 0, .bool true]) ∧ Below w.heap.size w W' := by
  go_enter Tryz.func86, Tryz.ntmps86
  go_wp2
  go_ret2
  exact ⟨rfl, Below.refl _ _⟩
set_option maxRecDepth 100000 in
theorem textEnd_any (h : Sv w v s) (a want : Int) (c : Int) : Calls Tryz.prog 87 #[v, .int .i64 a, .int .i64 want, .int .i64 c] w fun e W' => e = .returned (.tuple #[.int .i64 s.size, .bool true]) ∧ Below w.heap.size w W' := by
  have C : Hid (Calls Tryz.prog 69 #[v] w fun e W' => e = .returned (.int .i64 s.size) ∧ Hid (Below w.heap.size w W')) := h.len
  generalize s.size = n at C ⊢
  clear h
  go_enter Tryz.func87, Tryz.ntmps87
  go_wp2_with (go_at_call 69; refine C.out.mono ?_; clear C; rintro e w1 ⟨rfl, HB⟩)
  go_ret2
  exact ⟨rfl, HB.out⟩
theorem mot_en {k : Int} {f : Nat} {b : Bool} (hm : (k, f, b) ∈ mot) : ∀ args W, (callFunc f args).run Tryz.prog W = .ok (.enter f args) W := by
  simp only [mot, List.mem_cons, List.not_mem_nil, or_false, Prod.mk.injEq] at hm
  rcases hm with ⟨-, rfl, -⟩ | ⟨-, rfl, -⟩ | ⟨-, rfl, -⟩ | ⟨-, rfl, -⟩ | ⟨-, rfl, -⟩ | ⟨-, rfl, -⟩ | ⟨-, rfl, -⟩ | ⟨-, rfl, -⟩ | ⟨-, rfl, -⟩ | ⟨-, rfl, -⟩
  · exact enters_of Tryz.func78 (by kernel_rfl) rfl
  · exact enters_of Tryz.func79 (by kernel_rfl) rfl
  · exact enters_of Tryz.func80 (by kernel_rfl) rfl
  · exact enters_of Tryz.func81 (by kernel_rfl) rfl
  · exact enters_of Tryz.func82 (by kernel_rfl) rfl
  · exact enters_of Tryz.func83 (by kernel_rfl) rfl
  · exact enters_of Tryz.func84 (by kernel_rfl) rfl
  · exact enters_of Tryz.func85 (by kernel_rfl) rfl
  · exact enters_of Tryz.func86 (by kernel_rfl) rfl
  · exact enters_of Tryz.func87 (by kernel_rfl) rfl
theorem mot_kp {k : Int} {f : Nat} {b : Bool} (hm : (k, f, b) ∈ mot) : b = decide (k = 10 ∨ k = 11) := by
  simp only [mot, List.mem_cons, List.not_mem_nil, or_false, Prod.mk.injEq] at hm
  rcases hm with ⟨rfl, -, rfl⟩ | ⟨rfl, -, rfl⟩ | ⟨rfl, -, rfl⟩ | ⟨rfl, -, rfl⟩ | ⟨rfl, -, rfl⟩ | ⟨rfl, -, rfl⟩ | ⟨rfl, -, rfl⟩ | ⟨rfl, -, rfl⟩ | ⟨rfl, -, rfl⟩ | ⟨rfl, -, rfl⟩ <;> rfl
theorem lead_any (hM : Tryz.prog.follows .mixedOrders = true) (h : Sv w v s) {k : Int} {f : Nat} {b : Bool} (hm : (k, f, b) ∈ mot) (a : Nat) (ha : cbZ s a = true) (want : Int) (hw : want ≤ 9223372036854775807) (c : Nat) (hc : c ≤ 1000) : Calls Tryz.prog f #[v, .int .i64 a, .int .i64 want, .int .i64 c] w fun e W' => e = .returned (.tuple #[.int .i64 (lead s k a want c).1, .bool (lead s k a want c).2]) ∧ Below w.heap.size w W' := by
  simp only [mot, List.mem_cons, List.not_mem_nil, or_false, Prod.mk.injEq] at hm
  rcases hm with ⟨rfl, rfl, -⟩ | ⟨rfl, rfl, -⟩ | ⟨rfl, rfl, -⟩ | ⟨rfl, rfl, -⟩ | ⟨rfl, rfl, -⟩ | ⟨rfl, rfl, -⟩ | ⟨rfl, rfl, -⟩ | ⟨rfl, rfl, -⟩ | ⟨rfl, rfl, -⟩ | ⟨rfl, rfl, -⟩
  · exact left_any h a ha want c hc
  · exact right_any h a ha want c hc
  · exact wordLeft_any h a ha want c hc
  · exact wordRight_any h a ha want c hc
  · exact lineStart_any h a ha want c
  · exact lineEnd_any h a ha want c
  · exact up_any hM h a ha want hw c hc
  · exact down_any hM h a ha want hw c hc
  · exact textStart_any w v a want c
  · exact textEnd_any h a want c
set_option maxRecDepth 100000 in
set_option maxHeartbeats 1000000 in
theorem Go_any (hM : Tryz.prog.follows .mixedOrders = true) (h : Sv w v s) (k i g n : Int) (hi : i ≤ 9223372036854775807) (hg : g ≤ 9223372036854775807) : Calls Tryz.prog 8 #[v, .int .i64 k, .int .i64 i, .int .i64 g, .int .i64 n] w fun e W' => e = .returned (.tuple #[.int .i64 (goP s k i g n).1, .int .i64 (goP s k i g n).2.1, .int .i64 (goP s k i g n).2.2]) ∧ Below w.heap.size w W' := by
  have C := motionOf_any k w
  unfold goP
  rcases mres_cases k with ⟨f, b, h1, hm, h2⟩ | ⟨h1, h2⟩
  · rw [h1] at C
    rw [if_pos h2]
    have hs := h.le
    have hp := (snp_is s i).cb
    have hcn := cnt_eq n
    have hcb := col_bd hp
    have hw : wantF s k (snp s i) (max g (-1)) ≤ 9223372036854775807 := by
      unfold wantF
      split
      · split <;> omega
      · omega
    have hkp := mot_kp hm
    have C0 : Hid (Calls Tryz.prog 21 #[.int .i64 k] w fun e w' => e = .returned (.tuple #[.agg #[.int .i64 k, .func (.func f) #[] #[], .bool b], .bool true]) ∧ Hid (Below w.heap.size w w')) := C
    have C1 : Hid (∀ W, Hid (Below w.heap.size w W) → Calls Tryz.prog 22 #[v, .int .i64 i] W fun e W' => e = .returned (.int .i64 (snp s i : Nat)) ∧ Hid (Below W.heap.size W W')) := fun W hW => (h.below hW.out).snap i hi
    have C2 : Hid (∀ W, Hid (Below w.heap.size w W) → Calls Tryz.prog 23 #[v, .int .i64 (snp s i : Nat), .int .i64 (max g (-1))] W fun e W' => e = .returned (.int .i64 (if max g (-1) = -1 then colF s (snp s i) else max g (-1))) ∧ Hid (Below W.heap.size W W')) := fun W hW => columnWanted_any hM (h.below hW.out) _ hp _
    have C3 : Hid (∀ W, Hid (Below w.heap.size w W) → Calls Tryz.prog f #[v, .int .i64 (snp s i : Nat), .int .i64 (wantF s k (snp s i) (max g (-1))), .int .i64 (cnt n : Nat)] W fun e W' => e = .returned (.tuple #[.int .i64 (lead s k (snp s i) (wantF s k (snp s i) (max g (-1))) (cnt n)).1, .bool (lead s k (snp s i) (wantF s k (snp s i) (max g (-1))) (cnt n)).2]) ∧ Hid (Below W.heap.size W W')) := fun W hW => lead_any hM (h.below hW.out) hm _ hp _ hw _ (by omega)
    have en := mot_en hm
    have hwf : wantF s k (snp s i) (max g (-1)) = if b = true then (if max g (-1) = -1 then colF s (snp s i) else max g (-1)) else -1 := by
      unfold wantF
      rw [hkp]
      by_cases e : k = 10 ∨ k = 11
      · rw [if_pos e, decide_eq_true e, if_pos rfl]
      · rw [if_neg e, decide_eq_false e, if_neg (by simp)]
    generalize lead s k (snp s i) (wantF s k (snp s i) (max g (-1))) (cnt n) = R at C3 ⊢
    generalize wantF s k (snp s i) (max g (-1)) = wv at C3 hwf hw ⊢
    generalize (if max g (-1) = -1 then colF s (snp s i) else max g (-1)) = cv at C2 hwf
    generalize snp s i = p at C1 C2 C3 hp ⊢
    rw [hcn] at C3
    obtain ⟨R1, R2⟩ := R
    obtain ⟨T, hT⟩ : ∃ T, (if ((R1, R2) : Nat × Bool).2 = true then ((((R1, R2) : Nat × Bool).1 : Int), wv, (0 : Int)) else ((p : Int), max g (-1), (8 : Int))) = T := ⟨_, rfl⟩
    rw [hT]
    have HT : Hid ((if R2 = true then ((R1 : Int), wv, (0 : Int)) else ((p : Int), max g (-1), (8 : Int))) = T) := hT
    clear hT
    clear hkp hm h1 h2 C h hs hcb hM hcn
    go_enter Tryz.func8, Tryz.ntmps8
    go_upto_region 4 with (go_at_call 21; refine C0.out.mono ?_; clear C0; rintro e w1 ⟨rfl, HB⟩)
    have HA : Hid (Below w.heap.size w (w1.alloc (.cells #[.int .i64 k, .func (.func f) #[] #[], .bool b] 61))) := HB.out.alloc HB.out.size _
    have HX : Hid (∀ W, Below (w1.alloc (.cells #[.int .i64 k, .func (.func f) #[] #[], .bool b] 61)).heap.size (w1.alloc (.cells #[.int .i64 k, .func (.func f) #[] #[], .bool b] 61)) W → W.cell? ⟨w1.heap.size, 0, none⟩ = some (.int .i64 k) ∧ W.cell? ⟨w1.heap.size, 1, none⟩ = some (.func (.func f) #[] #[]) ∧ W.cell? ⟨w1.heap.size, 2, none⟩ = some (.bool b)) := fun W hW => by
      have e := World.alloc_heap_new w1 (.cells #[.int .i64 k, .func (.func f) #[] #[], .bool b] 61)
      exact cells3 ((hW.block _ (Array.getElem?_eq_some_iff.1 e).1).trans e)
    generalize w1.alloc (.cells #[.int .i64 k, .func (.func f) #[] #[], .bool b] 61) = W1 at HA HX ⊢
    have HS : Hid (Below W1.heap.size W1 W1) := Below.refl _ _
    have D1 : Hid (∀ W, Hid (Below W1.heap.size W1 W) → Calls Tryz.prog 22 #[v, .int .i64 i] W fun e W' => e = .returned (.int .i64 (p : Nat)) ∧ Hid (Below W1.heap.size W1 W')) := fun W hW => (C1.out W (Below.on HA.out hW.out)).mono fun e W' ⟨q1, q2⟩ => ⟨q1, Below.on hW.out q2.out⟩
    have D2 : Hid (∀ W, Hid (Below W1.heap.size W1 W) → Calls Tryz.prog 23 #[v, .int .i64 (p : Nat), .int .i64 (max g (-1))] W fun e W' => e = .returned (.int .i64 cv) ∧ Hid (Below W1.heap.size W1 W')) := fun W hW => (C2.out W (Below.on HA.out hW.out)).mono fun e W' ⟨q1, q2⟩ => ⟨q1, Below.on hW.out q2.out⟩
    have D3 : Hid (∀ W, Hid (Below W1.heap.size W1 W) → Calls Tryz.prog f #[v, .int .i64 (p : Nat), .int .i64 wv, .int .i64 (min (max n 1) 1000)] W fun e W' => e = .returned (.tuple #[.int .i64 R1, .bool R2]) ∧ Hid (Below W1.heap.size W1 W')) := fun W hW => (C3.out W (Below.on HA.out hW.out)).mono fun e W' ⟨q1, q2⟩ => ⟨q1, Below.on hW.out q2.out⟩
    clear C1 C2 C3 hp hw HB
    obtain ⟨x0, x1, x2⟩ := HX.out _ HS.out
    cases b with
    | false =>
      rw [if_neg (by simp)] at hwf
      subst hwf
      clear D2
      cases R2 with
      | true =>
        go_wp2_with (first
          | (go_at_call 22; refine (D1.out _ HS).mono ?_; clear D1 HS x0 x1 x2; rintro e w2 ⟨rfl, HB2⟩; obtain ⟨x0, x1, x2⟩ := HX.out _ HB2.out)
          | (go_at_fn f; refine (D3.out _ HB2).mono ?_; clear D3 HB2 x0 x1 x2; rintro e w3 ⟨rfl, HB3⟩))
        go_ret3
        exact ⟨by rw [← HT.out]; rfl, Below.on HA.out HB3.out⟩
      | false =>
        go_wp2_with (first
          | (go_at_call 22; refine (D1.out _ HS).mono ?_; clear D1 HS x0 x1 x2; rintro e w2 ⟨rfl, HB2⟩; obtain ⟨x0, x1, x2⟩ := HX.out _ HB2.out)
          | (go_at_fn f; refine (D3.out _ HB2).mono ?_; clear D3 HB2 x0 x1 x2; rintro e w3 ⟨rfl, HB3⟩))
        go_ret3
        exact ⟨by rw [← HT.out]; rfl, Below.on HA.out HB3.out⟩
    | true =>
      rw [if_pos rfl] at hwf
      subst hwf
      cases R2 with
      | true =>
        go_wp2_with (first
          | (go_at_call 22; refine (D1.out _ HS).mono ?_; clear D1 HS x0 x1 x2; rintro e w2 ⟨rfl, HB2⟩; obtain ⟨x0, x1, x2⟩ := HX.out _ HB2.out)
          | (go_at_call 23; refine (D2.out _ HB2).mono ?_; clear D2 HB2 x0 x1 x2; rintro e w4 ⟨rfl, HB4⟩; obtain ⟨x0, x1, x2⟩ := HX.out _ HB4.out)
          | (go_at_fn f; refine (D3.out _ HB4).mono ?_; clear D3 HB4 x0 x1 x2; rintro e w3 ⟨rfl, HB3⟩))
        go_ret3
        exact ⟨by rw [← HT.out]; rfl, Below.on HA.out HB3.out⟩
      | false =>
        go_wp2_with (first
          | (go_at_call 22; refine (D1.out _ HS).mono ?_; clear D1 HS x0 x1 x2; rintro e w2 ⟨rfl, HB2⟩; obtain ⟨x0, x1, x2⟩ := HX.out _ HB2.out)
          | (go_at_call 23; refine (D2.out _ HB2).mono ?_; clear D2 HB2 x0 x1 x2; rintro e w4 ⟨rfl, HB4⟩; obtain ⟨x0, x1, x2⟩ := HX.out _ HB4.out)
          | (go_at_fn f; refine (D3.out _ HB4).mono ?_; clear D3 HB4 x0 x1 x2; rintro e w3 ⟨rfl, HB3⟩))
        go_ret3
        exact ⟨by rw [← HT.out]; rfl, Below.on HA.out HB3.out⟩
  · rw [h1] at C
    rw [if_neg h2]
    have C0 : Hid (Calls Tryz.prog 21 #[.int .i64 k] w fun e w' => e = .returned (.tuple #[.agg #[.int .i64 0, .nilFunc, .bool false], .bool false]) ∧ Hid (Below w.heap.size w w')) := C
    clear C h1 h2 h hM
    go_enter Tryz.func8, Tryz.ntmps8
    go_wp2_with (go_at_call 21; refine C0.out.mono ?_; clear C0; rintro e w0 ⟨rfl, HB⟩)
    go_ret3
    exact ⟨rfl, HB.out.alloc HB.out.size _⟩
end
end Go.Proofs.YtplieccalmkloaaGreatDoor.Sto
namespace Go.Proofs.YtplieccalmkloaaGreatDoor.Sto
open Go.RowKit Go.Shelf Bod Wid
open Gap (lim)

set_option maxRecDepth 100000 in
set_option maxHeartbeats 1000000 in
theorem laid_any (w : World) (hE : Ev w) (s : ByteArray) (hs : s.size ≤ 1073741824) (kd : Nat) (hk : kd ≤ 255) : Calls Tryz.prog 7 #[.int .u8 kd, .string s] w fun e W' => ∃ p, e = .returned (.pointer p) ∧ Sv W' (.pointer p) s ∧ Below w.heap.size w W' := by
  have hl : lim 1073741824 = 1073741824 := by decide
  have C : Hid (∀ x : Int, Calls Tryz.prog 20 #[.int .i64 x, .int .i64 kd, .int .i64 ((kd : Int) + 8), .int .i64 1073741824, .string s] w fun e W' => ∃ b : Nat, e = .returned (.tuple #[.pointer (some ⟨b, 0, none⟩), .int .i64 0]) ∧ Hid (Sv W' (.pointer (some ⟨b, 0, none⟩)) s ∧ Below w.heap.size w W')) := fun x => by
    refine (snew_ok w x kd ((kd : Int) + 8) 1073741824 s (by rw [hl]; exact hs) (by rw [hl]; simp [nwK, Sk.fit]; omega) hE).mono ?_
    rintro e W' ⟨b, q1, y, K, h1, h2, h3, h4, h5, h6, h7⟩
    exact ⟨b, q1, ⟨⟨_, _, K, h1.spt, h1.hold, h3⟩, hE.below h5⟩, h5⟩
  have hk' : (kd : Int) ≤ 255 := by omega
  clear hE hs hl
  go_enter Tryz.func7, Tryz.ntmps7
  go_wp2_with (go_at_call 20; refine (C.out _).mono ?_; clear C; rintro e w1 ⟨b, rfl, HB⟩)
  go_ret
  exact ⟨_, rfl, HB.out.1, HB.out.2⟩
/-- the document's text -/
def exm : ByteArray := ⟨#[97, 98, 10, 228, 184, 128, 99, 10, 100]⟩
theorem exm0 : IsS exm 0 (some (0, 2)) := ⟨⟨by decide +kernel, .inl rfl, by decide +kernel⟩, some 3, ⟨by decide +kernel, by decide +kernel, by decide +kernel, by decide +kernel⟩, by decide +kernel⟩
theorem exm1 : IsS exm 1 (some (3, 7)) := ⟨⟨by decide +kernel, .inr (by decide +kernel), by decide +kernel⟩, some 8, ⟨by decide +kernel, by decide +kernel, by decide +kernel, by decide +kernel⟩, by decide +kernel⟩
theorem exm_n : cn exm 0 1 = 0 ∧ cn exm 0 9 = 2 ∧ cn exm 0 7 = 1 ∧ exm.size = 9 := by decide +kernel
theorem exm_a : IsA exm 1 1 (some 3) := ⟨3, 7, exm1, by decide +kernel, by decide +kernel, by decide +kernel, by decide +kernel, fun j h1 h2 hc => by
  have : j = 4 ∨ j = 5 ∨ j = 6 ∨ j = 7 := by omega
  rcases this with rfl | rfl | rfl | rfl
  · exact absurd hc (by decide +kernel)
  · exact absurd hc (by decide +kernel)
  · decide +kernel
  · decide +kernel⟩
theorem exm_p1 : Pl exm 1 0 2 := ⟨by rw [exm_n.1]; exact exm0, by omega, by omega, by decide +kernel, ⟨by omega, .inl rfl, by decide +kernel⟩⟩
theorem exm_p7 : Pl exm 7 3 7 := ⟨by rw [exm_n.2.2.1]; exact exm1, by omega, by omega, by decide +kernel, ⟨by omega, .inr (by decide +kernel), by decide +kernel⟩⟩
theorem exm_c1 : colF exm 1 = 1 := by rw [col_pl exm_p1]; decide +kernel
theorem exm_c7 : colF exm (snp exm 7) = 3 := by
  have : snp exm 7 = 7 := snp_self (s := exm) (a := 7) exm_p7.cb
  rw [this, col_pl exm_p7]; decide +kernel
theorem exm_g1 : goP exm 11 1 (-1) 1 = (3, 1, 0) := by
  have h1 : snp exm 1 = 1 := snp_self (s := exm) (a := 1) exm_p1.cb
  rw [goP_in (by omega), h1, show max (-1 : Int) (-1) = -1 from rfl, show cnt 1 = 1 from rfl]
  have h2 : wantF exm 11 1 (-1) = 1 := by unfold wantF; rw [if_pos (.inr rfl), if_pos rfl, exm_c1]
  have h3 : lead exm 11 1 1 1 = (3, true) := by
    show away exm 1 1 ((1 : Nat) : Int) = _
    have e : hl exm ((cn exm 0 1 : Int) + ((1 : Nat) : Int)) = 1 := by unfold hl; rw [exm_n.2.2.2, exm_n.1, exm_n.2.1]; decide
    unfold away
    rw [e, plcF_eq exm_a, exm_n.1]
    decide
  rw [h2, h3]
  rfl
theorem exm_g2 : goP exm 11 9 (-1) 1 = (9, -1, 8) := by
  have h1 : snp exm 9 = 9 := snp_self (s := exm) (a := 9) (by decide +kernel)
  rw [goP_in (by omega), h1, show max (-1 : Int) (-1) = -1 from rfl, show cnt 1 = 1 from rfl]
  generalize wantF exm 11 9 (-1) = W
  have h3 : (lead exm 11 9 W 1).2 = false := by
    show (away exm 9 W ((1 : Nat) : Int)).2 = _
    have e : hl exm ((cn exm 0 9 : Int) + ((1 : Nat) : Int)) = 2 := by unfold hl; rw [exm_n.2.2.2, exm_n.2.1]; decide
    unfold away
    rw [e, exm_n.2.1]
    show (!decide ((2 : Int) = ((2 : Nat) : Int))) = false
    decide
  rw [if_neg (by rw [h3]; simp)]
  rfl
set_option maxRecDepth 100000 in
set_option maxHeartbeats 2000000 in
theorem goes_any (hM : Tryz.prog.follows .mixedOrders = true) (w : World) (hE : Ev w) : Calls Tryz.prog 6 #[] w fun e W' => e = .returned (.bool true) ∧ Below w.heap.size w W' := by
  have C0 : Hid (Calls Tryz.prog 7 #[.int .u8 1, .string ⟨#[97, 98, 10, 228, 184, 128, 99, 10, 100]⟩] w fun e W' => ∃ p, e = .returned (.pointer p) ∧ Hid (Sv W' (.pointer p) exm ∧ Below w.heap.size w W')) := laid_any w hE exm (by decide +kernel) 1 (by omega)
  have C1 : Hid (∀ W p, Hid (Sv W (.pointer p) exm ∧ Below w.heap.size w W) → Calls Tryz.prog 8 #[.pointer p, .int .i64 11, .int .i64 1, .int .i64 (-1), .int .i64 1] W fun e W' => e = .returned (.tuple #[.int .i64 3, .int .i64 1, .int .i64 0]) ∧ Hid (Sv W' (.pointer p) exm ∧ Below w.heap.size w W')) := fun W p hW => (Go_any hM hW.out.1 11 1 (-1) 1 (by omega) (by omega)).mono fun e W' ⟨q1, q2⟩ => ⟨by rw [q1, exm_g1], hW.out.1.below q2, Below.on hW.out.2 q2⟩
  have C2 : Hid (∀ W p, Hid (Sv W (.pointer p) exm ∧ Below w.heap.size w W) → Calls Tryz.prog 8 #[.pointer p, .int .i64 11, .int .i64 9, .int .i64 (-1), .int .i64 1] W fun e W' => e = .returned (.tuple #[.int .i64 9, .int .i64 (-1), .int .i64 8]) ∧ Hid (Sv W' (.pointer p) exm ∧ Below w.heap.size w W')) := fun W p hW => (Go_any hM hW.out.1 11 9 (-1) 1 (by omega) (by omega)).mono fun e W' ⟨q1, q2⟩ => ⟨by rw [q1, exm_g2], hW.out.1.below q2, Below.on hW.out.2 q2⟩
  have C3 : Hid (∀ W p, Hid (Sv W (.pointer p) exm ∧ Below w.heap.size w W) → Calls Tryz.prog 9 #[.pointer p, .int .i64 7] W fun e W' => e = .returned (.int .i64 3) ∧ Hid (Below w.heap.size w W')) := fun W p hW => (Column_any hM hW.out.1 7 (by omega)).mono fun e W' ⟨q1, q2⟩ => ⟨by rw [q1, exm_c7], Below.on hW.out.2 q2⟩
  have C4 : Hid (∀ W, Hid (Below w.heap.size w W) → Calls Tryz.prog 19 #[.int .i64 10] W fun e W' => e = .returned (.bool true) ∧ Hid (Below w.heap.size w W')) := fun W hW => (Motion_any 10 W).mono fun e W' ⟨q1, q2⟩ => ⟨by rw [q1]; rfl, Below.on hW.out q2⟩
  have C5 : Hid (∀ W, Hid (Below w.heap.size w W) → Calls Tryz.prog 19 #[.int .i64 32] W fun e W' => e = .returned (.bool false) ∧ Hid (Below w.heap.size w W')) := fun W hW => (Motion_any 32 W).mono fun e W' ⟨q1, q2⟩ => ⟨by rw [q1]; rfl, Below.on hW.out q2⟩
  clear hE hM
  have T1 : True := trivial
  have T2 : True := trivial
  go_enter Tryz.func6, Tryz.ntmps6
  go_wp2_with (first
    | (go_at_call 7; refine C0.out.mono ?_; clear C0; rintro e w1 ⟨p, rfl, HB⟩)
    | (go_at_call 8; clear T1; refine (C1.out _ _ HB).mono ?_; clear C1 HB; rintro e w2 ⟨rfl, HB⟩)
    | (go_at_call 8; refine (C2.out _ _ HB).mono ?_; clear C2 HB; rintro e w3 ⟨rfl, HB⟩)
    | (go_at_call 9; refine (C3.out _ _ HB).mono ?_; clear C3 HB; rintro e w4 ⟨rfl, HB⟩)
    | (go_at_call 19; clear T2; refine (C4.out _ HB).mono ?_; clear C4 HB; rintro e w5 ⟨rfl, HB⟩)
    | (go_at_call 19; refine (C5.out _ HB).mono ?_; clear C5 HB; rintro e w6 ⟨rfl, HB⟩))
  go_ret
  exact ⟨rfl, HB.out⟩
end Go.Proofs.YtplieccalmkloaaGreatDoor.Sto
