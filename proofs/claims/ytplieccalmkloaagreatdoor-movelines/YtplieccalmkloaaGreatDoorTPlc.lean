/-
  Package store's Boundary, Next, Prev and Snap: the places of the whole text, found in pieces of it. Conditions: the two tables of unicode/utf8 lie as their text lays them; the offset is an int.
-/
import Derived.Test.YtplieccalmkloaaGreatDoorPkTA
import Derived.Test.YtplieccalmkloaaGreatDoorPkDB
import Derived.Test.YtplieccalmkloaaGreatDoorCPlaces
namespace Go.Proofs.YtplieccalmkloaaGreatDoor.Sto
open Go.RowKit Go.Shelf Bod Wid
open Gap (gSlice gRng)

theorem gSlice_nat {s : ByteArray} {f t : Nat} (h1 : f ≤ t) (h2 : t ≤ s.size) : (gSlice s (f : Int) (t : Int)).1 = s.extract f t := by
  have h : gRng (f : Int) (t : Int) s.size = false := by simp [gRng]; omega
  unfold gSlice
  rw [h]
  rfl
/-- the text's length, and a piece of it, in later worlds -/
structure Pcs (w : World) (v : Value) (s : ByteArray) (n : Nat) : Prop where
  len0 : ∀ W, Below w.heap.size w W → Calls Tryz.prog 69 #[v] W fun e W' => e = .returned (.int .i64 n) ∧ Below W.heap.size W W'
  piece0 : ∀ (W : World) (f t : Nat), Below w.heap.size w W → f ≤ t → t ≤ n → Calls Tryz.prog 68 #[v, .int .i64 f, .int .i64 t] W fun e W' => e = .returned (.string (s.extract f t)) ∧ Below W.heap.size W W'
  size : s.size = n
  le : n ≤ 1073741824
theorem Pcs.len {w : World} {v : Value} {s : ByteArray} {n : Nat} (h : Pcs w v s n) : Calls Tryz.prog 69 #[v] w fun e W' => e = .returned (.int .i64 n) ∧ Hid (Below w.heap.size w W') := h.len0 w (Below.refl _ w)
theorem Pcs.piece {w : World} {v : Value} {s : ByteArray} {n : Nat} (h : Pcs w v s n) (W : World) (f t : Nat) (hW : Hid (Below w.heap.size w W)) (h1 : f ≤ t) (h2 : t ≤ n) : Calls Tryz.prog 68 #[v, .int .i64 f, .int .i64 t] W fun e W' => e = .returned (.string (s.extract f t)) ∧ Hid (Below w.heap.size w W') :=
  (h.piece0 W f t hW.out h1 h2).mono fun _ _ ⟨q1, q2⟩ => ⟨q1, Below.on hW.out q2⟩
theorem Pcs.below {w W : World} {v : Value} {s : ByteArray} {n : Nat} (h : Pcs w v s n) (hb : Below w.heap.size w W) : Pcs W v s n := ⟨fun X hX => h.len0 X (Below.on hb hX), fun X f t hX => h.piece0 X f t (Below.on hb hX), h.size, h.le⟩
theorem pcs_of {w : World} {v : Value} {x : Option Tx} {k : Sk} {K : Kp} (h : Spt w v x k) (hH : Hold w (Tx.or x) K) : Pcs w v K.text K.text.size :=
  ⟨fun W hW => slen_any (h.below hW) (hH.below hW), fun W f t hW h1 h2 => (spiece_any (h.below hW) (hH.below hW) f t).mono fun e W' ⟨q1, q2⟩ => ⟨by rw [q1, gSlice_nat h1 h2], q2⟩, rfl, by have := hH.size; omega⟩
set_option maxRecDepth 100000 in
set_option maxHeartbeats 1000000 in
theorem bound_of {w : World} {v : Value} {s : ByteArray} {n : Nat} (h : Pcs w v s n) (hE : Ev w) (i : Int) (hi : i ≤ 9223372036854775807) : Calls Tryz.prog 44 #[v, .int .i64 i] w fun e W' => e = .returned (.bool (cbZ s i)) ∧ Below w.heap.size w W' := by
  have C1 : Hid (Calls Tryz.prog 69 #[v] w fun e W' => e = .returned (.int .i64 n) ∧ Hid (Below w.heap.size w W')) := h.len
  have hz := h.size
  have hn := h.le
  by_cases c1 : i < 0
  · rw [cb_out (.inl c1)]
    clear h hE hz
    go_enter Tryz.func44, Tryz.ntmps44
    go_wp2_with (go_at_call 69; refine C1.out.mono ?_; clear C1; rintro e w1 ⟨rfl, HB⟩)
    go_ret
    exact ⟨rfl, HB.out⟩
  by_cases c2 : (n : Int) < i
  · rw [cb_out (.inr (by rw [hz]; exact c2))]
    clear h hE hz
    go_enter Tryz.func44, Tryz.ntmps44
    go_wp2_with (go_at_call 69; refine C1.out.mono ?_; clear C1; rintro e w1 ⟨rfl, HB⟩)
    go_ret
    exact ⟨rfl, HB.out⟩
  obtain ⟨a, rfl⟩ := Int.eq_ofNat_of_zero_le (show 0 ≤ i by omega)
  obtain ⟨f, hf⟩ : ∃ f, a - 4 = f := ⟨_, rfl⟩
  obtain ⟨t, ht⟩ : ∃ t, min (a + 4) n = t := ⟨_, rfl⟩
  obtain ⟨d, hd⟩ : ∃ d, a - f = d := ⟨_, rfl⟩
  have e1 : max ((a : Int) - 4) 0 = f := by omega
  have e2 : min ((a : Int) + 4) n = t := by omega
  have e3 : (a : Int) - f = d := by omega
  have C2 : Hid (∀ W, Hid (Below w.heap.size w W) → Calls Tryz.prog 68 #[v, .int .i64 f, .int .i64 t] W fun e W' => e = .returned (.string (s.extract f t)) ∧ Hid (Below w.heap.size w W')) := fun W hW => h.piece W f t hW (by omega) (by omega)
  have hp := size_extract s f t (by omega)
  have C3 : Hid (∀ W, Hid (Below w.heap.size w W) → Calls Tryz.prog 30 #[.string (s.extract f t), .int .i64 d] W fun e W' => e = .returned (.bool (cbZ s a)) ∧ Below w.heap.size w W') := fun W hW => by
    have := cbound_any (s.extract f t) d (by unfold maxLen; omega) W (hE.below hW.out).t (by omega)
    have hb := bound_piece (s := s) (a := a) (by omega)
    rw [hz, hf, ht, hd] at hb
    rw [hb] at this
    exact this.mono fun e W' ⟨q1, q2⟩ => ⟨q1, Below.on hW.out q2⟩
  generalize cbZ s a = R at C3 ⊢
  generalize s.extract f t = p at C2 C3
  have b1 : (a : Int) ≤ 1073741824 := by omega
  clear h hE hz hp hf ht hd
  go_enter Tryz.func44, Tryz.ntmps44
  go_wp2_with (first
    | (go_at_call 69; refine C1.out.mono ?_; clear C1; rintro e w1 ⟨rfl, HB⟩)
    | (go_at_call 68; refine (C2.out _ HB).mono ?_; clear C2 HB; rintro e w2 ⟨rfl, HB⟩)
    | (go_at_call 30; refine (C3.out _ HB).mono ?_; clear C3 HB; rintro e w3 ⟨rfl, hb⟩; have HB : Hid (Below w.heap.size w w3) := hb; clear hb))
  go_ret
  exact ⟨rfl, HB.out⟩
set_option maxRecDepth 100000 in
set_option maxHeartbeats 1000000 in
theorem next_of {w : World} {v : Value} {s : ByteArray} {n : Nat} (h : Pcs w v s n) (hE : Ev w) (i : Int) : Calls Tryz.prog 45 #[v, .int .i64 i] w fun e W' => ∃ m : Nat, e = .returned (.int .i64 m) ∧ IsNext s i m ∧ Below w.heap.size w W' := by
  have C1 : Hid (Calls Tryz.prog 69 #[v] w fun e W' => e = .returned (.int .i64 n) ∧ Hid (Below w.heap.size w W')) := h.len
  have hz := h.size
  have hn := h.le
  by_cases c1 : i < 0
  · have HN : Hid (IsNext s i 0) := next_low c1
    clear h hE hz
    go_enter Tryz.func45, Tryz.ntmps45
    go_wp2_with (go_at_call 69; refine C1.out.mono ?_; clear C1; rintro e w1 ⟨rfl, HB⟩)
    go_ret
    exact ⟨0, rfl, HN.out, HB.out⟩
  by_cases c2 : (n : Int) ≤ i
  · have HN : Hid (IsNext s i n) := by have := next_high (s := s) (i := i) (by rw [hz]; exact c2); rw [hz] at this; exact this
    clear h hE hz
    go_enter Tryz.func45, Tryz.ntmps45
    go_wp2_with (go_at_call 69; refine C1.out.mono ?_; clear C1; rintro e w1 ⟨rfl, HB⟩)
    go_ret
    exact ⟨n, rfl, HN.out, HB.out⟩
  obtain ⟨a, rfl⟩ := Int.eq_ofNat_of_zero_le (show 0 ≤ i by omega)
  obtain ⟨f, hf⟩ : ∃ f, a - 4 = f := ⟨_, rfl⟩
  obtain ⟨d, hd⟩ : ∃ d, a - f = d := ⟨_, rfl⟩
  have e1 : max ((a : Int) - 4) 0 = f := by omega
  have e3 : (a : Int) - f = d := by omega
  have b1 : (a : Int) ≤ 1073741824 := by omega
  have HP : Hid (Pcs w v s n ∧ Ev w ∧ a - 4 = f ∧ a - f = d ∧ a < n) := ⟨h, hE, hf, hd, by omega⟩
  clear h hE hz hf hd
  obtain ⟨M, hM⟩ : ∃ M : Nat, 2147483648 ≤ M ∧ M ≤ 2147483648 := ⟨2147483648, by omega, by omega⟩
  have HMM : Hid (2147483648 ≤ M ∧ M ≤ 2147483648) := hM
  clear hM
  have t1 : decide ((a : Int) < 0) = false := by simp
  have t2 : decide (n ≤ a) = false := by simp; omega
  have t3 : decide ((n : Int) ≤ a) = false := by simp; omega
  go_enter Tryz.func45, Tryz.ntmps45
  go_wp2_with (go_at_call 69; refine C1.out.mono ?_; clear C1; rintro e w1 ⟨rfl, HB⟩)
  go_loopw [7] (fun t7 wr => ∃ r : Nat, t7 = .int .i64 r ∧ 32 ≤ r ∧ r ≤ M ∧ Hid (Below w.heap.size w wr)) (fun t7 _ => M - (intOf t7).toNat)
  case atStart => exact ⟨32, rfl, by omega, by have := HMM.out; omega, HB.out⟩
  case round =>
    clear HB
    obtain ⟨r, rfl, hr1, hr2, HB⟩ := hrel
    have hr4 : (r : Int) ≤ 2147483648 := by have := HMM.out; omega
    obtain ⟨t, ht⟩ : ∃ t, min (a + r) n = t := ⟨_, rfl⟩
    have e2 : min ((a : Int) + r) n = t := by omega
    have ht1 : f ≤ t := by have := HP.out.2.2; omega
    have ht2 : a < t ∧ t ≤ n := by have := HP.out.2.2; omega
    have hz := HP.out.1.size
    have hp := size_extract s f t (by omega)
    obtain ⟨m, hm⟩ : ∃ m, IsNext (s.extract f t) (d : Int) m := ⟨_, nxC_is (by have := HP.out.2.2; omega)⟩
    have hmz : m ≤ t := by obtain ⟨_, e, b⟩ := cb_B hm.cb; have := b.1; omega
    have C2 : Hid (∀ W, Hid (Below w.heap.size w W) → Calls Tryz.prog 68 #[v, .int .i64 f, .int .i64 t] W fun e W' => e = .returned (.string (s.extract f t)) ∧ Hid (Below w.heap.size w W')) := fun W hW => HP.out.1.piece W f t hW ht1 ht2.2
    have C3 : Hid (∀ W, Hid (Below w.heap.size w W) → Calls Tryz.prog 12 #[.string (s.extract f t), .int .i64 d] W fun e W' => e = .returned (.int .i64 m) ∧ Hid (Below w.heap.size w W')) := fun W hW =>
      (cnext_any (s.extract f t) d (by unfold maxLen; omega) W (HP.out.2.1.below hW.out).t).mono fun e W' ⟨m', q1, q2, q3⟩ => ⟨by rw [q1, q2.uniq hm], Below.on hW.out q3⟩
    have HM : Hid (f + m + 4 ≤ t ∨ t = n → IsNext s a (f + m)) := fun hc => by
      have h2 := HP.out.2.2
      refine next_piece (a := a) (f := f) (t := t) (m := m) ht2.1 (by omega) (by omega) (by omega) ?_ (by rw [hz]; exact hc)
      rw [h2.2.1]; exact hm
    have HR : Hid (t < n → r < n ∧ a + r = t) := fun h => by omega
    generalize s.extract f t = p at C2 C3 hm hp
    have b2 : (f : Int) ≤ 1073741824 ∧ (m : Int) ≤ 1073741824 ∧ (t : Int) ≤ 1073741824 := by omega
    clear hm hp hz ht ht1
    by_cases c3 : f + m + 4 ≤ t
    · have c4 : (f : Int) + m ≤ (t : Int) - 4 := by omega
      have HN : Hid (IsNext s a (f + m)) := HM.out (.inl c3)
      clear c3 HM HR HP
      go_wp2_with (first
        | (go_at_call 68; refine (C2.out _ HB).mono ?_; clear C2 HB; rintro e w2 ⟨rfl, HB⟩)
        | (go_at_call 12; refine (C3.out _ HB).mono ?_; clear C3 HB; rintro e w3 ⟨rfl, HB⟩))
      go_ret
      exact ⟨f + m, ret_int (by omega), HN.out, HB.out⟩
    · have c4 : ¬ ((f : Int) + m ≤ (t : Int) - 4) := by omega
      by_cases c5 : t = n
      · have HN : Hid (IsNext s a (f + m)) := HM.out (.inr c5)
        subst c5
        clear c3 HM HR HP
        go_wp2_with (first
          | (go_at_call 68; refine (C2.out _ HB).mono ?_; clear C2 HB; rintro e w2 ⟨rfl, HB⟩)
          | (go_at_call 12; refine (C3.out _ HB).mono ?_; clear C3 HB; rintro e w3 ⟨rfl, HB⟩))
        go_ret
        exact ⟨f + m, ret_int (by omega), HN.out, HB.out⟩
      · have c6 : ¬ ((t : Int) = n) := by omega
        have c7 : ((t : Int) == n) = false := by simp; omega
        have hrn := HR.out (by omega)
        have HR3 : Hid (r < 1073741824) := by show r < 1073741824; omega
        clear c3 HM HR hrn
        go_wp2_with (first
          | (go_at_call 68; refine (C2.out _ HB).mono ?_; clear C2 HB; rintro e w2 ⟨rfl, HB⟩)
          | (go_at_call 12; refine (C3.out _ HB).mono ?_; clear C3 HB; rintro e w3 ⟨rfl, HB⟩))
        have hm2 := HMM.out
        have hm3 := HR3.out
        exact ⟨⟨r * 2, by go_num, by omega, by omega, HB.out⟩, by simp [intOf]; omega⟩
set_option maxRecDepth 100000 in
set_option maxHeartbeats 1000000 in
theorem prev_of {w : World} {v : Value} {s : ByteArray} {n : Nat} (h : Pcs w v s n) (hE : Ev w) (i : Int) : Calls Tryz.prog 109 #[v, .int .i64 i] w fun e W' => ∃ m : Nat, e = .returned (.int .i64 m) ∧ IsPrev s i m ∧ Below w.heap.size w W' := by
  have C1 : Hid (Calls Tryz.prog 69 #[v] w fun e W' => e = .returned (.int .i64 n) ∧ Hid (Below w.heap.size w W')) := h.len
  have hz := h.size
  have hn := h.le
  by_cases c1 : (n : Int) < i
  · have HN : Hid (IsPrev s i n) := by have := prev_high (s := s) (i := i) (by rw [hz]; exact c1); rw [hz] at this; exact this
    clear h hE hz
    go_enter Tryz.func109, Tryz.ntmps109
    go_wp2_with (go_at_call 69; refine C1.out.mono ?_; clear C1; rintro e w1 ⟨rfl, HB⟩)
    go_ret
    exact ⟨n, rfl, HN.out, HB.out⟩
  by_cases c2 : i ≤ 0
  · have HN : Hid (IsPrev s i 0) := prev_low c2
    clear h hE hz
    go_enter Tryz.func109, Tryz.ntmps109
    go_wp2_with (go_at_call 69; refine C1.out.mono ?_; clear C1; rintro e w1 ⟨rfl, HB⟩)
    go_ret
    exact ⟨0, rfl, HN.out, HB.out⟩
  obtain ⟨a, rfl⟩ := Int.eq_ofNat_of_zero_le (show 0 ≤ i by omega)
  obtain ⟨t, ht⟩ : ∃ t, min (a + 4) n = t := ⟨_, rfl⟩
  have e1 : min ((a : Int) + 4) n = t := by omega
  have b1 : (a : Int) ≤ 1073741824 := by omega
  have HP : Hid (Pcs w v s n ∧ Ev w ∧ min (a + 4) n = t ∧ 0 < a ∧ a ≤ n) := ⟨h, hE, ht, by omega, by omega⟩
  clear h hE hz ht
  obtain ⟨M, hM⟩ : ∃ M : Nat, 2147483648 ≤ M ∧ M ≤ 2147483648 := ⟨2147483648, by omega, by omega⟩
  have HMM : Hid (2147483648 ≤ M ∧ M ≤ 2147483648) := hM
  clear hM
  have t1 : decide ((a : Int) ≤ 0) = false := by simp; omega
  have t2 : decide (n < a) = false := by simp; omega
  have t3 : decide ((n : Int) < a) = false := by simp; omega
  have t4 : decide (a = 0) = false := by simp; omega
  go_enter Tryz.func109, Tryz.ntmps109
  go_wp2_with (go_at_call 69; refine C1.out.mono ?_; clear C1; rintro e w1 ⟨rfl, HB⟩)
  go_loopw [7] (fun t7 wr => ∃ r : Nat, t7 = .int .i64 r ∧ 32 ≤ r ∧ r ≤ M ∧ Hid (Below w.heap.size w wr)) (fun t7 _ => M - (intOf t7).toNat)
  case atStart => exact ⟨32, rfl, by omega, by have := HMM.out; omega, HB.out⟩
  case round =>
    clear HB
    obtain ⟨r, rfl, hr1, hr2, HB⟩ := hrel
    have hr4 : (r : Int) ≤ 2147483648 := by have := HMM.out; omega
    obtain ⟨f, hf⟩ : ∃ f, a - r = f := ⟨_, rfl⟩
    obtain ⟨d, hd⟩ : ∃ d, a - f = d := ⟨_, rfl⟩
    have h2 := HP.out.2.2
    have e2 : max ((a : Int) - r) 0 = f := by omega
    have e3 : (a : Int) - f = d := by omega
    have hz := HP.out.1.size
    have ht1 : f ≤ t ∧ t ≤ n ∧ a ≤ t := by omega
    have hp := size_extract s f t (by omega)
    obtain ⟨m, hm⟩ : ∃ m, IsPrev (s.extract f t) (d : Int) m := ⟨_, pvC_is _ _⟩
    have hmz : m ≤ t := by obtain ⟨_, e, b⟩ := cb_B hm.cb; have := b.1; omega
    have C2 : Hid (∀ W, Hid (Below w.heap.size w W) → Calls Tryz.prog 68 #[v, .int .i64 f, .int .i64 t] W fun e W' => e = .returned (.string (s.extract f t)) ∧ Hid (Below w.heap.size w W')) := fun W hW => HP.out.1.piece W f t hW ht1.1 ht1.2.1
    have C3 : Hid (∀ W, Hid (Below w.heap.size w W) → Calls Tryz.prog 90 #[.string (s.extract f t), .int .i64 d] W fun e W' => e = .returned (.int .i64 m) ∧ Hid (Below w.heap.size w W')) := fun W hW =>
      (cprev_any (s.extract f t) d (by unfold maxLen; omega) W (HP.out.2.1.below hW.out).t (by omega)).mono fun e W' ⟨m', q1, q2, q3⟩ => ⟨by rw [q1, q2.uniq hm], Below.on hW.out q3⟩
    have HM : Hid (4 ≤ m ∨ f = 0 → IsPrev s a (f + m)) := fun hc => by
      refine prev_piece (a := a) (f := f) (t := t) (m := m) ht1.2.2 (by omega) (by omega) (by omega) ?_ hc
      rw [hd]; exact hm
    have HR : Hid (f ≠ 0 → r < n) := fun h => by omega
    generalize s.extract f t = p at C2 C3 hm hp
    have b2 : (f : Int) ≤ 1073741824 ∧ (m : Int) ≤ 1073741824 ∧ (t : Int) ≤ 1073741824 := by omega
    clear hm hp hz hf hd ht1 h2
    by_cases c3 : 4 ≤ m
    · have c4 : (f : Int) + 4 ≤ (f : Int) + m := by omega
      have HN : Hid (IsPrev s a (f + m)) := HM.out (.inl c3)
      clear HM HR HP
      go_wp2_with (first
        | (go_at_call 68; refine (C2.out _ HB).mono ?_; clear C2 HB; rintro e w2 ⟨rfl, HB⟩)
        | (go_at_call 90; refine (C3.out _ HB).mono ?_; clear C3 HB; rintro e w3 ⟨rfl, HB⟩))
      go_ret
      exact ⟨f + m, ret_int (by omega), HN.out, HB.out⟩
    · have c4 : ¬ ((f : Int) + 4 ≤ (f : Int) + m) := by omega
      have c8 : ¬ ((4 : Int) ≤ m) := by omega
      by_cases c5 : f = 0
      · have HN : Hid (IsPrev s a (f + m)) := HM.out (.inr c5)
        have C4 : Hid (∀ W, Hid (Below w.heap.size w W) → Calls Tryz.prog 68 #[v, .int .i64 0, .int .i64 t] W fun e W' => e = .returned (.string p) ∧ Hid (Below w.heap.size w W')) := fun W hW => by have := C2.out W hW; rw [c5] at this; exact this
        have C5 : Hid (∀ W, Hid (Below w.heap.size w W) → Calls Tryz.prog 90 #[.string p, .int .i64 a] W fun e W' => e = .returned (.int .i64 m) ∧ Hid (Below w.heap.size w W')) := fun W hW => by have := C3.out W hW; rw [show (d : Int) = a by omega] at this; exact this
        have e5 : max ((a : Int) - r) 0 = 0 := by omega
        clear C2 C3 e2 e3 c4
        clear HM HR HP
        go_wp2_with (first
          | (go_at_call 68; refine (C4.out _ HB).mono ?_; clear C4 HB; rintro e w2 ⟨rfl, HB⟩)
          | (go_at_call 90; refine (C5.out _ HB).mono ?_; clear C5 HB; rintro e w3 ⟨rfl, HB⟩))
        go_ret
        exact ⟨f + m, ret_int (by omega), HN.out, HB.out⟩
      · have c6 : ¬ ((f : Int) = 0) := by omega
        have c7 : ((f : Int) == 0) = false := by simp; omega
        have hrn := HR.out c5
        have HR3 : Hid (r < 1073741824) := by show r < 1073741824; omega
        clear HM HR hrn
        go_wp2_with (first
          | (go_at_call 68; refine (C2.out _ HB).mono ?_; clear C2 HB; rintro e w2 ⟨rfl, HB⟩)
          | (go_at_call 90; refine (C3.out _ HB).mono ?_; clear C3 HB; rintro e w3 ⟨rfl, HB⟩))
        have hm2 := HMM.out
        have hm3 := HR3.out
        exact ⟨⟨r * 2, by go_num, by omega, by omega, HB.out⟩, by simp [intOf]; omega⟩
set_option maxRecDepth 100000 in
theorem snap_of {w : World} {v : Value} {s : ByteArray} {n : Nat} (h : Pcs w v s n) (hE : Ev w) (i : Int) (hi : i ≤ 9223372036854775807) : Calls Tryz.prog 22 #[v, .int .i64 i] w fun e W' => ∃ m : Nat, e = .returned (.int .i64 m) ∧ IsSnap s i m ∧ Below w.heap.size w W' := by
  have C1 : Hid (Calls Tryz.prog 44 #[v, .int .i64 i] w fun e W' => e = .returned (.bool (cbZ s i)) ∧ Hid (Below w.heap.size w W')) := bound_of h hE i hi
  have C2 : Hid (∀ W, Hid (Below w.heap.size w W) → Calls Tryz.prog 45 #[v, .int .i64 i] W fun e W' => ∃ m : Nat, e = .returned (.int .i64 m) ∧ Hid (IsNext s i m ∧ Below w.heap.size w W')) := fun W hW =>
    (next_of (h.below hW.out) (hE.below hW.out) i).mono fun e W' ⟨m, q1, q2, q3⟩ => ⟨m, q1, q2, Below.on hW.out q3⟩
  cases hc : cbZ s i with
  | true =>
    obtain ⟨m, rfl, _⟩ := cb_B hc
    have HS : Hid (IsSnap s m m) := IsSnap.self hc
    rw [hc] at C1
    clear C2 h hE hc
    go_enter Tryz.func22, Tryz.ntmps22
    go_wp2_with (go_at_call 44; refine C1.out.mono ?_; clear C1; rintro e w1 ⟨rfl, HB⟩)
    go_ret
    exact ⟨m, rfl, HS.out, HB.out⟩
  | false =>
    have HC : Hid (cbZ s i = false) := hc
    rw [hc] at C1
    clear h hE hc
    go_enter Tryz.func22, Tryz.ntmps22
    go_wp2_with (first | (go_at_call 44; refine C1.out.mono ?_; clear C1; rintro e w1 ⟨rfl, HB⟩) | (go_at_call 45; refine (C2.out _ HB).mono ?_; clear C2 HB; rintro e w2 ⟨m, rfl, HB⟩))
    go_ret
    exact ⟨m, rfl, HB.out.1.snap HC.out, HB.out.2⟩
end Go.Proofs.YtplieccalmkloaaGreatDoor.Sto
