/-
  Package lines: cells, boundary, Column, spans, and no text at all. Conditions: those of each theorem.
-/
import Derived.Test.YtplieccalmkloaaGreatDoorPkB
import Derived.Test.YtplieccalmkloaaGreatDoorPkDA
import Derived.Test.YtplieccalmkloaaGreatDoorCPlaces
import Derived.Lib.QuietBelow
import Derived.BigQuiet
import Derived.Maps.AppendAt
import Derived.Laws.OwnMore
namespace Go.Proofs.YtplieccalmkloaaGreatDoor.Sto
open Bod Wid

theorem cb_piece {s : ByteArray} {f t i : Nat} (hf : f < i) (ht : i < t) (hts : t ≤ s.size) (h1 : f = 0 ∨ f + 4 ≤ i) (h2 : t = s.size ∨ i + 4 ≤ t) : cbZ (s.extract f t) ((i - f : Nat) : Int) = cbZ s i := by
  have hs := size_extract s f t hts
  refine cb_near (by omega) (by rw [hs]; omega) (by omega) (by omega) (by omega) fun d h3 h4 => ?_
  rw [un_extract s f t (i - f - d) hts (by omega) (by omega)]
  congr 1
  omega
theorem next_piece {s : ByteArray} {a f t m : Nat} (ha : a < t) (hts : t ≤ s.size) (hfa : f ≤ a) (hf : f = 0 ∨ f + 4 ≤ a) (hm : IsNext (s.extract f t) ((a - f : Nat) : Int) m) (h : f + m + 4 ≤ t ∨ t = s.size) : IsNext s (a : Int) (f + m) := by
  have hz := size_extract s f t hts
  obtain ⟨_, e, b⟩ := cb_B hm.cb
  have hmz : m ≤ t - f := by have := b.1; omega
  have hup : a - f < m := by
    rcases hm.up with h | ⟨_, h⟩
    · omega
    · rw [hz] at h; omega
  refine ⟨?_, .inl (by omega), fun j h1 h2 => ?_⟩
  · by_cases e : f + m = s.size
    · rw [e]; exact cb_end s
    · have := cb_piece (s := s) (i := f + m) (f := f) (t := t) (by omega) (by omega) hts (by omega) (by omega)
      rw [show f + m - f = m by omega] at this
      rw [← this]
      exact hm.cb
  · obtain ⟨k, rfl⟩ := Int.eq_ofNat_of_zero_le (show 0 ≤ j by omega)
    have := cb_piece (s := s) (i := k) (f := f) (t := t) (by omega) (by omega) hts (by omega) (by omega)
    rw [← this]
    exact hm.no _ (by omega) (by omega)
theorem prev_piece {s : ByteArray} {a f t m : Nat} (hat : a ≤ t) (hts : t ≤ s.size) (hfa : f < a) (ht : t = s.size ∨ a + 3 ≤ t) (hm : IsPrev (s.extract f t) ((a - f : Nat) : Int) m) (h : 4 ≤ m ∨ f = 0) : IsPrev s (a : Int) (f + m) := by
  have hdn : m < a - f := by
    rcases hm.dn with h | ⟨h, h'⟩
    · omega
    · omega
  refine ⟨?_, .inl (by omega), fun j h1 h2 => ?_⟩
  · by_cases e : f + m = 0
    · rw [e]; exact cb_zero s
    · have := cb_piece (s := s) (i := f + m) (f := f) (t := t) (by omega) (by omega) hts (by omega) (by omega)
      rw [show f + m - f = m by omega] at this
      rw [← this]
      exact hm.cb
  · obtain ⟨k, rfl⟩ := Int.eq_ofNat_of_zero_le (show 0 ≤ j by omega)
    have := cb_piece (s := s) (i := k) (f := f) (t := t) (by omega) (by omega) hts (by omega) (by omega)
    rw [← this]
    exact hm.no _ (by omega) (by omega)
theorem bound_piece {s : ByteArray} {a : Nat} (ha : a ≤ s.size) : cbZ (s.extract (a - 4) (min (a + 4) s.size)) ((a - (a - 4) : Nat) : Int) = cbZ s a := by
  by_cases h0 : a = 0
  · subst h0
    rw [show ((0 - (0 - 4) : Nat) : Int) = 0 from rfl, cb_zero]
    exact (cb_zero s).symm
  · by_cases h1 : a = s.size
    · have hz := size_extract s (a - 4) (min (a + 4) s.size) (by omega)
      have e : ((a - (a - 4) : Nat) : Int) = ((s.extract (a - 4) (min (a + 4) s.size)).size : Nat) := by rw [hz]; omega
      rw [e, cb_end, h1, cb_end]
    · exact cb_piece (by omega) (by omega) (by omega) (by omega) (by omega)
theorem next_low {s : ByteArray} {i : Int} (h : i < 0) : IsNext s i 0 := ⟨cb_zero s, .inl h, fun _ _ h2 => cb_out (.inl h2)⟩
theorem next_high {s : ByteArray} {i : Int} (h : (s.size : Int) ≤ i) : IsNext s i s.size := ⟨cb_end s, .inr ⟨rfl, h⟩, fun j h1 h2 => by omega⟩
theorem prev_low {s : ByteArray} {i : Int} (h : i ≤ 0) : IsPrev s i 0 := ⟨cb_zero s, .inr ⟨rfl, h⟩, fun j h1 h2 => by omega⟩
theorem prev_high {s : ByteArray} {i : Int} (h : (s.size : Int) < i) : IsPrev s i s.size := ⟨cb_end s, .inl h, fun _ h1 _ => cb_out (.inr h1)⟩
end Go.Proofs.YtplieccalmkloaaGreatDoor.Sto
namespace Go.Proofs.YtplieccalmkloaaGreatDoor.Sto
open Go.RowKit Go.Shelf Bod Wid
open Gap (Gp Is gSlice gMea gRng)

theorem fce (m : Sum) (W : World) : (Instr.field 125 (sv m) 3).run Tryz.prog W = .ok (.int .i64 m.ce) W := by kernel_rfl
section
variable {w : World} {t : Value} {s : ByteArray}
set_option maxRecDepth 100000 in
set_option maxHeartbeats 1000000 in
theorem cells_any' (h : Vt w t s) (n : Int) (a c : Nat) (h1 : a ≤ c) (h2 : c ≤ s.size) : Calls Tryz.prog 47 #[.agg #[t, .int .i64 n], .int .i64 a, .int .i64 c] w fun e W' => e = .returned (.int .i64 (smr (s.extract a c)).ce) ∧ Below w.heap.size w W' := by
  obtain ⟨W0, hW0⟩ : ∃ W0, w.alloc (.cells #[t, .int .i64 n] 83) = W0 := ⟨_, rfl⟩
  have hb0 : Below w.heap.size w W0 := by rw [← hW0]; exact (Below.refl _ w).alloc (Nat.le_refl _) _
  obtain ⟨y0, y1⟩ : W0.cell? ⟨w.heap.size, 0, none⟩ = some t ∧ W0.cell? ⟨w.heap.size, 1, none⟩ = some (.int .i64 n) := by
    have : W0.heap[w.heap.size]? = some (.cells #[t, .int .i64 n] 83 (0, 0)) := by rw [← hW0]; exact World.alloc_heap_new w _
    simp [World.cell?, this]
  have C2 : Hid (Calls Tryz.prog 88 #[.agg #[t, .int .i64 n], .int .i64 a, .int .i64 c] W0 fun e W' => e = .returned (sv (smr (s.extract a c))) ∧ Hid (Below w.heap.size w W')) := by
    have := measure_any (h.below hb0) n a c
    rw [gMea_in h1 h2] at this
    exact this.mono fun e W' ⟨q1, q2⟩ => ⟨q1, Below.on hb0 q2⟩
  generalize smr (s.extract a c) = M at C2 ⊢
  clear h
  have hf := fce M
  go_enter Tryz.func47, Tryz.ntmps47
  go_wp2_with (go_at_call 88; refine C2.out.mono ?_; clear C2 hW0 y0 y1; rintro e w1 ⟨rfl, H⟩)
  go_ret
  exact ⟨rfl, H.out⟩
set_option maxRecDepth 100000 in
set_option maxHeartbeats 2000000 in
theorem boundary_any (h : Vt w t s) (hE : Ev w) (a : Nat) (h2 : a ≤ s.size) (hs : s.size ≤ 1073741824) : Calls Tryz.prog 49 #[.agg #[t, .int .i64 s.size], .int .i64 a] w fun e W' => (∃ m : Nat, e = .returned (.int .i64 (m : Int)) ∧ IsPrev s ((a : Int) + 1) m) ∧ Below w.heap.size w W' := by
  obtain ⟨n, hn⟩ : ∃ n, s.size = n := ⟨_, rfl⟩
  obtain ⟨M, hMM⟩ : ∃ M : Nat, M = 2147483648 := ⟨_, rfl⟩
  have HMM : Hid (M = 2147483648) := hMM
  have HV : Hid (Vt w t s ∧ Ev w ∧ s.size = n) := ⟨h, hE, hn⟩
  rw [hn] at h2 hs ⊢
  clear hn hMM h hE
  obtain ⟨W0, hW0⟩ : ∃ W0, w.alloc (.cells #[t, .int .i64 n] 83) = W0 := ⟨_, rfl⟩
  have HB0 : Hid (Below w.heap.size w W0) := by show Below _ _ _; rw [← hW0]; exact (Below.refl _ w).alloc (Nat.le_refl _) _
  have HX : Hid (∀ W, Below W0.heap.size W0 W → W.cell? ⟨w.heap.size, 0, none⟩ = some t ∧ W.cell? ⟨w.heap.size, 1, none⟩ = some (.int .i64 n)) := fun W hW => by
    have h0 : W0.heap[w.heap.size]? = some (.cells #[t, .int .i64 n] 83 (0, 0)) := by rw [← hW0]; exact World.alloc_heap_new w _
    have h1 := (hW.block _ (Array.getElem?_eq_some_iff.1 h0).1).trans h0
    simp [World.cell?, h1]
  obtain ⟨c, hc⟩ : ∃ c, min (a + 4) n = c := ⟨_, rfl⟩
  have hc1 : min ((a : Int) + 4) (n : Int) = (c : Int) := by omega
  have hc2 : a ≤ c ∧ c ≤ n ∧ (c = n ∨ c = a + 4) := by omega
  have HC : Hid (a ≤ c ∧ c ≤ n ∧ (c = n ∨ c = a + 4)) := hc2
  have hc3 : c ≤ 1073741824 := by omega
  have ha3 : a ≤ 1073741824 := by omega
  clear hc hc2
  obtain ⟨x0, x1⟩ := HX.out _ (Below.refl _ _)
  go_enter Tryz.func49, Tryz.ntmps49
  go_wp2
  obtain ⟨vb, hvb⟩ : ∃ vb, w.heap.size = vb := ⟨_, rfl⟩
  rw [hvb] at HX x0 x1 ⊢
  clear hW0 hvb x0 x1
  go_loopw [6] (fun t6 wr => ∃ r : Nat, t6 = .int .i64 r ∧ 64 ≤ r ∧ r ≤ M ∧ Hid (Below W0.heap.size W0 wr)) (fun t6 _ => M - (intOf t6).toNat)
  case atStart => exact ⟨64, rfl, by omega, by have := HMM.out; omega, Below.refl _ _⟩
  case round =>
    obtain ⟨r, rfl, hr1, hr2, HB⟩ := hrel
    have hr4 : (r : Int) ≤ 2147483648 := by have := HMM.out; omega
    obtain ⟨f, hf⟩ : ∃ f, a - r = f := ⟨_, rfl⟩
    obtain ⟨d, hd⟩ : ∃ d, a - f = d := ⟨_, rfl⟩
    have e2 : max ((a : Int) - r) 0 = f := by omega
    have e3 : (a : Int) - f = d := by omega
    have hz := HV.out.2.2
    have hcc := HC.out
    have hp := size_extract s f c (by omega)
    obtain ⟨m, hm⟩ : ∃ m, IsPrev (s.extract f c) ((d : Int) + 1) m := ⟨_, pvC_is _ _⟩
    have hmz : m ≤ c := by obtain ⟨_, e, b⟩ := cb_B hm.cb; have := b.1; omega
    have C2 : Hid (∀ W, Below W0.heap.size W0 W → Calls Tryz.prog 91 #[.agg #[t, .int .i64 n], .int .i64 f, .int .i64 c] W fun e W' => e = .returned (.string (s.extract f c)) ∧ Hid (Below W0.heap.size W0 W')) := fun W hW => by
      have := piece_any (HV.out.1.below (Below.on HB0.out hW)) n f c
      rw [gSlice_in (by omega) (by omega)] at this
      exact this.mono fun e W' q => ⟨q.1, Below.on hW q.2⟩
    have C3 : Hid (∀ W, Below W0.heap.size W0 W → Calls Tryz.prog 90 #[.string (s.extract f c), .int .i64 ((d : Int) + 1)] W fun e W' => e = .returned (.int .i64 m) ∧ Hid (Below W0.heap.size W0 W')) := fun W hW =>
      (cprev_any (s.extract f c) ((d : Int) + 1) (by unfold maxLen; omega) W (HV.out.2.1.below (Below.on HB0.out hW)).t (by omega)).mono fun e W' ⟨m', q1, q2, q3⟩ => ⟨by rw [q1, q2.uniq hm], Below.on hW q3⟩
    have HM : Hid (4 ≤ m ∨ f = 0 → IsPrev s ((a : Int) + 1) (f + m)) := fun hq => by
      by_cases he : a = n
      · have e5 := hm.uniq (prev_high (s := s.extract f c) (i := (d : Int) + 1) (by rw [hp]; omega))
        have e6 : f + m = s.size := by omega
        rw [e6]
        exact prev_high (by omega)
      · have := prev_piece (s := s) (a := a + 1) (f := f) (t := c) (m := m) (by omega) (by omega) (by omega) (by omega) (by rw [show ((a + 1 - f : Nat) : Int) = (d : Int) + 1 by omega]; exact hm) hq
        exact this
    have HR : Hid (f ≠ 0 → r < n) := fun h => by omega
    generalize s.extract f c = p at C2 C3 hm hp
    have b2 : (f : Int) ≤ 1073741824 ∧ (m : Int) ≤ 1073741824 ∧ (d : Int) ≤ 1073741824 := by omega
    obtain ⟨x0, x1⟩ := HX.out _ HB.out
    clear hm hp hz hf hd hcc
    by_cases c3 : 4 ≤ m
    · have c4 : (f : Int) + 4 ≤ (f : Int) + m := by omega
      have HN : Hid (IsPrev s ((a : Int) + 1) (f + m)) := HM.out (.inl c3)
      clear HM HR HV
      go_wp2_with (first
        | (go_at_call 91; refine (C2.out _ HB.out).mono ?_; clear C2; rintro e w2 ⟨rfl, H2⟩)
        | (go_at_call 90; refine (C3.out _ H2.out).mono ?_; clear C3; rintro e w3 ⟨rfl, H3⟩))
      go_ret
      exact ⟨⟨f + m, ret_int (by omega), HN.out⟩, Below.on HB0.out H3.out⟩
    · have c4 : ¬ ((f : Int) + 4 ≤ (f : Int) + m) := by omega
      have c8 : ¬ ((4 : Int) ≤ m) := by omega
      by_cases c5 : f = 0
      · have HN : Hid (IsPrev s ((a : Int) + 1) (f + m)) := HM.out (.inr c5)
        have C4 : Hid (∀ W, Below W0.heap.size W0 W → Calls Tryz.prog 91 #[.agg #[t, .int .i64 n], .int .i64 0, .int .i64 c] W fun e W' => e = .returned (.string p) ∧ Hid (Below W0.heap.size W0 W')) := fun W hW => by have := C2.out W hW; rw [c5] at this; exact this
        have C5 : Hid (∀ W, Below W0.heap.size W0 W → Calls Tryz.prog 90 #[.string p, .int .i64 ((a : Int) + 1)] W fun e W' => e = .returned (.int .i64 m) ∧ Hid (Below W0.heap.size W0 W')) := fun W hW => by have := C3.out W hW; rw [show (d : Int) = a by omega] at this; exact this
        have e5 : max ((a : Int) - r) 0 = 0 := by omega
        clear C2 C3 e2 e3 c4
        clear HM HR HV
        go_wp2_with (first
          | (go_at_call 91; refine (C4.out _ HB.out).mono ?_; clear C4; rintro e w2 ⟨rfl, H2⟩)
          | (go_at_call 90; refine (C5.out _ H2.out).mono ?_; clear C5; rintro e w3 ⟨rfl, H3⟩))
        go_ret
        exact ⟨⟨f + m, ret_int (by omega), HN.out⟩, Below.on HB0.out H3.out⟩
      · have c6 : ¬ ((f : Int) = 0) := by omega
        have c7 : ((f : Int) == 0) = false := by simp; omega
        have hrn := HR.out c5
        have HR3 : Hid (r < 1073741824) := by show r < 1073741824; omega
        clear HM HR hrn HV
        go_wp2_with (first
          | (go_at_call 91; refine (C2.out _ HB.out).mono ?_; clear C2; rintro e w2 ⟨rfl, H2⟩)
          | (go_at_call 90; refine (C3.out _ H2.out).mono ?_; clear C3; rintro e w3 ⟨rfl, H3⟩))
        have hr5 := HR3.out
        have hM5 := HMM.out
        exact ⟨⟨2 * r, by congr 1; omega, by omega, by omega, H3.out⟩, by simp [intOf]; omega⟩
end
end Go.Proofs.YtplieccalmkloaaGreatDoor.Sto
namespace Go.Proofs.YtplieccalmkloaaGreatDoor.Sto
open Bod Wid Go.Lib

theorem lf_un {s : ByteArray} {i : Nat} (h : bt s i = 10) : un s i = (10, 1) := by
  unfold un decodeN
  rw [h]
  repeat' split
  all_goals first | rfl | (exfalso; omega)
theorem lf_ch {s : ByteArray} {i : Nat} (h : bt s i = 10) : ch s i = 10 ∧ sz s i = 1 := by
  refine ⟨?_, by unfold sz; rw [lf_un h]⟩
  unfold ch
  rw [lf_un h]
  rfl
theorem cls_lf {u : Int} : cls u = 1 ↔ u = 10 := by
  constructor
  · intro h
    unfold cls at h
    repeat' split at h
    all_goals first | assumption | (exfalso; omega)
  · rintro rfl
    decide +kernel
theorem jn_lf (b : Int) : jn 10 b = false := by
  unfold jn
  split
  · simp
  · simp [cls_lf]
theorem bt_byt {s : ByteArray} {i : Nat} (h : i < s.size) : bt s i = (byt s i).toNat := by
  unfold bt byt
  rw [Utf8W.get!_of_lt s i h, List.getD_eq_getElem?_getD, Array.getElem?_toList, Array.getElem?_eq_getElem (show i < s.data.size from h), ByteArray.getElem_eq_getElem_data]
  rfl
theorem lf_bt {s : ByteArray} {i : Nat} (h : i < s.size) (hb : byt s i = 10) : bt s i = 10 := by rw [bt_byt h, hb]; rfl
theorem lf_B {s : ByteArray} {i : Nat} (h : i < s.size) (hb : byt s i = 10) : B s i := by
  have hb2 := lf_bt h hb
  refine ⟨by omega, fun k hk => ?_⟩
  rcases Nat.lt_or_ge i (k + sz s k) with e | e
  · have := cont (s := s) (i := k) (k := i) hk e
    omega
  · exact e
/-- right behind a line feed is a boundary -/
theorem lf_cb {s : ByteArray} {p : Nat} (h0 : 0 < p) (h : p ≤ s.size) (hb : byt s (p - 1) = 10) : cbZ s p = true := by
  obtain ⟨q, rfl⟩ : ∃ q, p = q + 1 := ⟨p - 1, by omega⟩
  rw [show q + 1 - 1 = q by omega] at hb
  obtain ⟨c1, c2⟩ := lf_ch (lf_bt (by omega) hb)
  by_cases e : q + 1 = s.size
  · rw [e]; exact cb_end s
  · have := cb_at (lf_B (by omega) hb) (by omega) (by omega)
    rw [c2, c1, jn_lf] at this
    exact this
/-- every offset has a line -/
theorem isL_ex {s : ByteArray} : ∀ a : Nat, a ≤ s.size → ∃ p, IsL s a p
  | 0, _ => ⟨0, Nat.le_refl _, .inl rfl, cn_self _ _⟩
  | a + 1, h => by
    by_cases hb : byt s a = 10
    · exact ⟨a + 1, Nat.le_refl _, .inr hb, cn_self _ _⟩
    · obtain ⟨p, h1, h2, h3⟩ := isL_ex (s := s) a (by omega)
      refine ⟨p, by omega, h2, ?_⟩
      rw [cn_add h1 (Nat.le_succ a), h3, cn_one (by omega), if_neg hb]
theorem IsL.cb {s : ByteArray} {a p : Nat} (ha : a ≤ s.size) (h : IsL s a p) : cbZ s p = true := by
  obtain ⟨h1, h2, h3⟩ := h
  by_cases e : p = 0
  · rw [e]; exact cb_zero s
  · refine lf_cb (by omega) (by omega) ?_
    rcases h2 with h2 | h2
    · omega
    · exact h2
/-- where a line begins is not above the last boundary -/
theorem IsL.le_prev {s : ByteArray} {a p m : Nat} (ha : a ≤ s.size) (h : IsL s a p) (hm : IsPrev s ((a : Int) + 1) m) : p ≤ m ∧ m ≤ a := by
  refine ⟨?_, ?_⟩
  · rcases Nat.lt_or_ge m p with e | e
    · have := hm.no p (by omega) (by have := h.1; omega)
      rw [h.cb ha] at this
      cases this
    · exact e
  · rcases hm.dn with e | e <;> omega
end Go.Proofs.YtplieccalmkloaaGreatDoor.Sto
namespace Go.Proofs.YtplieccalmkloaaGreatDoor.Sto
open Go.RowKit Go.Shelf Bod Wid Go.Lib
open Gap (Gp Is gSlice gMea gRng)

/-- the column of an offset -/
def IsC (s : ByteArray) (a : Nat) (z : Int) : Prop := ∃ p m, IsL s a p ∧ IsPrev s ((a : Int) + 1) m ∧ z = (smr (s.extract p m)).ce
section
variable {w : World} {t : Value} {s : ByteArray}
set_option maxRecDepth 100000 in
set_option maxHeartbeats 2000000 in
theorem column_in (hM : Tryz.prog.follows .mixedOrders = true) (h : Tl w t s) (hE : Ev w) (a : Nat) (ha : a ≤ s.size) : Calls Tryz.prog 24 #[t, .int .i64 a] w fun e W' => (∃ z, e = .returned (.tuple #[.int .i64 z, .int .i64 0]) ∧ IsC s a z) ∧ Below w.heap.size w W' := by
  have HM : Hid (Tryz.prog.follows .mixedOrders = true) := hM
  obtain ⟨t', h1, h2⟩ := h.ex
  obtain ⟨T, u, rfl⟩ := h1.iface
  have hs := h.le
  obtain ⟨p, hp⟩ := isL_ex (s := s) a ha
  obtain ⟨m, hm⟩ : ∃ m, IsPrev s ((a : Int) + 1) m := ⟨_, pvC_is _ _⟩
  obtain ⟨hpm, hma⟩ := hp.le_prev ha hm
  obtain ⟨z, hz⟩ : ∃ z, (smr (s.extract p m)).ce = z := ⟨_, rfl⟩
  have HZ : Hid (IsC s a z) := ⟨p, m, hp, hm, hz.symm⟩
  obtain ⟨n, hn⟩ : ∃ n, s.size = n := ⟨_, rfl⟩
  have CL : Hid (Calls Tryz.prog 38 #[t] w fun e W' => e = .returned (.agg #[.iface T u, .int .i64 s.size]) ∧ Hid (Below w.heap.size w W')) := h2 w (Below.refl _ _)
  have CH : Hid (∀ W, Calls Tryz.prog 46 #[.agg #[.iface T u, .int .i64 s.size], .int .i64 a] W fun e W' => e = .returned (.bool true) ∧ Hid (Below W.heap.size W W')) := fun W => by
    have := has_any W (.iface T u) s.size a
    rw [show (decide ((0 : Int) ≤ (a : Int)) && decide ((a : Int) ≤ (s.size : Int))) = true by simp; omega] at this
    exact this
  have C1 : Hid (∀ W, Below w.heap.size w W → Calls Tryz.prog 48 #[.agg #[.iface T u, .int .i64 s.size], .int .i64 a] W fun e W' => e = .returned (.int .i64 p) ∧ Below W.heap.size W W') := fun W hW => (begin_any (h1.below hW) s.size a ha hs).mono fun e W' q => by
    obtain ⟨⟨p', rfl, q1⟩, q2⟩ := q
    exact ⟨by rw [q1.uniq ha hp], q2⟩
  have C2 : Hid (∀ W, Below w.heap.size w W → Calls Tryz.prog 49 #[.agg #[.iface T u, .int .i64 s.size], .int .i64 a] W fun e W' => e = .returned (.int .i64 m) ∧ Below W.heap.size W W') := fun W hW => (boundary_any (h1.below hW) (hE.below hW) a ha hs).mono fun e W' q => by
    obtain ⟨⟨m', rfl, q1⟩, q2⟩ := q
    exact ⟨by rw [q1.uniq hm], q2⟩
  have C3 : Hid (∀ W, Below w.heap.size w W → Calls Tryz.prog 47 #[.agg #[.iface T u, .int .i64 s.size], .int .i64 p, .int .i64 m] W fun e W' => e = .returned (.int .i64 z) ∧ Below W.heap.size W W') := fun W hW => by
    have := cells_any' (h1.below hW) s.size p m hpm (by omega)
    rw [hz] at this
    exact this
  rw [hn] at CL CH C1 C2 C3
  clear h h1 h2 hn hs hp hm hz hE hM ha hpm hma
  go_enter Tryz.func24, Tryz.ntmps24
  go_upto_region 2 with (go_at_call 38; refine CL.out.mono ?_; clear CL; rintro e w1 ⟨rfl, H⟩)
  have HO : Hid (Ob w w1.heap.size (.iface T u) n (w1.alloc (.cells #[(.iface T u), .int .i64 n] 83))) := ob_new (.iface T u) n H.out
  generalize w1.alloc (.cells #[(.iface T u), .int .i64 n] 83) = W0 at HO ⊢
  obtain ⟨x0, x1, x2⟩ := HO.out.get
  go_upto_region 4 with (go_at_call 46; refine (CH.out _).mono ?_; clear CH; rintro e w2 ⟨rfl, H2⟩; have HP : Hid (Ob w w1.heap.size (.iface T u) n w2) := HO.out.below H2.out; clear HO x0 x1 x2; obtain ⟨x0, x1, x2⟩ := HP.out.get)
  have e0 := fun d os => cell_regrown x0 d os
  have e1 := fun d os => cell_regrown x1 d os
  have q1 := regrown (W := w2) (fun W hW => C1.out W (Below.on HP.out.bel hW))
  have q2 := regrown (W := w2) (fun W hW => C2.out W (Below.on HP.out.bel hW))
  have q3 := regrown (W := w2) (fun W hW => C3.out W (Below.on HP.out.bel hW))
  refine wp_region_quiet_below HM.out (by kernel_rfl) ?_
  repeat (go_big_quiet_step (first | exact q1 _ _ | exact q2 _ _ | exact q3 _ _))
  refine wpQuiet_nil ?_
  intro _ hw'
  obtain ⟨⟨dq, osq⟩, hw''⟩ := hw'
  subst hw''
  have hbq := Below.on HP.out.bel (below_regrown w2 dq osq)
  clear q1 q2 q3 e0 e1
  go_wp2
  go_ret2
  exact ⟨⟨z, rfl, HZ.out⟩, hbq⟩
set_option maxRecDepth 100000 in
set_option maxHeartbeats 2000000 in
theorem column_out (h : Tl w t s) (a : Int) (ha : ¬ (0 ≤ a ∧ a ≤ s.size)) : Calls Tryz.prog 24 #[t, .int .i64 a] w fun e W' => e = .returned (.tuple #[.int .i64 0, .int .i64 1]) ∧ Below w.heap.size w W' := by
  obtain ⟨t', h1, h2⟩ := h.ex
  obtain ⟨T, u, rfl⟩ := h1.iface
  obtain ⟨n, hn⟩ : ∃ n, s.size = n := ⟨_, rfl⟩
  have CL : Hid (Calls Tryz.prog 38 #[t] w fun e W' => e = .returned (.agg #[.iface T u, .int .i64 s.size]) ∧ Hid (Below w.heap.size w W')) := h2 w (Below.refl _ _)
  have CH : Hid (∀ W, Calls Tryz.prog 46 #[.agg #[.iface T u, .int .i64 s.size], .int .i64 a] W fun e W' => e = .returned (.bool false) ∧ Hid (Below W.heap.size W W')) := fun W => by
    have := has_any W (.iface T u) s.size a
    rw [← Bool.decide_and, decide_eq_false ha] at this
    exact this
  rw [hn] at CL CH
  clear h h1 h2 hn ha
  go_enter Tryz.func24, Tryz.ntmps24
  go_upto_region 2 with (go_at_call 38; refine CL.out.mono ?_; clear CL; rintro e w1 ⟨rfl, H⟩)
  have HO : Hid (Ob w w1.heap.size (.iface T u) n (w1.alloc (.cells #[(.iface T u), .int .i64 n] 83))) := ob_new (.iface T u) n H.out
  generalize w1.alloc (.cells #[(.iface T u), .int .i64 n] 83) = W0 at HO ⊢
  obtain ⟨x0, x1, x2⟩ := HO.out.get
  go_wp2_with (go_at_call 46; refine (CH.out _).mono ?_; clear CH; rintro e w2 ⟨rfl, H2⟩)
  go_ret2
  exact ⟨rfl, (HO.out.below H2.out).bel⟩
end
end Go.Proofs.YtplieccalmkloaaGreatDoor.Sto
namespace Go.Proofs.YtplieccalmkloaaGreatDoor.Sto
open Go.RowKit Go.Shelf Bod Wid

/-- the lines from a on: their spans, and where the next one begins -/
inductive Lns (s : ByteArray) (a : Nat) : List (Nat × Nat) → Option Nat → Prop
  | one {r : Option Nat} : IsB s a s.size 1 r → Lns s a [(a, lend s a r)] r
  | more {ys : List (Nat × Nat)} {p : Nat} {r : Option Nat} : Lns s a ys (some p) → IsB s p s.size 1 r → Lns s a (ys ++ [(p, lend s p r)]) r
theorem Lns.len {s : ByteArray} {a : Nat} {ys : List (Nat × Nat)} {r : Option Nat} (h : Lns s a ys r) : (ys.length ≤ s.size + 1) ∧ ∀ p, r = some p → ys.length ≤ p ∧ p ≤ s.size := by
  induction h with
  | one h =>
    refine ⟨by simp, fun p e => ?_⟩
    subst e
    obtain ⟨h1, h2, -, -⟩ := h
    simp; omega
  | more h1 h2 ih =>
    obtain ⟨i1, i2⟩ := ih.2 _ rfl
    refine ⟨by simp; omega, fun p e => ?_⟩
    subst e
    obtain ⟨h3, h4, -, -⟩ := h2
    simp; omega
/-- the cells of spans -/
def spl (l : List (Nat × Nat)) : List Value := l.flatMap fun p => [Value.int .i64 p.1, Value.int .i64 p.2]
theorem spl_snoc (l : List (Nat × Nat)) (p : Nat × Nat) : spl (l ++ [p]) = spl l ++ [.int .i64 p.1, .int .i64 p.2] := by simp [spl]
theorem info_spl : (Tryz.prog.info? 50).map (fun i => (i.zero, i.size, i.bytes)) = some (some (.agg #[.int .i64 0, .int .i64 0]), 2, 16) := by kernel_rfl
/-- what lies where while the spans are found -/
structure Sq (w : World) (sb : Nat) (t : Value) (n : Int) (v : Value) (ys : List (Nat × Nat)) (W : World) : Prop where
  bel : Below w.heap.size w W
  lt : w.heap.size < sb
  vw : W.heap[w.heap.size]? = some (.cells #[t, .int .i64 n] 83 (0, 0))
  sp : ∃ x y : Int, W.heap[sb]? = some (.cells #[.int .i64 x, .int .i64 y] 50 (0, 0))
  row : W.ownsRow (sb + 1) 50 2 v ys.length (spl ys)
section
variable {w W X : World} {sb : Nat} {t : Value} {n : Int} {v : Value} {ys : List (Nat × Nat)}
theorem Sq.below (h : Sq w sb t n v ys W) (hb : Below W.heap.size W X) : Sq w sb t n v ys X :=
  have kp : ∀ {k : Nat} {o : Obj}, W.heap[k]? = some o → X.heap[k]? = some o := fun ho => (hb.block _ (Array.getElem?_eq_some_iff.1 ho).1).trans ho
  ⟨Below.on h.bel hb, h.lt, kp h.vw, h.sp.imp fun x ⟨y, hy⟩ => ⟨y, kp hy⟩, h.row.kept ⟨hb.os, hb.tape, hb.output, hb.size, fun k hk _ => hb.block k hk⟩ (row := none) (by cases v.ownBlock <;> simp)⟩
theorem Sq.get (h : Sq w sb t n v ys W) : W.cell? ⟨w.heap.size, 0, none⟩ = some t ∧ W.cell? ⟨w.heap.size, 1, none⟩ = some (.int .i64 n) ∧ (∃ x y : Int, W.cell? ⟨sb, 0, none⟩ = some (.int .i64 x) ∧ W.cell? ⟨sb, 1, none⟩ = some (.int .i64 y)) ∧ W.frozen? ⟨sb, 0, none⟩ = false ∧ W.frozen? ⟨sb, 1, none⟩ = false ∧ sb < W.heap.size := by
  obtain ⟨x, y, hy⟩ := h.sp
  exact ⟨by simp [World.cell?, h.vw], by simp [World.cell?, h.vw], ⟨x, y, by simp [World.cell?, hy], by simp [World.cell?, hy]⟩, by simp [World.frozen?, hy], by simp [World.frozen?, hy], (Array.getElem?_eq_some_iff.1 hy).1⟩
theorem Sq.set (h : Sq w sb t n v ys W) (p q : Int) : Sq w sb t n v ys ((W.setCell ⟨sb, 0, none⟩ (.int .i64 p)).setCell ⟨sb, 1, none⟩ (.int .i64 q)) ∧ ((W.setCell ⟨sb, 0, none⟩ (.int .i64 p)).setCell ⟨sb, 1, none⟩ (.int .i64 q)).heap[sb]? = some (.cells #[.int .i64 p, .int .i64 q] 50 (0, 0)) := by
  obtain ⟨x, y, hy⟩ := h.sp
  have hlt := h.lt
  have g0 := gcell W sb 0 (.int .i64 p)
  have g1 := gcell (W.setCell ⟨sb, 0, none⟩ (.int .i64 p)) sb 1 (.int .i64 q)
  have s1 := set1 (i := 0) (.int .i64 p) hy
  have s2 := set1 (i := 1) (.int .i64 q) s1
  have e1 := (g0.block w.heap.size (Array.getElem?_eq_some_iff.1 h.vw).1 (by simp; omega)).trans h.vw
  have far : v.ownBlock = none ∨ v.ownBlock ≠ some sb := by
    rcases h.row.2 with ⟨rfl, _⟩ | ⟨g, cap, cur, rfl, hg, _⟩
    · exact .inl rfl
    · exact .inr (fun e => by simp only [Value.ownBlock, Option.some.injEq] at e; omega)
  have s3 : ((W.setCell ⟨sb, 0, none⟩ (.int .i64 p)).setCell ⟨sb, 1, none⟩ (.int .i64 q)).heap[sb]? = some (.cells #[.int .i64 p, .int .i64 q] 50 (0, 0)) := by simpa using s2
  exact ⟨⟨(h.bel.setCell (p := ⟨sb, 0, none⟩) (by simp; omega) _).setCell (p := ⟨sb, 1, none⟩) (by simp; omega) _, hlt, (g1.block w.heap.size (Array.getElem?_eq_some_iff.1 e1).1 (by simp; omega)).trans e1, ⟨p, q, s3⟩, (h.row.kept g0 far).kept g1 far⟩, s3⟩
theorem Sq.app {p : Nat × Nat} {v' : Value} {w' : World} {o : Obj} (h : Sq w sb t n v ys W) (h1 : w'.ownsRow (sb + 1) 50 2 v' (ys.length + 1) (spl ys ++ [.int .i64 (p.1 : Nat), .int .i64 (p.2 : Nat)])) (hg : (W.alloc o).grownBy w' v.ownBlock) : Sq w sb t n v' (ys ++ [p]) w' := by
  obtain ⟨x, y, hy⟩ := h.sp
  have hlt := h.lt
  have far : ∀ g, v.ownBlock = some g → sb + 1 ≤ g := fun g e => by
    rcases h.row.2 with ⟨rfl, _⟩ | ⟨g', cap, cur, rfl, hg, _⟩
    · cases e
    · cases e; exact hg
  have k1 : ∀ {k : Nat} {o' : Obj}, W.heap[k]? = some o' → k ≤ sb → w'.heap[k]? = some o' := fun ho hk =>
    (hg.block _ (by have := (Array.getElem?_eq_some_iff.1 ho).1; simp; omega) (fun e => by have := far _ e.symm; omega)).trans ((Below.heap_alloc _ _ _ (Array.getElem?_eq_some_iff.1 ho).1).trans ho)
  have hb1 := h.bel.alloc h.bel.size o
  refine ⟨hb1.grown hg (by have := h.bel.size; simp; omega) (fun k e => by have := far k e; omega), hlt, k1 h.vw (by omega), ⟨x, y, k1 hy (Nat.le_refl _)⟩, ?_⟩
  rw [spl_snoc, List.length_append]
  exact h1
end
section
variable {w : World} {t : Value} {s : ByteArray}
/-- what is left of the lines -/
def left' (n : Nat) : Value → Value → Nat
  | t4, .bool true => n + 1 - (intOf t4).toNat
  | _, _ => 0
set_option maxRecDepth 100000 in
set_option maxHeartbeats 2000000 in
theorem spans_any' (h : Vt w t s) (hs : s.size ≤ 1073741824) : Calls Tryz.prog 39 #[.agg #[t, .int .i64 s.size]] w fun e W' => ∃ v ys, e = .returned v ∧ Lns s 0 ys none ∧ W'.ownsRow w.heap.size 50 2 v ys.length (spl ys) ∧ Below w.heap.size w W' := by
  have HV : Hid (Vt w t s) := h
  obtain ⟨n, hn⟩ : ∃ n, s.size = n := ⟨_, rfl⟩
  have HN : Hid (s.size = n) := hn
  obtain ⟨i0, hi, hz0, hz1, hz2⟩ := info_parts info_spl
  have CN : Hid (∀ W (a : Nat), Below w.heap.size w W → a ≤ n → Calls Tryz.prog 72 #[.agg #[t, .int .i64 n], .int .i64 a] W fun e W' => ∃ (r : Option Nat) (x : Nat), e = .returned (.tuple #[.agg #[.int .i64 a, .int .i64 (x : Int)], .int .i64 ((r.getD 0 : Nat) : Int), .bool r.isSome]) ∧ Hid (IsB s a s.size 1 r ∧ x = lend s a r ∧ Below W.heap.size W W')) := fun W a hW ha => by
    have := spanFrom_any (HV.out.below hW) a (by omega) hs
    rw [hn] at this
    exact this.mono fun e W' q => by obtain ⟨⟨r, rfl, q1⟩, q2⟩ := q; exact ⟨r, _, rfl, by rw [hn]; exact q1, rfl, q2⟩
  rw [hn] at hs ⊢
  clear hn h
  obtain ⟨W0, hW0⟩ : ∃ W0, w.alloc (.cells #[t, .int .i64 n] 83) = W0 := ⟨_, rfl⟩
  have HO : Hid (Below w.heap.size w W0 ∧ W0.heap[w.heap.size]? = some (.cells #[t, .int .i64 n] 83 (0, 0))) := by show _ ∧ _; rw [← hW0]; exact ⟨(Below.refl _ w).alloc (Nat.le_refl _) _, World.alloc_heap_new w _⟩
  obtain ⟨x0, x1⟩ : W0.cell? ⟨w.heap.size, 0, none⟩ = some t ∧ W0.cell? ⟨w.heap.size, 1, none⟩ = some (.int .i64 n) := by have := HO.out.2; simp [World.cell?, this]
  go_enter Tryz.func39, Tryz.ntmps39
  go_upto_region 1 with fail
  clear hW0
  go_wp2_with (go_at_call 72; refine (CN.out _ 0 HO.out.1 (Nat.zero_le _)).mono ?_; rintro e w1 ⟨r, x, rfl, H⟩; clear x0 x1)
  obtain ⟨sb, hsb⟩ : ∃ sb, w1.heap.size = sb := ⟨_, rfl⟩
  have HS0 : Hid (Sq w sb t n (.slice (some ⟨w1.heap.size + 1, 0, none⟩) 1 1) [(0, x)] ((w1.alloc (.cells #[.int .i64 0, .int .i64 (x : Int)] 50)).alloc (.cells #[.int .i64 0, .int .i64 (x : Int)] 50)) ∧ Lns s 0 [(0, x)] r) := by
    obtain ⟨k1, k2, k3⟩ := H.out
    obtain ⟨k4, k5⟩ := HO.out
    have hlt := (Array.getElem?_eq_some_iff.1 k5).1
    have hle := k3.size
    have hb1 := Below.on k4 k3
    have e1 : w1.heap[w.heap.size]? = some (.cells #[t, .int .i64 n] 83 (0, 0)) := (k3.block _ hlt).trans k5
    refine ⟨⟨(hb1.alloc hb1.size _).alloc (by have := hb1.size; simp; omega) _, by omega, (Below.heap_alloc _ _ _ (by simp; omega)).trans ((Below.heap_alloc _ _ _ (by omega)).trans e1), ⟨0, x, ?_⟩, ?_⟩, by rw [k2]; exact Lns.one k1⟩
    · rw [← hsb]; exact (Below.heap_alloc _ _ _ (by simp)).trans (World.alloc_heap_new _ _)
    · have := World.ownsRow_lit (base := sb + 1) (e := 50) (size := 2) (w1.alloc (.cells #[.int .i64 0, .int .i64 (x : Int)] 50)) #[.int .i64 0, .int .i64 (x : Int)] 1 (by simp; omega) (by decide) rfl
      simpa [spl] using this
  generalize (w1.alloc (.cells #[.int .i64 0, .int .i64 (x : Int)] 50)).alloc (.cells #[.int .i64 0, .int .i64 (x : Int)] 50) = W2 at HS0 ⊢
  rw [hsb] at HS0 ⊢
  clear H hsb HO
  go_loopw [4, 5, 6] (fun t4 t5 t6 wr => ∃ (r : Option Nat) (v : Value) (ys : List (Nat × Nat)), t4 = .int .i64 ((r.getD 0 : Nat) : Int) ∧ t5 = .bool r.isSome ∧ t6 = v ∧ Hid (Sq w sb t n v ys wr ∧ Lns s 0 ys r)) (fun t4 t5 _ _ => left' n t4 t5)
  case atStart => exact ⟨r, _, _, rfl, rfl, rfl, HS0⟩
  case round =>
    clear HS0
    obtain ⟨r, v, ys, rfl, rfl, rfl, HS⟩ := hrel
    cases r with
    | none =>
      go_wp2
      go_ret
      exact ⟨_, ys, rfl, HS.out.2, row_lower HS.out.1.row (by have := HS.out.1.lt; omega), HS.out.1.bel⟩
    | some p =>
      obtain ⟨x0, x1, ⟨z0, z1, y0, y1⟩, f0, f1, l1⟩ := HS.out.1.get
      have hpn : p ≤ n := by have := (HS.out.2.len.2 p rfl).2; have := HN.out; omega
      have hyl : ys.length ≤ p := (HS.out.2.len.2 p rfl).1
      go_upto_region 5 with (go_at_call 72; refine (CN.out _ p HS.out.1.bel hpn).mono ?_; rintro e w3 ⟨r', x', rfl, H⟩; have HK : Hid (Sq w sb t n _ ys w3) := HS.out.1.below H.out.2.2; clear x0 x1 y0 y1 f0 f1 l1; obtain ⟨x0, x1, ⟨z0, z1, y0, y1⟩, f0, f1, l1⟩ := HK.out.get)
      obtain ⟨k1, k2⟩ := HK.out.set (p : Int) (x' : Int)
      have HQ : Hid (Sq w sb t n _ ys _) := k1
      obtain ⟨v0, v1⟩ : ((w3.setCell ⟨sb, 0, none⟩ (.int .i64 (p : Int))).setCell ⟨sb, 1, none⟩ (.int .i64 (x' : Int))).cell? ⟨sb, 0, none⟩ = some (.int .i64 (p : Int)) ∧ ((w3.setCell ⟨sb, 0, none⟩ (.int .i64 (p : Int))).setCell ⟨sb, 1, none⟩ (.int .i64 (x' : Int))).cell? ⟨sb, 1, none⟩ = some (.int .i64 (x' : Int)) := by simp only [World.cell?, k2]; simp
      clear k1 k2 x0 x1 y0 y1 f0 f1 l1 HK
      generalize (w3.setCell ⟨sb, 0, none⟩ (.int .i64 (p : Int))).setCell ⟨sb, 1, none⟩ (.int .i64 (x' : Int)) = W4 at HQ v0 v1 ⊢
      have HY : Hid (ys.length ≤ p) := hyl
      go_wp2_with (at_builtin; refine wpList_append_own_at _ rfl _ _ 44 rfl (sb + 1) 50 i0 _ 2 16 Tryz.underlying44 hi hz0 hz1 hz2 rfl (by decide) _ _ _ rfl (HQ.out.row.alloc _) ⟨W4.heap.size, 0, none⟩ 1 1 [.int .i64 (p : Int), .int .i64 (x' : Int)] rfl rfl (World.news_of_block (World.alloc_heap_new W4 _)) (by simp [Value.oneCell']) (by unfold maxLen; omega) (by omega) (by have := HQ.out.get.2.2.2.2.2; simp; omega) ?_; intro v' w6 hown' hgrow _ hob; have HF : Hid (Sq w sb t n v' (ys ++ [(p, x')]) w6) := HQ.out.app hown' hgrow; clear hown' hgrow hob)
      refine ⟨⟨r', v', _, rfl, rfl, rfl, HF.out, by rw [H.out.2.1]; exact Lns.more HS.out.2 H.out.1⟩, ?_⟩
      cases r' with
      | none => show 0 < n + 1 - (intOf (.int .i64 (p : Int))).toNat; simp only [intOf]; omega
      | some q =>
        obtain ⟨k1, k2, -, -⟩ := H.out.1
        have := HN.out
        show n + 1 - (intOf (.int .i64 (q : Int))).toNat < n + 1 - (intOf (.int .i64 (p : Int))).toNat
        simp only [intOf]
        omega
end
end Go.Proofs.YtplieccalmkloaaGreatDoor.Sto
namespace Go.Proofs.YtplieccalmkloaaGreatDoor.Sto
open Go.RowKit Go.Shelf Bod Wid
open Gap (Gp Is gSlice gMea)

theorem vt_nil {w : World} (hE : Ev w) : Vt w (.iface 23 (.pointer none)) ⟨#[]⟩ := vt_store (x := none) (k := k0) (K := .gap none Gap.g0 0) (.inl ⟨rfl, rfl, rfl⟩) ⟨rfl, rfl, rfl⟩ hE
set_option maxRecDepth 100000 in
set_option maxHeartbeats 1000000 in
theorem look_nil {w : World} (hE : Ev w) : Calls Tryz.prog 38 #[.nilIface] w fun e W' => e = .returned (.agg #[.iface 23 (.pointer none), .int .i64 0]) ∧ Below w.heap.size w W' := by
  have h0 := vt_nil hE
  have hmf : ∀ (fn : Fn) (first cap : Array Value) (w : World), (Instr.makeFunc fn first cap).run Tryz.prog w = .ok (.func fn first cap) w := fun _ _ _ _ => rfl
  have he : ∀ W, (binOp .eql 41 .nilIface .nilIface).run Tryz.prog W = .ok (.bool true) W := fun W => by kernel_rfl
  obtain ⟨W0, hW0⟩ : ∃ W0, ((w.alloc (.cells #[.iface 23 (.pointer none)] 41)).alloc (.cells #[.nilIface, .int .i64 0] 83)).alloc (.cells #[.iface 23 (.pointer none), .int .i64 0] 83) = W0 := ⟨_, rfl⟩
  have hL : Lb w (.iface 23 (.pointer none)) 0 W0 := by
    obtain ⟨p0, p1⟩ := push2 w.heap (.cells #[.iface 23 (.pointer none)] 41) (.cells #[.nilIface, .int .i64 0] 83)
    have hb := (((Below.refl _ w).alloc (Nat.le_refl _) (.cells #[.iface 23 (.pointer none)] 41)).alloc (by simp) (.cells #[.nilIface, .int .i64 0] 83))
    have hb2 := hb.alloc (by simp; omega) (.cells #[.iface 23 (.pointer none), .int .i64 0] 83)
    rw [← hW0]
    refine ⟨hb2, (Below.heap_alloc _ _ _ (by simp; omega)).trans p0, (Below.heap_alloc _ _ _ (by simp)).trans p1, ?_⟩
    have := World.alloc_heap_new ((w.alloc (.cells #[.iface 23 (.pointer none)] 41)).alloc (.cells #[.nilIface, .int .i64 0] 83)) (.cells #[.iface 23 (.pointer none), .int .i64 0] 83)
    simpa using this
  have CQ : Hid (Calls Tryz.prog 70 #[.func (.func 71) #[] #[.pointer (some ⟨w.heap.size, 0, none⟩), .pointer (some ⟨w.heap.size + 1 + 1, 0, none⟩)]] W0 fun e W' => e = .returned (.tuple #[]) ∧ Hid (Lb w (.iface 23 (.pointer none)) 0 W')) := quietly_any (R := Lb w (.iface 23 (.pointer none)) 0) (enters_of Tryz.func71 (by kernel_rfl) rfl) (look1_any h0 (by decide) hL)
  have HX : Hid (∀ X, Lb w (.iface 23 (.pointer none)) 0 X → X.cell? ⟨w.heap.size + 1 + 1, 0, none⟩ = some (.iface 23 (.pointer none)) ∧ X.cell? ⟨w.heap.size + 1 + 1, 1, none⟩ = some (.int .i64 0) ∧ X.cell? ⟨w.heap.size + 1, 0, none⟩ = some .nilIface ∧ X.frozen? ⟨w.heap.size + 1, 0, none⟩ = false ∧ X.cell? ⟨w.heap.size + 1, 1, none⟩ = some (.int .i64 0) ∧ X.frozen? ⟨w.heap.size + 1, 1, none⟩ = false) := fun X hX => by simp [World.cell?, World.frozen?, hX.v, hX.r]
  have HW0 : Hid (((w.alloc (.cells #[.iface 23 (.pointer none)] 41)).alloc (.cells #[.nilIface, .int .i64 0] 83)).alloc (.cells #[.iface 23 (.pointer none), .int .i64 0] 83) = W0) := hW0
  clear h0 hL hW0 hE
  go_enter Tryz.func38, Tryz.ntmps38
  go_upto_region 4 with fail
  have hW0 := HW0.out
  rw [hW0]
  clear HW0
  go_wp2_with (go_at_call 70; refine CQ.out.mono ?_; clear CQ hW0; rintro e w1 ⟨rfl, H⟩; obtain ⟨k1, k2, k3, k4, k5, k6⟩ := HX.out _ H.out)
  have s1 := set1 (i := 0) (.iface 23 (.pointer none)) H.out.r
  have s2 := set1 (i := 1) (.int .i64 0) s1
  have hb := (H.out.bel.setCell (p := ⟨w.heap.size + 1, 0, none⟩) (by simp) (.iface 23 (.pointer none))).setCell (p := ⟨w.heap.size + 1, 1, none⟩) (by simp) (.int .i64 0)
  generalize (w1.setCell ⟨w.heap.size + 1, 0, none⟩ (.iface 23 (.pointer none))).setCell ⟨w.heap.size + 1, 1, none⟩ (.int .i64 0) = X at s2 hb ⊢
  have y0 : X.cell? ⟨w.heap.size + 1, 0, none⟩ = some (.iface 23 (.pointer none)) := by simp [World.cell?, s2]
  have y1 : X.cell? ⟨w.heap.size + 1, 1, none⟩ = some (.int .i64 0) := by simp [World.cell?, s2]
  exact bodyPost_ret (v := .agg #[.iface 23 (.pointer none), .int .i64 0]) (by simp [results, Tryz.results38, go_sem, y0, y1]) rfl ⟨rfl, hb⟩
theorem tl_nil {w : World} (hE : Ev w) : Tl w .nilIface ⟨#[]⟩ := ⟨by decide, _, vt_nil hE, fun _ hW => look_nil (hE.below hW)⟩
end Go.Proofs.YtplieccalmkloaaGreatDoor.Sto
