/-
  Package lines: newlines, begin, next, span, and Count, Of, Span, Line. Conditions: those of each theorem.
-/
import Derived.Test.YtplieccalmkloaaGreatDoorPkDV
import Derived.Lib.ConvBytes
namespace Go.Proofs.YtplieccalmkloaaGreatDoor.Sto
open Go.RowKit Go.Shelf Bod Wid
open Gap (Gp Is gSlice gMea gRng)

/-- the bytes LF from a up to c -/
def cn (s : ByteArray) (a c : Nat) : Nat := nls (s.extract a c)
/-- the byte at i -/
def byt (s : ByteArray) (i : Nat) : UInt8 := s.data.toList.getD i 0
theorem cn_add {s : ByteArray} {a b c : Nat} (h1 : a ≤ b) (h2 : b ≤ c) : cn s a c = cn s a b + cn s b c := by
  unfold cn nls
  rw [data_extract', data_extract', data_extract', ← List.countP_append]
  congr 1
  rw [show c - a = (b - a) + (c - b) by omega, List.take_add, List.drop_drop, show a + (b - a) = b by omega]
theorem cn_self (s : ByteArray) (a : Nat) : cn s a a = 0 := by
  unfold cn nls
  rw [data_extract', Nat.sub_self, List.take_zero]; rfl
theorem cn_one {s : ByteArray} {i : Nat} (h : i < s.size) : cn s i (i + 1) = if byt s i = 10 then 1 else 0 := by
  unfold cn nls byt
  have hl : i < s.data.toList.length := by simpa using h
  rw [data_extract', show i + 1 - i = 1 by omega, List.take_one, List.head?_drop, List.getD_eq_getElem?_getD, List.getElem?_eq_getElem hl]
  simp [List.countP_cons]
theorem cn_mono {s : ByteArray} {a b c : Nat} (h1 : a ≤ b) (h2 : b ≤ c) : cn s a b ≤ cn s a c := by rw [cn_add h1 h2]; omega
theorem cn_le {s : ByteArray} {a c : Nat} (h : c ≤ s.size) : cn s a c ≤ c - a := by
  have := nls_le (s.extract a c)
  have e : (s.extract a c).size ≤ c - a := by rw [ByteArray.size_extract]; omega
  unfold cn; omega
/-- right behind the LF number k of those from a up to c, if there are so many -/
def IsB (s : ByteArray) (a c k : Nat) : Option Nat → Prop
  | some p => a < p ∧ p ≤ c ∧ byt s (p - 1) = 10 ∧ cn s a p = k
  | none => cn s a c < k
theorem IsB.uniq {s : ByteArray} {a c k : Nat} {x y : Option Nat} (hc : c ≤ s.size) (hx : IsB s a c k x) (hy : IsB s a c k y) : x = y := by
  have key : ∀ p q, IsB s a c k (some p) → IsB s a c k (some q) → p < q → False := fun p q hp hq hlt => by
    obtain ⟨p1, p2, p3, p4⟩ := hp
    obtain ⟨q1, q2, q3, q4⟩ := hq
    have e1 := cn_add (s := s) (a := a) (b := q - 1) (c := q) (by omega) (by omega)
    have e2 := cn_one (s := s) (i := q - 1) (by omega)
    rw [show q - 1 + 1 = q by omega, if_pos q3] at e2
    have e3 := cn_mono (s := s) (a := a) (b := p) (c := q - 1) (by omega) (by omega)
    omega
  match x, y, hx, hy with
  | none, none, _, _ => rfl
  | some p, none, hp, hn =>
    obtain ⟨p1, p2, p3, p4⟩ := hp
    have := cn_mono (s := s) (a := a) (b := p) (c := c) (by omega) p2
    have hn' : cn s a c < k := hn
    omega
  | none, some p, hn, hp =>
    obtain ⟨p1, p2, p3, p4⟩ := hp
    have := cn_mono (s := s) (a := a) (b := p) (c := c) (by omega) p2
    have hn' : cn s a c < k := hn
    omega
  | some p, some q, hp, hq =>
    rcases Nat.lt_trichotomy p q with h | h | h
    · exact (key p q hp hq h).elim
    · rw [h]
    · exact (key q p hq hp h).elim
theorem unBS : Tryz.prog.underlying 110 = some (.slice 5) := Tryz.underlying110
/-- the bytes of a text in a row of their own -/
theorem conv_any (X : ByteArray) (W : World) : ∃ c W', (convert 9 110 (.string X)).run Tryz.prog W = .ok (.slice (some ⟨W.heap.size, 0, none⟩) X.size c) W' ∧ Below W.heap.size W W' ∧ ∀ j, j < X.size → ∀ V, Below W'.heap.size W' V → V.cell? ⟨W.heap.size, j, none⟩ = some (.int .u8 ((byt X j).toNat : Int)) := by
  refine ⟨_, _, Lib.run_convert_string_bytes (P := Tryz.prog) W 9 110 5 X Tryz.underlying9 unBS Tryz.underlying5, ?_, fun j hj V hV => ?_⟩
  · exact ⟨rfl, rfl, rfl, by rw [Lib.bytesWorld_size]; omega, fun k hk => Lib.bytesWorld_at_old W 5 X k hk⟩
  · rw [hV.cell (p := ⟨W.heap.size, j, none⟩) (by rw [Lib.bytesWorld_size]; simp)]
    exact Lib.bytesWorld_cell W 5 X j hj
set_option maxRecDepth 100000 in
set_option maxHeartbeats 1000000 in
theorem behind_any {w : World} {t : Value} {s : ByteArray} (h : Vt w t s) (n : Int) (a c : Nat) (h1 : a ≤ c) (h2 : c ≤ s.size) (hs : s.size ≤ 1073741824) (k : Nat) (hk : 1 ≤ k) (hk2 : k ≤ 9223372036854775807) : Calls Tryz.prog 89 #[.agg #[t, .int .i64 n], .int .i64 a, .int .i64 c, .int .i64 (k : Int)] w fun e W' => (∃ r, e = .returned (.tuple #[.int .i64 ((r.getD 0 : Nat) : Int), .bool r.isSome]) ∧ IsB s a c k r) ∧ Below w.heap.size w W' := by
  have HV : Hid (Vt w t s) := h
  obtain ⟨W0, hW0⟩ : ∃ W0, w.alloc (.cells #[t, .int .i64 n] 83) = W0 := ⟨_, rfl⟩
  have HB0 : Hid (Below w.heap.size w W0) := by show Below _ _ _; rw [← hW0]; exact (Below.refl _ w).alloc (Nat.le_refl _) _
  have HX : Hid (∀ W, Below W0.heap.size W0 W → W.cell? ⟨w.heap.size, 0, none⟩ = some t ∧ W.cell? ⟨w.heap.size, 1, none⟩ = some (.int .i64 n)) := fun W hW => by
    have h0 : W0.heap[w.heap.size]? = some (.cells #[t, .int .i64 n] 83 (0, 0)) := by rw [← hW0]; exact World.alloc_heap_new w _
    have h1 := (hW.block _ (Array.getElem?_eq_some_iff.1 h0).1).trans h0
    simp [World.cell?, h1]
  have HS : Hid (c ≤ s.size) := h2
  clear h
  go_enter Tryz.func89, Tryz.ntmps89
  go_wp2
  obtain ⟨vb, hvb⟩ : ∃ vb, w.heap.size = vb := ⟨_, rfl⟩
  rw [hvb] at HX ⊢
  clear hW0 hvb
  go_loopw [1, 2, 3] (fun t1 t2 t3 wr => ∃ (f o q : Nat), t1 = .int .i64 f ∧ t2 = .int .i64 o ∧ t3 = .int .i64 q ∧ a ≤ f ∧ f ≤ o ∧ o ≤ c ∧ 1 ≤ q ∧ q ≤ k ∧ Hid (Below W0.heap.size W0 wr ∧ k = cn s a f + q ∧ (o = c ∨ q ≤ cn s f o))) (fun t1 t2 _ _ => (intOf t2).toNat - (intOf t1).toNat)
  case atStart => exact ⟨a, c, k, rfl, rfl, rfl, Nat.le_refl _, h1, Nat.le_refl _, hk, Nat.le_refl _, Below.refl _ _, by rw [cn_self]; omega, .inl rfl⟩
  case round =>
    obtain ⟨f, o, q, rfl, rfl, rfl, b1, b2, b3, b4, b5, HB⟩ := hrel
    obtain ⟨x0, x1⟩ := HX.out _ HB.out.1
    by_cases hbig : 64 < o - f
    · obtain ⟨m, hm⟩ : ∃ m, f + (o - f) / 2 = m := ⟨_, rfl⟩
      have hm1 : f < m ∧ m < o := by omega
      have hbig' : (64 : Int) < (o : Int) - (f : Int) := by omega
      have hq : ((o : Int) - (f : Int)).tdiv 2 = ((o - f) / 2 : Nat) := by rw [show (o : Int) - (f : Int) = ((o - f : Nat) : Int) by omega]; rfl
      have hq2 : ((o : Int) - (f : Int)) / 2 = ((o - f) / 2 : Nat) := by omega
      have hmm : (f : Int) + ((o - f : Nat) : Int) / 2 = (m : Int) := by omega
      have CN : Hid (∀ W, Below W0.heap.size W0 W → Calls Tryz.prog 63 #[.agg #[t, .int .i64 n], .int .i64 f, .int .i64 m] W fun e W' => e = .returned (.int .i64 (cn s f m : Int)) ∧ Hid (Below W0.heap.size W0 W')) := fun W hW => (newlines_any (HV.out.below (Below.on HB0.out hW)) n f m (by omega) (by have := HS.out; omega) hs).mono fun e W' q => ⟨q.1, Below.on hW q.2⟩
      have HA1 : Hid (cn s a m = cn s a f + cn s f m ∧ cn s f o = cn s f m + cn s m o) := ⟨cn_add (by omega) (by omega), cn_add (by omega) (by omega)⟩
      obtain ⟨z, hz⟩ : ∃ z, cn s f m = z := ⟨_, rfl⟩
      have HZ : Hid (cn s f m = z) := hz
      rw [hz] at CN HA1
      have hz3 : z ≤ 1073741824 := by have := cn_le (s := s) (a := f) (c := m) (by have := HS.out; omega); have := HS.out; omega
      clear hm hz
      by_cases hzq : z < q
      · have hzq' : (z : Int) < (q : Int) := by omega
        go_wp2_with (go_at_call 63; refine (CN.out _ HB.out.1).mono ?_; clear CN; rintro e w4 ⟨rfl, H4⟩)
        refine ⟨⟨m, o, q - z, rfl, rfl, by congr 1; omega, by omega, by omega, b3, by omega, by omega, H4.out, ?_, ?_⟩, by simp [intOf]; omega⟩
        · rw [HA1.out.1]; have := HB.out.2.1; omega
        · rcases HB.out.2.2 with e | e
          · exact .inl e
          · exact .inr (by have := HA1.out.2; omega)
      · have hzq' : ¬ (z : Int) < (q : Int) := by omega
        go_wp2_with (go_at_call 63; refine (CN.out _ HB.out.1).mono ?_; clear CN; rintro e w4 ⟨rfl, H4⟩)
        refine ⟨⟨f, m, q, rfl, rfl, rfl, b1, by omega, by omega, b4, b5, H4.out, HB.out.2.1, .inr (by rw [HZ.out]; omega)⟩, by simp [intOf]; omega⟩
    · have hbig' : ¬ (64 : Int) < (o : Int) - (f : Int) := by omega
      have CP : Hid (∀ W, Below W0.heap.size W0 W → Calls Tryz.prog 91 #[.agg #[t, .int .i64 n], .int .i64 f, .int .i64 o] W fun e W' => e = .returned (.string (s.extract f o)) ∧ Hid (Below W0.heap.size W0 W')) := fun W hW => by
        have := piece_any (HV.out.below (Below.on HB0.out hW)) n f o
        rw [gSlice_in b2 (by have := HS.out; omega)] at this
        exact this.mono fun e W' q => ⟨q.1, Below.on hW q.2⟩
      have HXs : Hid ((s.extract f o).size = o - f ∧ ∀ j, j < o - f → byt (s.extract f o) j = byt s (f + j)) := ⟨by rw [ByteArray.size_extract]; have := HS.out; omega, fun j hj => by
        unfold byt
        rw [data_extract', List.getD_eq_getElem?_getD, List.getD_eq_getElem?_getD, List.getElem?_take_of_lt hj, List.getElem?_drop]⟩
      generalize s.extract f o = X at CP HXs
      have HCv : Hid (∀ W, Below W0.heap.size W0 W → ∃ cc W', (convert 9 110 (.string X)).run Tryz.prog W = .ok (.slice (some ⟨W.heap.size, 0, none⟩) (o - f) cc) W' ∧ Hid (Below W0.heap.size W0 W' ∧ ∀ j, j < o - f → ∀ V, Below W'.heap.size W' V → V.cell? ⟨W.heap.size, j, none⟩ = some (.int .u8 ((byt s (f + j)).toNat : Int)))) := fun W hW => by
        obtain ⟨cc, W', q1, q2, q3⟩ := conv_any X W
        rw [HXs.out.1] at q1 q3
        exact ⟨cc, W', q1, Below.on hW q2, fun j hj V hV => by rw [← HXs.out.2 j hj]; exact q3 j hj V hV⟩
      obtain ⟨L, hL⟩ : ∃ L, o - f = L := ⟨_, rfl⟩
      have HLo : Hid (o - f = L) := hL
      have hL3 : L ≤ 64 := by omega
      rw [hL] at HCv
      have HK1 : Hid (k = cn s a f + q ∧ (o = c ∨ q ≤ cn s f o)) := HB.out.2
      clear hL HXs
      go_wp2_with (first
        | (go_at_call 91; refine (CP.out _ HB.out.1).mono ?_; clear CP; rintro e w5 ⟨rfl, H5⟩; obtain ⟨cc, W6, hcv, H6⟩ := HCv.out _ H5.out; clear HCv))
      obtain ⟨cb, hcb⟩ : ∃ cb, w5.heap.size = cb := ⟨_, rfl⟩
      rw [hcb] at H6 ⊢
      clear hcv hcb
      go_loopw [3, 42] (fun t3 t42 wr => ∃ (j q2 : Nat), t42 = .int .i64 j ∧ t3 = .int .i64 q2 ∧ j ≤ L ∧ 1 ≤ q2 ∧ q2 ≤ k ∧ W6 = wr ∧ Hid (q = cn s f (f + j) + q2)) (fun _ t42 _ => L - (intOf t42).toNat)
      case atStart => exact ⟨0, q, rfl, rfl, Nat.zero_le _, b4, b5, rfl, by show q = _; rw [Nat.add_zero, cn_self]; omega⟩
      case round =>
        obtain ⟨j, q2, rfl, rfl, hj, hq1, hq2', rfl, HJ⟩ := hrel
        have hcs := HS.out
        have hLo := HLo.out
        by_cases hlt : j < L
        · have y0 := H6.out.2 j hlt W6 (Below.refl _ _)
          have hlt' : (j : Int) < (L : Int) := by omega
          have HS1 : Hid (cn s f (f + (j + 1)) = cn s f (f + j) + if byt s (f + j) = 10 then 1 else 0) := by
            show _ = _
            rw [← Nat.add_assoc, cn_add (b := f + j) (by omega) (by omega), cn_one (by omega)]
          have hbb := (byt s (f + j)).toNat_lt
          clear hcs hLo
          by_cases hbt : byt s (f + j) = 10
          · rw [hbt] at y0
            have HS2 : Hid (cn s f (f + (j + 1)) = cn s f (f + j) + 1 ∧ byt s (f + j) = 10) := ⟨by rw [HS1.out, if_pos hbt], hbt⟩
            have y1 : W6.cell? ⟨cb, j, none⟩ = some (.int .u8 10) := y0
            clear y0 HS1 hbt hbb
            by_cases hq0 : q2 = 1
            · have HF : Hid (IsB s a c k (some (f + j + 1))) := by
                refine ⟨by omega, by have := HLo.out; omega, by rw [Nat.add_sub_cancel]; exact HS2.out.2, ?_⟩
                rw [cn_add (b := f) (by omega) (by omega), Nat.add_assoc, HS2.out.1, HK1.out.1]
                have := HJ.out
                omega
              have HB6 : Hid (Below w.heap.size w W6) := Below.on HB0.out H6.out.1
              have hfj : f + j ≤ 1073741824 := by have := HLo.out; have := HS.out; omega
              subst hq0
              clear HK1 HS2 HJ
              go_wp2
              go_ret2
              exact ⟨⟨some (f + j + 1), rfl, HF.out⟩, HB6.out⟩
            · have hq3 : ((q2 : Int) - 1 == 0) = false := by simp; omega
              have hq4 : ¬ (q2 : Int) - 1 = 0 := by omega
              go_wp2
              refine ⟨⟨j + 1, q2 - 1, by go_num, by congr 1; omega, by omega, by omega, by omega, by first | trivial | rfl, ?_⟩, by simp [intOf]; omega⟩
              show q = _
              rw [HS2.out.1]; have := HJ.out; omega
          · have hb1 : ¬ ((byt s (f + j)).toNat : Int) = 10 := fun e => hbt (by
              have h1 : (byt s (f + j)).toNat = 10 := by omega
              exact UInt8.toNat_inj.1 h1)
            have HS2 : Hid (cn s f (f + (j + 1)) = cn s f (f + j)) := by show _ = _; rw [HS1.out, if_neg hbt, Nat.add_zero]
            generalize (byt s (f + j)).toNat = bv at y0 hb1 hbb
            have hb2 : ((bv : Int) == 10) = false := by rw [beq_eq_false_iff_ne]; exact hb1
            clear HS1 hbt
            go_wp2
            refine ⟨⟨j + 1, q2, by go_num, rfl, by omega, hq1, hq2', by first | trivial | rfl, ?_⟩, by simp [intOf]; omega⟩
            show q = _
            rw [HS2.out]; exact HJ.out
        · have hjL : f + j = o := by omega
          have HF : Hid (IsB s a c k none) := by
            show cn s a c < k
            have h1 := HJ.out
            rw [hjL] at h1
            have h2 := HK1.out.1
            rcases HK1.out.2 with e | e
            · rw [← e, cn_add (b := f) (by omega) (by omega)]; omega
            · omega
          have HB6 : Hid (Below w.heap.size w W6) := Below.on HB0.out H6.out.1
          clear hcs hLo hjL HK1 HJ
          go_wp2
          go_ret2
          exact ⟨⟨none, rfl, HF.out⟩, HB6.out⟩
end Go.Proofs.YtplieccalmkloaaGreatDoor.Sto
namespace Go.Proofs.YtplieccalmkloaaGreatDoor.Sto
open Go.RowKit Go.Shelf Bod Wid

/-- the line of at begins at p -/
def IsL (s : ByteArray) (at' p : Nat) : Prop := p ≤ at' ∧ (p = 0 ∨ byt s (p - 1) = 10) ∧ cn s p at' = 0
theorem IsL.uniq {s : ByteArray} {a p q : Nat} (ha : a ≤ s.size) (hp : IsL s a p) (hq : IsL s a q) : p = q := by
  have key : ∀ p q, IsL s a p → IsL s a q → p < q → False := fun p q hp hq hlt => by
    obtain ⟨p1, p2, p3⟩ := hp
    obtain ⟨q1, q2, q3⟩ := hq
    have hq4 : byt s (q - 1) = 10 := by rcases q2 with h | h; · omega
                                        · exact h
    have e1 := cn_add (s := s) (a := p) (b := q) (c := a) (by omega) q1
    have e2 := cn_add (s := s) (a := p) (b := q - 1) (c := q) (by omega) (by omega)
    have e3 := cn_one (s := s) (i := q - 1) (by omega)
    rw [show q - 1 + 1 = q by omega, if_pos hq4] at e3
    omega
  rcases Nat.lt_trichotomy p q with h | h | h
  · exact (key p q hp hq h).elim
  · exact h
  · exact (key q p hq hp h).elim
section
variable {w : World} {t : Value} {s : ByteArray}
set_option maxRecDepth 100000 in
set_option maxHeartbeats 2000000 in
theorem begin_any (h : Vt w t s) (n : Int) (a : Nat) (h2 : a ≤ s.size) (hs : s.size ≤ 1073741824) : Calls Tryz.prog 48 #[.agg #[t, .int .i64 n], .int .i64 a] w fun e W' => (∃ p : Nat, e = .returned (.int .i64 (p : Int)) ∧ IsL s a p) ∧ Below w.heap.size w W' := by
  have HV : Hid (Vt w t s) := h
  obtain ⟨W0, hW0⟩ : ∃ W0, w.alloc (.cells #[t, .int .i64 n] 83) = W0 := ⟨_, rfl⟩
  have HB0 : Hid (Below w.heap.size w W0) := by show Below _ _ _; rw [← hW0]; exact (Below.refl _ w).alloc (Nat.le_refl _) _
  have HX : Hid (∀ W, Below W0.heap.size W0 W → W.cell? ⟨w.heap.size, 0, none⟩ = some t ∧ W.cell? ⟨w.heap.size, 1, none⟩ = some (.int .i64 n)) := fun W hW => by
    have h0 : W0.heap[w.heap.size]? = some (.cells #[t, .int .i64 n] 83 (0, 0)) := by rw [← hW0]; exact World.alloc_heap_new w _
    have h1 := (hW.block _ (Array.getElem?_eq_some_iff.1 h0).1).trans h0
    simp [World.cell?, h1]
  have HS : Hid (a ≤ s.size) := h2
  have ha3 : a ≤ 1073741824 := by omega
  clear h
  go_enter Tryz.func48, Tryz.ntmps48
  go_wp2
  obtain ⟨vb, hvb⟩ : ∃ vb, w.heap.size = vb := ⟨_, rfl⟩
  rw [hvb] at HX ⊢
  clear hW0 hvb
  go_loopw [1, 5] (fun t1 t5 wr => ∃ (x R : Nat), t1 = .int .i64 x ∧ t5 = .int .i64 R ∧ x ≤ a ∧ 64 ≤ R ∧ R ≤ 4294967296 ∧ Hid (Below W0.heap.size W0 wr ∧ cn s x a = 0 ∧ (x = 0 ∨ R = 64 + (a - x)))) (fun t1 _ _ => (intOf t1).toNat)
  case atStart => exact ⟨a, 64, rfl, rfl, Nat.le_refl _, by omega, by omega, Below.refl _ _, cn_self _ _, .inr (by omega)⟩
  case round =>
    obtain ⟨x, R, rfl, rfl, b1, b2, b3, HB⟩ := hrel
    obtain ⟨x0, x1⟩ := HX.out _ HB.out.1
    by_cases hx0 : 0 < x
    · have hx0' : (0 : Int) < (x : Int) := by omega
      have hR : R = 64 + (a - x) := by rcases HB.out.2.2 with e | e; · omega
                                       · exact e
      obtain ⟨f, hf⟩ : ∃ f, x - R = f := ⟨_, rfl⟩
      have hmx : max ((x : Int) - (R : Int)) 0 = (f : Int) := by omega
      have hfx : f < x := by omega
      have CN : Hid (∀ W, Below W0.heap.size W0 W → Calls Tryz.prog 63 #[.agg #[t, .int .i64 n], .int .i64 f, .int .i64 x] W fun e W' => e = .returned (.int .i64 (cn s f x : Int)) ∧ Hid (Below W0.heap.size W0 W')) := fun W hW => (newlines_any (HV.out.below (Below.on HB0.out hW)) n f x (by omega) (by have := HS.out; omega) hs).mono fun e W' q => ⟨q.1, Below.on hW q.2⟩
      obtain ⟨z, hz⟩ : ∃ z, cn s f x = z := ⟨_, rfl⟩
      have HZ : Hid (cn s f x = z) := hz
      have hz3 : z ≤ 1073741824 := by have := cn_le (s := s) (a := f) (c := x) (by have := HS.out; omega); omega
      rw [hz] at CN
      have HR2 : Hid (2 * R = 64 + (a - f) ∨ f = 0) := by
        show _ ∨ _
        rcases Nat.lt_or_ge R x with e | e
        · exact .inl (by omega)
        · exact .inr (by omega)
      have hR3 : R ≤ 1073741824 + 64 := by omega
      clear hz hf hR
      by_cases hz0 : 0 < z
      · have hz0' : (0 : Int) < (z : Int) := by omega
        have CB : Hid (∀ W, Below W0.heap.size W0 W → Calls Tryz.prog 89 #[.agg #[t, .int .i64 n], .int .i64 f, .int .i64 x, .int .i64 (z : Int)] W fun e W' => ∃ p : Nat, e = .returned (.tuple #[.int .i64 (p : Int), .bool true]) ∧ Hid (IsL s a p ∧ Below W0.heap.size W0 W')) := fun W hW => (behind_any (HV.out.below (Below.on HB0.out hW)) n f x (by omega) (by have := HS.out; omega) hs z (by omega) (by omega)).mono (by
          rintro e W' ⟨⟨r, rfl, hr⟩, q2⟩
          cases r with
          | none => have : cn s f x < z := hr; have := HZ.out; omega
          | some p =>
            obtain ⟨r1, r2, r3, r4⟩ := hr
            refine ⟨p, rfl, ⟨by omega, .inr r3, ?_⟩, Below.on hW q2⟩
            have e1 := cn_add (s := s) (a := f) (b := p) (c := x) (by omega) r2
            have e2 := cn_add (s := s) (a := p) (b := x) (c := a) r2 b1
            have := HZ.out
            have := HB.out.2.1
            omega)
        clear HZ HR2
        go_wp2_with (first
          | (go_at_call 63; refine (CN.out _ HB.out.1).mono ?_; clear CN x0 x1; rintro e w4 ⟨rfl, H4⟩; obtain ⟨x0, x1⟩ := HX.out _ H4.out)
          | (go_at_call 89; refine (CB.out _ H4.out).mono ?_; clear CB; rintro e w5 ⟨p, rfl, H5⟩))
        go_ret
        exact ⟨⟨p, rfl, H5.out.1⟩, Below.on HB0.out H5.out.2⟩
      · have hz0' : ¬ (0 : Int) < (z : Int) := by omega
        go_wp2_with (first
          | (go_at_call 63; refine (CN.out _ HB.out.1).mono ?_; clear CN x0 x1; rintro e w4 ⟨rfl, H4⟩; obtain ⟨x0, x1⟩ := HX.out _ H4.out))
        refine ⟨⟨f, 2 * R, rfl, by congr 1; omega, by omega, by omega, by omega, H4.out, ?_, ?_⟩, by simp [intOf]; omega⟩
        · rw [cn_add (b := x) (by omega) b1, HZ.out, HB.out.2.1]; omega
        · rcases HR2.out with e | e
          · exact .inr e
          · exact .inl e
    · have hx1 : x = 0 := by omega
      have hx0' : ¬ (0 : Int) < (x : Int) := by omega
      have HF : Hid (IsL s a 0) := ⟨Nat.zero_le _, .inl rfl, by have := HB.out.2.1; rw [hx1] at this; exact this⟩
      clear hx1
      go_wp2
      go_ret
      exact ⟨⟨0, rfl, HF.out⟩, Below.on HB0.out HB.out.1⟩
set_option maxRecDepth 100000 in
set_option maxHeartbeats 2000000 in
theorem next_any (h : Vt w t s) (a : Nat) (h2 : a ≤ s.size) (hs : s.size ≤ 1073741824) : Calls Tryz.prog 103 #[.agg #[t, .int .i64 s.size], .int .i64 a] w fun e W' => (∃ r : Option Nat, e = .returned (.tuple #[.int .i64 ((r.getD 0 : Nat) : Int), .bool r.isSome]) ∧ IsB s a s.size 1 r) ∧ Below w.heap.size w W' := by
  have HV : Hid (Vt w t s) := h
  obtain ⟨n, hn⟩ : ∃ n, s.size = n := ⟨_, rfl⟩
  have HN : Hid (s.size = n) := hn
  rw [hn] at h2 hs ⊢
  clear hn
  obtain ⟨W0, hW0⟩ : ∃ W0, w.alloc (.cells #[t, .int .i64 n] 83) = W0 := ⟨_, rfl⟩
  have HB0 : Hid (Below w.heap.size w W0) := by show Below _ _ _; rw [← hW0]; exact (Below.refl _ w).alloc (Nat.le_refl _) _
  have HX : Hid (∀ W, Below W0.heap.size W0 W → W.cell? ⟨w.heap.size, 0, none⟩ = some t ∧ W.cell? ⟨w.heap.size, 1, none⟩ = some (.int .i64 n)) := fun W hW => by
    have h0 : W0.heap[w.heap.size]? = some (.cells #[t, .int .i64 n] 83 (0, 0)) := by rw [← hW0]; exact World.alloc_heap_new w _
    have h1 := (hW.block _ (Array.getElem?_eq_some_iff.1 h0).1).trans h0
    simp [World.cell?, h1]
  clear h
  go_enter Tryz.func103, Tryz.ntmps103
  go_wp2
  obtain ⟨vb, hvb⟩ : ∃ vb, w.heap.size = vb := ⟨_, rfl⟩
  rw [hvb] at HX ⊢
  clear hW0 hvb
  go_loopw [1, 6] (fun t1 t6 wr => ∃ (x R : Nat), t1 = .int .i64 x ∧ t6 = .int .i64 R ∧ a ≤ x ∧ x ≤ n ∧ 64 ≤ R ∧ R ≤ 4294967296 ∧ Hid (Below W0.heap.size W0 wr ∧ cn s a x = 0 ∧ (x = n ∨ R = 64 + (x - a)))) (fun t1 _ _ => n - (intOf t1).toNat)
  case atStart => exact ⟨a, 64, rfl, rfl, Nat.le_refl _, h2, by omega, by omega, Below.refl _ _, cn_self _ _, .inr (by omega)⟩
  case round =>
    obtain ⟨x, R, rfl, rfl, b0, b1, b2, b3, HB⟩ := hrel
    obtain ⟨x0, x1⟩ := HX.out _ HB.out.1
    by_cases hx0 : x < n
    · have hx0' : (x : Int) < (n : Int) := by omega
      have hR : R = 64 + (x - a) := by rcases HB.out.2.2 with e | e; · omega
                                       · exact e
      obtain ⟨f, hf⟩ : ∃ f, min (x + R) n = f := ⟨_, rfl⟩
      have hmx : min ((x : Int) + (R : Int)) (n : Int) = (f : Int) := by omega
      have hfx : x < f := by omega
      have hfn : f ≤ n := by omega
      have CN : Hid (∀ W, Below W0.heap.size W0 W → Calls Tryz.prog 63 #[.agg #[t, .int .i64 n], .int .i64 x, .int .i64 f] W fun e W' => e = .returned (.int .i64 (cn s x f : Int)) ∧ Hid (Below W0.heap.size W0 W')) := fun W hW => (newlines_any (HV.out.below (Below.on HB0.out hW)) n x f (by omega) (by have := HN.out; omega) (by have := HN.out; omega)).mono fun e W' q => ⟨q.1, Below.on hW q.2⟩
      obtain ⟨z, hz⟩ : ∃ z, cn s x f = z := ⟨_, rfl⟩
      have HZ : Hid (cn s x f = z) := hz
      have hz3 : z ≤ 1073741824 := by have := cn_le (s := s) (a := x) (c := f) (by have := HN.out; omega); omega
      rw [hz] at CN
      have HR2 : Hid (2 * R = 64 + (f - a) ∨ f = n) := by
        show _ ∨ _
        rcases Nat.lt_or_ge (x + R) n with e | e
        · exact .inl (by omega)
        · exact .inr (by omega)
      have hR3 : R ≤ 1073741824 + 64 := by omega
      clear hz hf hR
      by_cases hz0 : 0 < z
      · have hz0' : (0 : Int) < (z : Int) := by omega
        have CB : Hid (∀ W, Below W0.heap.size W0 W → Calls Tryz.prog 89 #[.agg #[t, .int .i64 n], .int .i64 x, .int .i64 f, .int .i64 (1 : Int)] W fun e W' => ∃ p : Nat, e = .returned (.tuple #[.int .i64 (p : Int), .bool true]) ∧ Hid (IsB s a n 1 (some p) ∧ Below W0.heap.size W0 W')) := fun W hW => (behind_any (HV.out.below (Below.on HB0.out hW)) n x f (by omega) (by have := HN.out; omega) (by have := HN.out; omega) 1 (by omega) (by omega)).mono (by
          rintro e W' ⟨⟨r, rfl, hr⟩, q2⟩
          cases r with
          | none => have : cn s x f < 1 := hr; have := HZ.out; omega
          | some p =>
            obtain ⟨r1, r2, r3, r4⟩ := hr
            refine ⟨p, rfl, ⟨by omega, by omega, r3, ?_⟩, Below.on hW q2⟩
            have e1 := cn_add (s := s) (a := a) (b := x) (c := p) b0 (by omega)
            have := HB.out.2.1
            omega)
        clear HZ HR2
        go_wp2_with (first
          | (go_at_call 63; refine (CN.out _ HB.out.1).mono ?_; clear CN x0 x1; rintro e w4 ⟨rfl, H4⟩; obtain ⟨x0, x1⟩ := HX.out _ H4.out)
          | (go_at_call 89; refine (CB.out _ H4.out).mono ?_; clear CB; rintro e w5 ⟨p, rfl, H5⟩))
        go_ret2
        exact ⟨⟨some p, rfl, H5.out.1⟩, Below.on HB0.out H5.out.2⟩
      · have hz0' : ¬ (0 : Int) < (z : Int) := by omega
        go_wp2_with (first
          | (go_at_call 63; refine (CN.out _ HB.out.1).mono ?_; clear CN x0 x1; rintro e w4 ⟨rfl, H4⟩; obtain ⟨x0, x1⟩ := HX.out _ H4.out))
        refine ⟨⟨f, 2 * R, rfl, by congr 1; omega, by omega, by omega, by omega, by omega, H4.out, ?_, ?_⟩, by simp [intOf]; omega⟩
        · rw [cn_add (b := x) b0 (by omega), HZ.out, HB.out.2.1]; omega
        · rcases HR2.out with e | e
          · exact .inr e
          · exact .inl e
    · have hx1 : x = n := by omega
      have hx0' : ¬ (x : Int) < (n : Int) := by omega
      have HF : Hid (IsB s a n 1 none) := by have := HB.out.2.1; rw [hx1] at this; show cn s a n < 1; omega
      clear hx1
      go_wp2
      go_ret2
      exact ⟨⟨none, rfl, HF.out⟩, Below.on HB0.out HB.out.1⟩
end
end Go.Proofs.YtplieccalmkloaaGreatDoor.Sto
namespace Go.Proofs.YtplieccalmkloaaGreatDoor.Sto
open Go.RowKit Go.Shelf Bod Wid
open Gap (Gp Is gSlice gMea gRng)

/-- where the line that begins at a ends, if the next one begins at r -/
def lend (s : ByteArray) (a : Nat) : Option Nat → Nat
  | none => s.size
  | some p => if a < p - 1 ∧ byt s (p - 2) = 13 then p - 2 else p - 1
theorem ext_one {s : ByteArray} {i : Nat} (h : i < s.size) : s.extract i (i + 1) = ⟨#[byt s i]⟩ := by
  apply ByteArray.ext
  apply Array.ext'
  rw [data_extract', show i + 1 - i = 1 by omega]
  have hl : i < s.data.toList.length := by simpa using h
  rw [List.take_one, List.head?_drop, List.getElem?_eq_getElem hl]
  simp [byt, List.getD_eq_getElem?_getD, List.getElem?_eq_getElem hl]
theorem not_same {s t : ByteArray} (h : ¬ s = t) : (s.toList == t.toList) = false := by
  rw [beq_eq_false_iff_ne]
  intro e
  apply h
  rw [Lib.toList_data, Lib.toList_data] at e
  obtain ⟨s⟩ := s
  obtain ⟨t⟩ := t
  exact congrArg ByteArray.mk (Array.toList_inj.1 e)
/-- the boxes of spanFrom and span: the view's, the answer's -/
structure Sb (w : World) (t : Value) (n x y : Int) (W : World) : Prop where
  bel : Below w.heap.size w W
  v : W.heap[w.heap.size]? = some (.cells #[t, .int .i64 n] 83 (0, 0))
  r : W.heap[w.heap.size + 1]? = some (.cells #[.int .i64 x, .int .i64 y] 50 (0, 0))
theorem Sb.below {w W X : World} {t : Value} {n x y : Int} (h : Sb w t n x y W) (hb : Below W.heap.size W X) : Sb w t n x y X :=
  have kp : ∀ {k : Nat} {o : Obj}, W.heap[k]? = some o → X.heap[k]? = some o := fun ho => (hb.block _ (Array.getElem?_eq_some_iff.1 ho).1).trans ho
  ⟨Below.on h.bel hb, kp h.v, kp h.r⟩
theorem Sb.get {w W : World} {t : Value} {n x y : Int} (h : Sb w t n x y W) : W.cell? ⟨w.heap.size, 0, none⟩ = some t ∧ W.cell? ⟨w.heap.size, 1, none⟩ = some (.int .i64 n) ∧ W.cell? ⟨w.heap.size + 1, 0, none⟩ = some (.int .i64 x) ∧ W.cell? ⟨w.heap.size + 1, 1, none⟩ = some (.int .i64 y) ∧ W.frozen? ⟨w.heap.size + 1, 0, none⟩ = false ∧ W.frozen? ⟨w.heap.size + 1, 1, none⟩ = false := by
  simp [World.cell?, World.frozen?, h.v, h.r]
theorem Sb.set {w W : World} {t : Value} {n x y : Int} (h : Sb w t n x y W) (p q : Int) : Sb w t n p q ((W.setCell ⟨w.heap.size + 1, 0, none⟩ (.int .i64 p)).setCell ⟨w.heap.size + 1, 1, none⟩ (.int .i64 q)) := by
  have g0 := gcell W (w.heap.size + 1) 0 (.int .i64 p)
  have g1 := gcell (W.setCell ⟨w.heap.size + 1, 0, none⟩ (.int .i64 p)) (w.heap.size + 1) 1 (.int .i64 q)
  have s1 := set1 (i := 0) (.int .i64 p) h.r
  have s2 := set1 (i := 1) (.int .i64 q) s1
  have e1 := (g0.block w.heap.size (Array.getElem?_eq_some_iff.1 h.v).1 (by simp)).trans h.v
  refine ⟨(h.bel.setCell (p := ⟨w.heap.size + 1, 0, none⟩) (by simp) _).setCell (p := ⟨w.heap.size + 1, 1, none⟩) (by simp) _, (g1.block w.heap.size (Array.getElem?_eq_some_iff.1 e1).1 (by simp)).trans e1, by simpa using s2⟩
theorem sb0 (w : World) (t : Value) (n : Int) : Sb w t n 0 0 ((w.alloc (.cells #[t, .int .i64 n] 83)).alloc (.cells #[.int .i64 0, .int .i64 0] 50)) := by
  obtain ⟨p0, p1⟩ := push2 w.heap (.cells #[t, .int .i64 n] 83) (.cells #[.int .i64 0, .int .i64 0] 50)
  exact ⟨((Below.refl _ w).alloc (Nat.le_refl _) _).alloc (by simp) _, p0, p1⟩
section
variable {w : World} {t : Value} {s : ByteArray}
set_option maxRecDepth 100000 in
set_option maxHeartbeats 2000000 in
theorem spanFrom_any (h : Vt w t s) (a : Nat) (h2 : a ≤ s.size) (hs : s.size ≤ 1073741824) : Calls Tryz.prog 72 #[.agg #[t, .int .i64 s.size], .int .i64 a] w fun e W' => (∃ r : Option Nat, e = .returned (.tuple #[.agg #[.int .i64 a, .int .i64 (lend s a r : Nat)], .int .i64 ((r.getD 0 : Nat) : Int), .bool r.isSome]) ∧ IsB s a s.size 1 r) ∧ Below w.heap.size w W' := by
  have HV : Hid (Vt w t s) := h
  obtain ⟨n, hn⟩ : ∃ n, s.size = n := ⟨_, rfl⟩
  have HN : Hid (s.size = n) := hn
  have CN : Hid (∀ W, Below w.heap.size w W → Calls Tryz.prog 103 #[.agg #[t, .int .i64 n], .int .i64 a] W fun e W' => ∃ r : Option Nat, e = .returned (.tuple #[.int .i64 ((r.getD 0 : Nat) : Int), .bool r.isSome]) ∧ Hid (IsB s a n 1 r ∧ Below W.heap.size W W')) := fun W hW => by
    have := next_any (HV.out.below hW) a h2 hs
    rw [hn] at this
    exact this.mono fun e W' q => by obtain ⟨⟨r, rfl, q1⟩, q2⟩ := q; exact ⟨r, rfl, q1, q2⟩
  rw [hn] at h2 hs ⊢
  clear hn h
  obtain ⟨W0, hW0⟩ : ∃ W0, (w.alloc (.cells #[t, .int .i64 n] 83)).alloc (.cells #[.int .i64 0, .int .i64 0] 50) = W0 := ⟨_, rfl⟩
  have HS : Hid (Sb w t n 0 0 W0) := by show Sb _ _ _ _ _ _; rw [← hW0]; exact sb0 w t n
  obtain ⟨x0, x1, x2, x3, x4, x5⟩ := HS.out.get
  go_enter Tryz.func72, Tryz.ntmps72
  go_upto_region 1 with fail
  clear hW0
  go_upto_region 2 with (go_at_call 103; refine (CN.out _ HS.out.bel).mono ?_; clear CN; rintro e w1 ⟨r, rfl, H⟩; have H1 : Hid (Sb w t n 0 0 w1) := HS.out.below H.out.2; clear HS x0 x1 x2 x3 x4 x5; obtain ⟨x0, x1, x2, x3, x4, x5⟩ := H1.out.get)
  obtain ⟨hl0, hl1⟩ : w.heap.size < w1.heap.size ∧ w.heap.size + 1 < w1.heap.size := ⟨(Array.getElem?_eq_some_iff.1 H1.out.v).1, (Array.getElem?_eq_some_iff.1 H1.out.r).1⟩
  cases r with
  | none =>
    go_wp2
    have hS := H1.out.set (a : Int) (n : Int)
    obtain ⟨y0, y1, y2, y3, y4, y5⟩ := hS.get
    refine bodyPost_ret (v := .tuple #[.agg #[.int .i64 a, .int .i64 n], .int .i64 0, .bool false]) (by simp [results, Tryz.results72, go_sem, y2, y3]) rfl ?_
    exact ⟨⟨none, by rw [← HN.out]; rfl, H.out.1⟩, hS.bel⟩
  | some p =>
    have hp1 : a < p := H.out.1.1
    have hp2 : p ≤ n := H.out.1.2.1
    by_cases hc : a < p - 1
    · have hc' : (a : Int) < (p : Int) - 1 := by omega
      obtain ⟨q, hq⟩ : ∃ q, p = q + 2 := ⟨p - 2, by omega⟩
      have CP : Hid (∀ W, Below w.heap.size w W → Calls Tryz.prog 91 #[.agg #[t, .int .i64 n], .int .i64 ((p : Int) - 1 - 1), .int .i64 ((p : Int) - 1)] W fun e W' => e = .returned (.string ⟨#[byt s q]⟩) ∧ Hid (Below W.heap.size W W')) := fun W hW => by
        have := piece_any (HV.out.below hW) n q (q + 1 : Nat)
        rw [gSlice_in (by omega) (by have := HN.out; omega), ext_one (by have := HN.out; omega)] at this
        rw [show (p : Int) - 1 - 1 = (q : Int) by omega, show (p : Int) - 1 = ((q + 1 : Nat) : Int) by omega]
        exact this
      have HQ : Hid (p = q + 2) := hq
      by_cases hb : byt s q = 13
      · rw [hb] at CP
        have HL : Hid (lend s a (some p) = q) := by
          show (if _ then _ else _) = _
          rw [hq]; exact if_pos ⟨by omega, hb⟩
        clear hq hb
        go_wp2_with (go_at_call 91; refine (CP.out _ H1.out.bel).mono ?_; clear CP; rintro e w2 ⟨rfl, H2⟩; have H3 : Hid (Sb w t n 0 0 w2) := H1.out.below H2.out; clear H1 x0 x1 x2 x3 x4 x5 hl0 hl1; obtain ⟨x0, x1, x2, x3, x4, x5⟩ := H3.out.get; obtain ⟨hl0, hl1⟩ : w.heap.size < w2.heap.size ∧ w.heap.size + 1 < w2.heap.size := ⟨(Array.getElem?_eq_some_iff.1 H3.out.v).1, (Array.getElem?_eq_some_iff.1 H3.out.r).1⟩)
        have hS := H3.out.set (a : Int) ((p : Int) - 1 - 1)
        obtain ⟨y0, y1, y2, y3, y4, y5⟩ := hS.get
        refine bodyPost_ret (v := .tuple #[.agg #[.int .i64 a, .int .i64 ((p : Int) - 1 - 1)], .int .i64 p, .bool true]) (by simp [results, Tryz.results72, go_sem, y2, y3]) rfl ?_
        exact ⟨⟨some p, by rw [HL.out, show (p : Int) - 1 - 1 = (q : Int) by have := HQ.out; omega]; rfl, H.out.1⟩, hS.bel⟩
      · have HL : Hid (lend s a (some p) = q + 1) := by
          show (if _ then _ else _) = _
          rw [hq]; exact if_neg fun h => hb h.2
        have hx : ((⟨#[byt s q]⟩ : ByteArray).toList == (⟨#[13]⟩ : ByteArray).toList) = false := not_same (fun e => hb (by simpa using congrArg (fun b : ByteArray => b.data.toList) e))
        rw [show (⟨#[13]⟩ : ByteArray).toList = [13] by rw [Lib.toList_data]] at hx
        generalize (⟨#[byt s q]⟩ : ByteArray) = x at CP hx
        clear hq hb
        go_wp2_with (go_at_call 91; refine (CP.out _ H1.out.bel).mono ?_; clear CP; rintro e w2 ⟨rfl, H2⟩; have H3 : Hid (Sb w t n 0 0 w2) := H1.out.below H2.out; clear H1 x0 x1 x2 x3 x4 x5 hl0 hl1; obtain ⟨x0, x1, x2, x3, x4, x5⟩ := H3.out.get; obtain ⟨hl0, hl1⟩ : w.heap.size < w2.heap.size ∧ w.heap.size + 1 < w2.heap.size := ⟨(Array.getElem?_eq_some_iff.1 H3.out.v).1, (Array.getElem?_eq_some_iff.1 H3.out.r).1⟩)
        have hS := H3.out.set (a : Int) ((p : Int) - 1)
        obtain ⟨y0, y1, y2, y3, y4, y5⟩ := hS.get
        refine bodyPost_ret (v := .tuple #[.agg #[.int .i64 a, .int .i64 ((p : Int) - 1)], .int .i64 p, .bool true]) (by simp [results, Tryz.results72, go_sem, y2, y3]) rfl ?_
        exact ⟨⟨some p, by rw [HL.out, show (p : Int) - 1 = ((q + 1 : Nat) : Int) by have := HQ.out; omega]; rfl, H.out.1⟩, hS.bel⟩
    · have hc' : ¬ (a : Int) < (p : Int) - 1 := by omega
      have HL : Hid (lend s a (some p) = p - 1) := if_neg fun h => hc h.1
      go_wp2
      have hS := H1.out.set (a : Int) ((p : Int) - 1)
      obtain ⟨y0, y1, y2, y3, y4, y5⟩ := hS.get
      refine bodyPost_ret (v := .tuple #[.agg #[.int .i64 a, .int .i64 ((p : Int) - 1)], .int .i64 p, .bool true]) (by simp [results, Tryz.results72, go_sem, y2, y3]) rfl ?_
      exact ⟨⟨some p, by rw [HL.out, show (p : Int) - 1 = ((p - 1 : Nat) : Int) by omega]; rfl, H.out.1⟩, hS.bel⟩
/-- the line of that number begins at a -/
def IsN (s : ByteArray) (l : Int) (a : Nat) : Prop := a ≤ s.size ∧ (a = 0 ∨ byt s (a - 1) = 10) ∧ (cn s 0 a : Int) = l
/-- what span answers -/
def IsS (s : ByteArray) (l : Int) : Option (Nat × Nat) → Prop
  | some x => IsN s l x.1 ∧ ∃ r, IsB s x.1 s.size 1 r ∧ x.2 = lend s x.1 r
  | none => l < 0 ∨ (cn s 0 s.size : Int) < l
/-- span's answer as a value -/
def spa (o : Option (Nat × Nat)) : Value := .tuple #[.agg #[.int .i64 ((o.getD (0, 0)).1 : Nat), .int .i64 ((o.getD (0, 0)).2 : Nat)], .int .i64 (if o.isSome then 0 else 1)]
set_option maxRecDepth 100000 in
set_option maxHeartbeats 2000000 in
theorem span_any (h : Vt w t s) (l : Int) (hs : s.size ≤ 1073741824) (hl : l ≤ 9223372036854775807) : Calls Tryz.prog 56 #[.agg #[t, .int .i64 s.size], .int .i64 l] w fun e W' => (∃ o, e = .returned (spa o) ∧ IsS s l o) ∧ Below w.heap.size w W' := by
  have HV : Hid (Vt w t s) := h
  obtain ⟨n, hn⟩ : ∃ n, s.size = n := ⟨_, rfl⟩
  have HN : Hid (s.size = n) := hn
  have CS : Hid (∀ W (a : Nat), Below w.heap.size w W → IsN s l a → Calls Tryz.prog 72 #[.agg #[t, .int .i64 n], .int .i64 a] W fun e W' => ∃ (x : Nat) (p : Int) (b : Bool), e = .returned (.tuple #[.agg #[.int .i64 a, .int .i64 x], .int .i64 p, .bool b]) ∧ Hid (IsS s l (some (a, x)) ∧ Below W.heap.size W W')) := fun W a hW ha => by
    have := spanFrom_any (HV.out.below hW) a ha.1 hs
    rw [hn] at this
    exact this.mono fun e W' q => by obtain ⟨⟨r, rfl, q1⟩, q2⟩ := q; exact ⟨_, _, _, rfl, ⟨ha, r, by rw [hn]; exact q1, rfl⟩, q2⟩
  rw [hn] at hs ⊢
  clear hn h
  obtain ⟨W0, hW0⟩ : ∃ W0, (w.alloc (.cells #[t, .int .i64 n] 83)).alloc (.cells #[.int .i64 0, .int .i64 0] 50) = W0 := ⟨_, rfl⟩
  have HS : Hid (Sb w t n 0 0 W0) := by show Sb _ _ _ _ _ _; rw [← hW0]; exact sb0 w t n
  obtain ⟨x0, x1, x2, x3, x4, x5⟩ := HS.out.get
  obtain ⟨hl0, hl1⟩ : w.heap.size < W0.heap.size ∧ w.heap.size + 1 < W0.heap.size := ⟨(Array.getElem?_eq_some_iff.1 HS.out.v).1, (Array.getElem?_eq_some_iff.1 HS.out.r).1⟩
  go_enter Tryz.func56, Tryz.ntmps56
  go_upto_region 1 with fail
  clear hW0
  rcases Int.lt_trichotomy l 0 with hz | hz | hz
  · have hz1 : (l == 0) = false := by simp; omega
    have hz2 : ¬ 0 < l := by omega
    go_wp2
    have hS := HS.out.set 0 0
    obtain ⟨y0, y1, y2, y3, y4, y5⟩ := hS.get
    refine bodyPost_ret (v := spa none) (by simp [results, Tryz.results56, go_sem, y2, y3, spa]) rfl ?_
    exact ⟨⟨none, rfl, .inl hz⟩, hS.bel⟩
  · have hz1 : (l == 0) = true := by simp; omega
    have hz2 : ¬ 0 < l := by omega
    have HA : Hid (IsN s l 0) := ⟨Nat.zero_le _, .inl rfl, by rw [cn_self]; omega⟩
    clear hz
    go_wp2_with (go_at_call 72; refine (CS.out _ 0 HS.out.bel HA.out).mono ?_; clear CS; rintro e w4 ⟨x, y, b, rfl, H4⟩; have HH : Hid (Sb w t n 0 0 w4) := HS.out.below H4.out.2; clear HS x0 x1 x2 x3 x4 x5 hl0 hl1; obtain ⟨x0, x1, x2, x3, x4, x5⟩ := HH.out.get; obtain ⟨hl0, hl1⟩ : w.heap.size < w4.heap.size ∧ w.heap.size + 1 < w4.heap.size := ⟨(Array.getElem?_eq_some_iff.1 HH.out.v).1, (Array.getElem?_eq_some_iff.1 HH.out.r).1⟩)
    have hS := (HH.out.set 0 (x : Int)).below ((Below.refl _ _).alloc (Nat.le_refl _) (.cells #[.int .i64 0, .int .i64 (x : Int)] 50))
    obtain ⟨y0, y1, y2, y3, y4, y5⟩ := hS.get
    refine bodyPost_ret (v := spa (some (0, x))) (by simp [results, Tryz.results56, go_sem, y2, y3, spa]) rfl ?_
    exact ⟨⟨some (0, x), rfl, H4.out.1⟩, hS.bel⟩
  · have hz1 : (l == 0) = false := by simp; omega
    obtain ⟨k, hk⟩ : ∃ k : Nat, l = k := ⟨l.toNat, by omega⟩
    have CB : Hid (∀ W, Below w.heap.size w W → Calls Tryz.prog 89 #[.agg #[t, .int .i64 n], .int .i64 0, .int .i64 n, .int .i64 l] W fun e W' => ∃ r : Option Nat, e = .returned (.tuple #[.int .i64 ((r.getD 0 : Nat) : Int), .bool r.isSome]) ∧ Hid (IsB s 0 n k r ∧ Below W.heap.size W W')) := fun W hW => by
      have := behind_any (HV.out.below hW) n 0 n (by omega) (by have := HN.out; omega) (by have := HN.out; omega) k (by omega) (by omega)
      rw [hk]
      exact this.mono fun e W' q => by obtain ⟨⟨r, rfl, q1⟩, q2⟩ := q; exact ⟨r, rfl, q1, q2⟩
    have HK : Hid (l = k) := hk
    clear hk
    go_upto_region 4 with (go_at_call 89; refine (CB.out _ HS.out.bel).mono ?_; clear CB; rintro e w1 ⟨r, rfl, H⟩; have H1 : Hid (Sb w t n 0 0 w1) := HS.out.below H.out.2; clear HS x0 x1 x2 x3 x4 x5 hl0 hl1; obtain ⟨x0, x1, x2, x3, x4, x5⟩ := H1.out.get; obtain ⟨hl0, hl1⟩ : w.heap.size < w1.heap.size ∧ w.heap.size + 1 < w1.heap.size := ⟨(Array.getElem?_eq_some_iff.1 H1.out.v).1, (Array.getElem?_eq_some_iff.1 H1.out.r).1⟩)
    cases r with
    | none =>
      go_wp2
      have hS := H1.out.set 0 0
      obtain ⟨y0, y1, y2, y3, y4, y5⟩ := hS.get
      refine bodyPost_ret (v := spa none) (by simp [results, Tryz.results56, go_sem, y2, y3, spa]) rfl ?_
      exact ⟨⟨none, rfl, .inr (by have : cn s 0 n < k := H.out.1; rw [HN.out, HK.out]; omega)⟩, hS.bel⟩
    | some p =>
      have HA : Hid (IsN s l p) := by
        obtain ⟨r1, r2, r3, r4⟩ := H.out.1
        exact ⟨by rw [HN.out]; exact r2, .inr r3, by rw [r4, HK.out]⟩
      go_wp2_with (go_at_call 72; refine (CS.out _ p H1.out.bel HA.out).mono ?_; clear CS; rintro e w4 ⟨x, y, b, rfl, H4⟩; have HH : Hid (Sb w t n 0 0 w4) := H1.out.below H4.out.2; clear H1 x0 x1 x2 x3 x4 x5 hl0 hl1; obtain ⟨x0, x1, x2, x3, x4, x5⟩ := HH.out.get; obtain ⟨hl0, hl1⟩ : w.heap.size < w4.heap.size ∧ w.heap.size + 1 < w4.heap.size := ⟨(Array.getElem?_eq_some_iff.1 HH.out.v).1, (Array.getElem?_eq_some_iff.1 HH.out.r).1⟩)
      have hS := (HH.out.set (p : Int) (x : Int)).below ((Below.refl _ _).alloc (Nat.le_refl _) (.cells #[.int .i64 (p : Int), .int .i64 (x : Int)] 50))
      obtain ⟨y0, y1, y2, y3, y4, y5⟩ := hS.get
      refine bodyPost_ret (v := spa (some (p, x))) (by simp [results, Tryz.results56, go_sem, y2, y3, spa]) rfl ?_
      exact ⟨⟨some (p, x), rfl, H4.out.1⟩, hS.bel⟩
end
end Go.Proofs.YtplieccalmkloaaGreatDoor.Sto
namespace Go.Proofs.YtplieccalmkloaaGreatDoor.Sto
open Go.RowKit Go.Shelf Bod Wid
open Gap (Gp Is gSlice gMea gRng)

/-- a text, or none, of which look makes a view of one that tells s -/
structure Tl (w : World) (t : Value) (s : ByteArray) : Prop where
  le : s.size ≤ 1073741824
  ex : ∃ t', Vt w t' s ∧ ∀ W, Below w.heap.size w W → Calls Tryz.prog 38 #[t] W fun e W' => e = .returned (.agg #[t', .int .i64 s.size]) ∧ Hid (Below W.heap.size W W')
theorem Tl.below {w W : World} {t : Value} {s : ByteArray} (h : Tl w t s) (hb : Below w.heap.size w W) : Tl W t s := by
  obtain ⟨t', h1, h2⟩ := h.ex
  exact ⟨h.le, t', h1.below hb, fun X hX => h2 X (Below.on hb hX)⟩
theorem Vt.tl {w : World} {t : Value} {s : ByteArray} (h : Vt w t s) (hs : s.size ≤ 1073741824) : Tl w t s :=
  ⟨hs, t, h, fun _ hW => look_any (h.below hW) hs⟩
theorem Vt.iface {w : World} {t : Value} {s : ByteArray} (h : Vt w t s) : ∃ T u, t = .iface T u := by
  obtain ⟨T, u, fl, fs, fm, h1, -⟩ := h.ex
  exact ⟨T, u, h1⟩
/-- a view in a box -/
structure Ob (w : World) (vb : Nat) (t : Value) (n : Int) (W : World) : Prop where
  bel : Below w.heap.size w W
  v : W.heap[vb]? = some (.cells #[t, .int .i64 n] 83 (0, 0))
theorem Ob.below {w W X : World} {vb : Nat} {t : Value} {n : Int} (h : Ob w vb t n W) (hb : Below W.heap.size W X) : Ob w vb t n X :=
  have kp : ∀ {k : Nat} {o : Obj}, W.heap[k]? = some o → X.heap[k]? = some o := fun ho => (hb.block _ (Array.getElem?_eq_some_iff.1 ho).1).trans ho
  ⟨Below.on h.bel hb, kp h.v⟩
theorem Ob.get {w W : World} {vb : Nat} {t : Value} {n : Int} (h : Ob w vb t n W) : W.cell? ⟨vb, 0, none⟩ = some t ∧ W.cell? ⟨vb, 1, none⟩ = some (.int .i64 n) ∧ vb < W.heap.size :=
  ⟨by simp [World.cell?, h.v], by simp [World.cell?, h.v], (Array.getElem?_eq_some_iff.1 h.v).1⟩
theorem ob_new {w W : World} (t : Value) (n : Int) (h : Below w.heap.size w W) : Ob w W.heap.size t n (W.alloc (.cells #[t, .int .i64 n] 83)) :=
  ⟨Below.on h ((Below.refl _ W).alloc (Nat.le_refl _) _), World.alloc_heap_new _ _⟩
section
variable {w : World} {t : Value} {s : ByteArray}
set_option maxRecDepth 100000 in
set_option maxHeartbeats 2000000 in
theorem count_any (h : Tl w t s) : Calls Tryz.prog 33 #[t] w fun e W' => e = .returned (.int .i64 ((cn s 0 s.size : Int) + 1)) ∧ Below w.heap.size w W' := by
  obtain ⟨t', h1, h2⟩ := h.ex
  obtain ⟨T, u, rfl⟩ := h1.iface
  have hs := h.le
  obtain ⟨n, hn⟩ : ∃ n, s.size = n := ⟨_, rfl⟩
  have hcl : cn s 0 s.size ≤ 1073741824 := by have := cn_le (s := s) (a := 0) (c := s.size) (Nat.le_refl _); omega
  have CL : Hid (Calls Tryz.prog 38 #[t] w fun e W' => e = .returned (.agg #[(.iface T u), .int .i64 s.size]) ∧ Hid (Below w.heap.size w W')) := h2 w (Below.refl _ _)
  have CN : Hid (∀ W, Below w.heap.size w W → Calls Tryz.prog 63 #[.agg #[(.iface T u), .int .i64 s.size], .int .i64 0, .int .i64 s.size] W fun e W' => e = .returned (.int .i64 (cn s 0 s.size : Int)) ∧ Hid (Below W.heap.size W W')) := fun W hW => newlines_any (h1.below hW) s.size 0 s.size (by omega) (by omega) hs
  rw [hn] at CL CN hcl hs ⊢
  obtain ⟨z, hz⟩ : ∃ z, cn s 0 n = z := ⟨_, rfl⟩
  rw [hz] at CN hcl ⊢
  clear h h1 h2 hn hz
  go_enter Tryz.func33, Tryz.ntmps33
  go_upto_region 2 with (go_at_call 38; refine CL.out.mono ?_; clear CL; rintro e w1 ⟨rfl, H⟩)
  have HO : Hid (Ob w w1.heap.size (.iface T u) n (w1.alloc (.cells #[(.iface T u), .int .i64 n] 83))) := ob_new (.iface T u) n H.out
  generalize w1.alloc (.cells #[(.iface T u), .int .i64 n] 83) = W0 at HO ⊢
  obtain ⟨x0, x1, x2⟩ := HO.out.get
  go_wp2_with (go_at_call 63; refine (CN.out _ HO.out.bel).mono ?_; clear CN; rintro e w2 ⟨rfl, H2⟩)
  go_ret
  exact ⟨rfl, (HO.out.below H2.out).bel⟩
set_option maxRecDepth 100000 in
set_option maxHeartbeats 2000000 in
theorem of_any (h : Tl w t s) (a : Int) : Calls Tryz.prog 32 #[t, .int .i64 a] w fun e W' => e = .returned (.tuple #[.int .i64 (if 0 ≤ a ∧ a ≤ s.size then (cn s 0 a.toNat : Int) else 0), .int .i64 (if 0 ≤ a ∧ a ≤ s.size then 0 else 1)]) ∧ Below w.heap.size w W' := by
  obtain ⟨t', h1, h2⟩ := h.ex
  obtain ⟨T, u, rfl⟩ := h1.iface
  have hs := h.le
  obtain ⟨n, hn⟩ : ∃ n, s.size = n := ⟨_, rfl⟩
  have CL : Hid (Calls Tryz.prog 38 #[t] w fun e W' => e = .returned (.agg #[(.iface T u), .int .i64 s.size]) ∧ Hid (Below w.heap.size w W')) := h2 w (Below.refl _ _)
  have CN : Hid (∀ W, Below w.heap.size w W → 0 ≤ a → a ≤ s.size → Calls Tryz.prog 63 #[.agg #[(.iface T u), .int .i64 s.size], .int .i64 0, .int .i64 a] W fun e W' => e = .returned (.int .i64 (cn s 0 a.toNat : Int)) ∧ Hid (Below W.heap.size W W')) := fun W hW p q => by
    have := newlines_any (h1.below hW) s.size 0 a.toNat (by omega) (by omega) hs
    rw [show ((a.toNat : Nat) : Int) = a by omega] at this
    exact this
  have CH : Hid (∀ W, Calls Tryz.prog 46 #[.agg #[(.iface T u), .int .i64 s.size], .int .i64 a] W fun e W' => e = .returned (.bool (decide (0 ≤ a ∧ a ≤ s.size))) ∧ Hid (Below W.heap.size W W')) := fun W => by
    have := has_any W (.iface T u) s.size a
    rw [Bool.decide_and]
    exact this
  rw [hn] at CL CN CH hs ⊢
  clear h h1 h2 hn
  by_cases hc : 0 ≤ a ∧ a ≤ (n : Int)
  · rw [if_pos hc, if_pos hc]
    rw [decide_eq_true hc] at CH
    have CN2 : Hid (∀ W, Below w.heap.size w W → Calls Tryz.prog 63 #[.agg #[(.iface T u), .int .i64 n], .int .i64 0, .int .i64 a] W fun e W' => e = .returned (.int .i64 (cn s 0 a.toNat : Int)) ∧ Hid (Below W.heap.size W W')) := fun W hW => CN.out W hW hc.1 hc.2
    clear CN
    generalize cn s 0 a.toNat = z at CN2 ⊢
    go_enter Tryz.func32, Tryz.ntmps32
    go_upto_region 2 with (go_at_call 38; refine CL.out.mono ?_; clear CL; rintro e w1 ⟨rfl, H⟩)
    have HO : Hid (Ob w w1.heap.size (.iface T u) n (w1.alloc (.cells #[(.iface T u), .int .i64 n] 83))) := ob_new (.iface T u) n H.out
    generalize w1.alloc (.cells #[(.iface T u), .int .i64 n] 83) = W0 at HO ⊢
    obtain ⟨x0, x1, x2⟩ := HO.out.get
    go_wp2_with (first
      | (go_at_call 46; refine (CH.out _).mono ?_; clear CH; rintro e w2 ⟨rfl, H2⟩; have HP : Hid (Ob w w1.heap.size (.iface T u) n w2) := HO.out.below H2.out; clear HO x0 x1 x2; obtain ⟨x0, x1, x2⟩ := HP.out.get)
      | (go_at_call 63; refine (CN2.out _ HP.out.bel).mono ?_; clear CN2; rintro e w3 ⟨rfl, H3⟩))
    go_ret2
    exact ⟨rfl, (HP.out.below H3.out).bel⟩
  · rw [if_neg hc, if_neg hc]
    rw [decide_eq_false hc] at CH
    clear CN hc
    go_enter Tryz.func32, Tryz.ntmps32
    go_upto_region 2 with (go_at_call 38; refine CL.out.mono ?_; clear CL; rintro e w1 ⟨rfl, H⟩)
    have HO : Hid (Ob w w1.heap.size (.iface T u) n (w1.alloc (.cells #[(.iface T u), .int .i64 n] 83))) := ob_new (.iface T u) n H.out
    generalize w1.alloc (.cells #[(.iface T u), .int .i64 n] 83) = W0 at HO ⊢
    obtain ⟨x0, x1, x2⟩ := HO.out.get
    go_wp2_with (go_at_call 46; refine (CH.out _).mono ?_; clear CH; rintro e w2 ⟨rfl, H2⟩)
    go_ret2
    exact ⟨rfl, (HO.out.below H2.out).bel⟩
/-- the answer's box -/
structure Rb (w : World) (x y : Int) (W : World) : Prop where
  bel : Below w.heap.size w W
  r : W.heap[w.heap.size]? = some (.cells #[.int .i64 x, .int .i64 y] 50 (0, 0))
theorem Rb.below {w W X : World} {x y : Int} (h : Rb w x y W) (hb : Below W.heap.size W X) : Rb w x y X :=
  have kp : ∀ {k : Nat} {o : Obj}, W.heap[k]? = some o → X.heap[k]? = some o := fun ho => (hb.block _ (Array.getElem?_eq_some_iff.1 ho).1).trans ho
  ⟨Below.on h.bel hb, kp h.r⟩
theorem Rb.get {w W : World} {x y : Int} (h : Rb w x y W) : W.cell? ⟨w.heap.size, 0, none⟩ = some (.int .i64 x) ∧ W.cell? ⟨w.heap.size, 1, none⟩ = some (.int .i64 y) ∧ W.frozen? ⟨w.heap.size, 0, none⟩ = false ∧ W.frozen? ⟨w.heap.size, 1, none⟩ = false ∧ w.heap.size < W.heap.size :=
  ⟨by simp [World.cell?, h.r], by simp [World.cell?, h.r], by simp [World.frozen?, h.r], by simp [World.frozen?, h.r], (Array.getElem?_eq_some_iff.1 h.r).1⟩
theorem Rb.set {w W : World} {x y : Int} (h : Rb w x y W) (p q : Int) : Rb w p q ((W.setCell ⟨w.heap.size, 0, none⟩ (.int .i64 p)).setCell ⟨w.heap.size, 1, none⟩ (.int .i64 q)) := by
  have s1 := set1 (i := 0) (.int .i64 p) h.r
  have s2 := set1 (i := 1) (.int .i64 q) s1
  exact ⟨(h.bel.setCell (p := ⟨w.heap.size, 0, none⟩) (by simp) _).setCell (p := ⟨w.heap.size, 1, none⟩) (by simp) _, by simpa using s2⟩
set_option maxRecDepth 100000 in
set_option maxHeartbeats 2000000 in
theorem spanT_any (h : Tl w t s) (l : Int) (hl : l ≤ 9223372036854775807) : Calls Tryz.prog 31 #[t, .int .i64 l] w fun e W' => (∃ o, e = .returned (spa o) ∧ IsS s l o) ∧ Below w.heap.size w W' := by
  obtain ⟨t', h1, h2⟩ := h.ex
  obtain ⟨T, u, rfl⟩ := h1.iface
  have hs := h.le
  obtain ⟨n, hn⟩ : ∃ n, s.size = n := ⟨_, rfl⟩
  have CL : Hid (∀ W, Below w.heap.size w W → Calls Tryz.prog 38 #[t] W fun e W' => e = .returned (.agg #[.iface T u, .int .i64 s.size]) ∧ Hid (Below W.heap.size W W')) := h2
  have CS : Hid (∀ W, Below w.heap.size w W → Calls Tryz.prog 56 #[.agg #[.iface T u, .int .i64 s.size], .int .i64 l] W fun e W' => ∃ (x y : Nat) (k : Int), e = .returned (.tuple #[.agg #[.int .i64 x, .int .i64 y], .int .i64 k]) ∧ Hid ((∃ o, spa o = .tuple #[.agg #[.int .i64 x, .int .i64 y], .int .i64 k] ∧ IsS s l o) ∧ Below W.heap.size W W')) := fun W hW => (span_any (h1.below hW) l hs hl).mono fun e W' q => by
    obtain ⟨⟨o, rfl, q1⟩, q2⟩ := q
    exact ⟨_, _, _, rfl, ⟨o, rfl, q1⟩, q2⟩
  rw [hn] at CL CS
  obtain ⟨W0, hW0⟩ : ∃ W0, w.alloc (.cells #[.int .i64 0, .int .i64 0] 50) = W0 := ⟨_, rfl⟩
  have HR : Hid (Rb w 0 0 W0) := by show Rb _ _ _ _; rw [← hW0]; exact ⟨(Below.refl _ w).alloc (Nat.le_refl _) _, World.alloc_heap_new _ _⟩
  clear h h1 h2 hn hs
  go_enter Tryz.func31, Tryz.ntmps31
  go_upto_region 1 with fail
  clear hW0
  go_wp2_with (first
    | (go_at_call 38; refine (CL.out _ HR.out.bel).mono ?_; clear CL; rintro e w1 ⟨rfl, H⟩; have HP : Hid (Rb w 0 0 w1) := HR.out.below H.out; clear HR)
    | (go_at_call 56; refine (CS.out _ HP.out.bel).mono ?_; clear CS; rintro e w2 ⟨x, y, k, rfl, H2⟩; have HQ : Hid (Rb w 0 0 w2) := HP.out.below H2.out.2; clear HP; obtain ⟨x0, x1, x2, x3, x4⟩ := HQ.out.get))
  have hS := HQ.out.set x y
  obtain ⟨y0, y1, -, -, -⟩ := hS.get
  obtain ⟨o, ho, hi⟩ := H2.out.1
  refine bodyPost_ret (v := .tuple #[.agg #[.int .i64 x, .int .i64 y], .int .i64 k]) (by simp [results, Tryz.results31, go_sem, y0, y1]) rfl ?_
  exact ⟨⟨o, by rw [ho], hi⟩, hS.bel⟩
/-- Line's answer as a value -/
def lna (s : ByteArray) (o : Option (Nat × Nat)) : Value := .tuple #[.string (match o with | some x => s.extract x.1 x.2 | none => ⟨#[]⟩), .int .i64 (if o.isSome then 0 else 1)]
theorem IsS.le {l : Int} {x y : Nat} (h : IsS s l (some (x, y))) : x ≤ y ∧ y ≤ s.size := by
  obtain ⟨h1, r, h2, h3⟩ := h
  simp only at h1 h2 h3
  cases r with
  | none => rw [h3]; exact ⟨h1.1, Nat.le_refl _⟩
  | some p =>
    obtain ⟨r1, r2, -, -⟩ := h2
    rw [h3]
    unfold lend
    simp only
    split <;> omega
end
end Go.Proofs.YtplieccalmkloaaGreatDoor.Sto
