/-
  Package change's lineStart, lineEnd and lineAhead. Conditions: the two tables of unicode/utf8 lie as their text lays them; the text can be read.
-/
import Derived.Test.YtiejollfeggeoaaDoorFBas
import Derived.Lib.IndexLaws
import Derived.Lib.LastIndexByte
namespace Go.Proofs.YtiejollfeggeoaaDoor
open Go.RowKit Go.Shelf Bod Wid

theorem cn_zero {s : ByteArray} {p : Nat} : ∀ a : Nat, p ≤ a → a ≤ s.size → (∀ j, p ≤ j → j < a → byt s j ≠ 10) → cn s p a = 0
  | 0, h, _, _ => by rw [show p = 0 by omega]; exact cn_self _ _
  | a + 1, h, hs, hn => by
    by_cases e : p = a + 1
    · rw [e]; exact cn_self _ _
    · rw [cn_add (s := s) (a := p) (b := a) (c := a + 1) (by omega) (by omega), cn_zero a (by omega) (by omega) (fun j h1 h2 => hn j h1 (by omega)), cn_one (by omega), if_neg (hn a (by omega) (by omega))]
theorem byt_bang {s : ByteArray} {j : Nat} (h : j < s.size) : s.data[j]! = byt s j := by
  rw [byt_get h]
  obtain ⟨d⟩ := s
  exact getElem!_pos d j h
theorem byt_num {s : ByteArray} {j : Nat} (h : j < s.size) : ((s.data[j]!).toNat : Int) = 10 ↔ byt s j = 10 := by
  rw [byt_bang h]
  exact ⟨fun e => UInt8.toNat_inj.1 (by simpa using (show (byt s j).toNat = 10 by omega)), fun e => by rw [e]; rfl⟩
theorem byt_at {s : ByteArray} {k : Nat} {c : UInt8} : s.data.toList[k]? = some c ↔ k < s.size ∧ byt s k = c := by
  obtain ⟨d⟩ := s
  show d.toList[k]? = some c ↔ k < d.size ∧ d.toList.getD k 0 = c
  rw [List.getD_eq_getElem?_getD, List.getElem?_eq_some_iff]
  constructor
  · rintro ⟨h, e⟩
    exact ⟨by simpa using h, by rw [List.getElem?_eq_getElem h]; exact e⟩
  · rintro ⟨h, e⟩
    have h' : k < d.toList.length := by simpa using h
    rw [List.getElem?_eq_getElem h'] at e
    exact ⟨h', e⟩
/-- the last newline's LF ahead of a place -/
theorem last_lf {s : ByteArray} {a p : Nat} (ha : a ≤ s.size) (h : IsL s a p) : Lib.lastIndexByte (s.extract 0 a) 10 = (p : Int) - 1 := by
  have hz : (s.extract 0 a).size = a := by rw [size_extract s 0 a ha]; omega
  have hb : ∀ j, j < a → byt (s.extract 0 a) j = byt s j := fun j hj => by rw [byt_ext (by omega), Nat.zero_add]
  have := Lib.lastIdx_spec (s.extract 0 a) 10 (s.extract 0 a).size
  unfold Lib.lastIndexByte
  rcases this with ⟨e, hn⟩ | ⟨i, hi, e, h1, h2⟩
  · rw [e]
    have : p = 0 := by
      rcases h.2.1 with q | q
      · exact q
      · rcases Nat.eq_zero_or_pos p with z | z
        · exact z
        · have hp := h.1
          have := hn (p - 1) (by omega)
          rw [Ne, byt_num (by omega), hb _ (by omega)] at this
          exact absurd q this
    omega
  · rw [e]
    rw [hz] at hi h2
    rw [byt_num (by omega), hb _ hi] at h1
    have hL : IsL s a (i + 1) := ⟨by omega, .inr (by simpa using h1), cn_zero a (by omega) ha fun j j1 j2 => by
      have := h2 j (by omega) j2
      rw [Ne, byt_num (by omega), hb _ j2] at this
      exact this⟩
    have := h.uniq ha hL
    omega
/-- the first LF behind a place -/
theorem first_lf {s : ByteArray} {a : Nat} (ha : a ≤ s.size) : (cn s a s.size = 0 → Lib.indexByte (s.extract a s.size).data.toList 10 = -1) ∧
    ∀ q : Nat, a < q → q ≤ s.size → cn s a (q - 1) = 0 → byt s (q - 1) = 10 → Lib.indexByte (s.extract a s.size).data.toList 10 = ((q - 1 - a : Nat) : Int) := by
  have hz := size_extract s a s.size (Nat.le_refl _)
  have hb : ∀ j, j < s.size - a → byt (s.extract a s.size) j = byt s (a + j) := fun j hj => byt_ext (by omega)
  have hg := Lib.indexByte_ge (s.extract a s.size).data.toList 10
  constructor
  · intro h0
    rcases Int.lt_or_le (-1) (Lib.indexByte (s.extract a s.size).data.toList 10) with e | e
    · obtain ⟨o, ho⟩ := Int.eq_ofNat_of_zero_le (show 0 ≤ Lib.indexByte (s.extract a s.size).data.toList 10 by omega)
      obtain ⟨k1, k2⟩ := byt_at.1 (Lib.indexByte_some ho).1
      rw [hb _ (by omega)] at k2
      exact absurd k2 (cn_in h0 (by omega) (by omega) (Nat.le_refl _))
    · omega
  · intro q q1 q2 q3 q4
    have hq : (s.extract a s.size).data.toList[q - 1 - a]? = some 10 := byt_at.2 ⟨by omega, by rw [hb _ (by omega), show a + (q - 1 - a) = q - 1 by omega]; exact q4⟩
    rcases Int.lt_or_le (-1) (Lib.indexByte (s.extract a s.size).data.toList 10) with e | e
    · obtain ⟨o, ho⟩ := Int.eq_ofNat_of_zero_le (show 0 ≤ Lib.indexByte (s.extract a s.size).data.toList 10 by omega)
      obtain ⟨i1, i2⟩ := Lib.indexByte_some ho
      obtain ⟨k1, k2⟩ := byt_at.1 i1
      rw [hb _ (by omega)] at k2
      rcases Nat.lt_trichotomy o (q - 1 - a) with l | l | l
      · exact absurd k2 (cn_in q3 (by omega) (by omega) (by omega))
      · rw [ho, l]
      · exact absurd hq (i2 _ l)
    · exact absurd hq (Lib.indexByte_none (by omega) _)
set_option maxRecDepth 100000 in
set_option maxHeartbeats 1000000 in
theorem lineStart_any (s : ByteArray) (hs : s.size ≤ 1099511627776) (a : Nat) (ha : cbZ s a = true) (w : World) : Calls Tryd.prog 76 #[.string s, .int .i64 a] w fun e W' => e = .returned (.int .i64 (lnP s a).1) ∧ Below w.heap.size w W' := by
  have hal := cb_le ha
  have hp := lnP_pl ha
  have hle := hp.le
  have e := last_lf hal hp.l
  have hz : (s.extract 0 a).size = a := by rw [size_extract s 0 a hal]; omega
  have C := Tryd.strings_LastIndexByte (s.extract 0 a) 10 (by omega) w
  rw [e] at C
  generalize (lnP s a).1 = p at *
  have b1 : (p : Int) ≤ 1099511627776 := by omega
  have C1 : Hid (Calls Tryd.prog 90 #[.string (s.extract 0 a), .int .u8 10] w fun e W' => e = .returned (.int .i64 ((p : Int) - 1)) ∧ W' = w) := C
  clear C e hz hp ha
  go_enter Tryd.func76, Tryd.ntmps76
  go_wp2_with (go_at_call 90; refine C1.out.mono ?_; clear C1; rintro e w1 ⟨rfl, rfl⟩)
  go_ret
  exact ⟨ret_int (by omega), Below.refl _ _⟩
set_option maxRecDepth 100000 in
set_option maxHeartbeats 1000000 in
theorem lineEnd_any (s : ByteArray) (hs : s.size ≤ 1099511627776) (a : Nat) (ha : cbZ s a = true) (w : World) (hT : Tw w) : Calls Tryd.prog 75 #[.string s, .int .i64 a] w fun e W' => e = .returned (.int .i64 (lnP s a).2) ∧ Below w.heap.size w W' := by
  have hal := cb_le ha
  have hp := lnP_pl ha
  have hle := hp.le
  obtain ⟨i1, i2⟩ := first_lf hal
  have C := Tryd.strings_IndexByte (s.extract a s.size) 10 w
  rcases hp.fin with ⟨f1, f2⟩ | ⟨q, q1, q2, q3, q4, q5, q6⟩
  · rw [show ((10 : Int)).toNat.toUInt8 = (10 : UInt8) from rfl, i1 f1] at C
    rw [f2]
    have C1 : Hid (Calls Tryd.prog 89 #[.string (s.extract a s.size), .int .u8 10] w fun e W' => e = .returned (.int .i64 (-1)) ∧ W' = w) := C
    clear C i1 i2 hp f2 f1 ha hle
    go_enter Tryd.func75, Tryd.ntmps75
    go_wp2_with (go_at_call 89; refine C1.out.mono ?_; clear C1; rintro e w1 ⟨rfl, rfl⟩)
    go_ret
    exact ⟨rfl, Below.refl _ _⟩
  · rw [show ((10 : Int)).toNat.toUInt8 = (10 : UInt8) from rfl, i2 q q1 q2 q3 q4] at C
    obtain ⟨o, ho⟩ : ∃ o, q - 1 - a = o := ⟨_, rfl⟩
    rw [ho] at C
    have C2 := cprev_any s (((a : Int) + o) + 1) (by unfold maxLen; omega) w hT.t (by omega)
    rw [show ((a : Int) + o) + 1 = q by omega] at C2
    have C3 : Hid (Calls Tryd.prog 44 #[.string s, .int .i64 (((a : Int) + o) + 1)] w fun e W' => e = .returned (.int .i64 (lnP s a).2) ∧ Hid (Below w.heap.size w W')) := by
      rw [show ((a : Int) + o) + 1 = q by omega]
      exact C2.mono fun e W' ⟨m, k1, k2, k3⟩ => ⟨by rw [k1, k2.uniq q5], k3⟩
    have C1 : Hid (Calls Tryd.prog 89 #[.string (s.extract a s.size), .int .u8 10] w fun e W' => e = .returned (.int .i64 (o : Nat)) ∧ W' = w) := C
    have b1 : (a : Int) + o ≤ 1099511627776 := by omega
    generalize (lnP s a).2 = b at *
    clear C C2 i1 i2 hp ha hle q1 q2 q3 q4 q5 q6 ho
    go_enter Tryd.func75, Tryd.ntmps75
    go_wp2_with (first | (go_at_call 89; refine C1.out.mono ?_; clear C1; rintro e w1 ⟨rfl, rfl⟩) | (go_at_call 44; refine C3.out.mono ?_; clear C3; rintro e w2 ⟨rfl, HB⟩))
    go_ret
    exact ⟨rfl, HB.out⟩
set_option maxRecDepth 100000 in
set_option maxHeartbeats 1000000 in
theorem lineAhead_any (s : ByteArray) (hs : s.size ≤ 1099511627776) (a : Nat) (ha : cbZ s a = true) (w : World) (hT : Tw w) : Calls Tryd.prog 48 #[.string s, .int .i64 a] w fun e W' => e = .returned (.int .i64 (lnA s a)) ∧ Below w.heap.size w W' := by
  have C1 : Hid (Calls Tryd.prog 75 #[.string s, .int .i64 a] w fun e W' => e = .returned (.int .i64 (lnP s a).2) ∧ Hid (Below w.heap.size w W')) := lineEnd_any s hs a ha w hT
  have C2 : Hid (∀ W, Below w.heap.size w W → Calls Tryd.prog 32 #[.string s, .int .i64 a] W fun e W' => e = .returned (.int .i64 (nxt s a)) ∧ Hid (Below w.heap.size w W')) := fun W hW => (cnext_any s a (by unfold maxLen; omega) W (hT.below hW).t).mono fun e W' ⟨m, k1, k2, k3⟩ => ⟨by rw [k1, k2.uniq (nxt_is s a)], below_on hW k3⟩
  unfold lnA
  generalize (lnP s a).2 = b at *
  generalize nxt s a = m at *
  by_cases h : b = a
  · subst h
    rw [if_pos rfl]
    clear ha
    go_enter Tryd.func48, Tryd.ntmps48
    go_wp2_with (first | (go_at_call 75; refine C1.out.mono ?_; clear C1; rintro e w1 ⟨rfl, HB⟩) | (go_at_call 32; refine (C2.out _ HB.out).mono ?_; clear C2 HB; rintro e w2 ⟨rfl, HB⟩))
    go_ret
    exact ⟨rfl, HB.out⟩
  · rw [if_neg h]
    have h1 : ¬ ((b : Int) = a) := by omega
    have h2 : ((b : Int) == a) = false := by simp; omega
    clear ha C2
    go_enter Tryd.func48, Tryd.ntmps48
    go_wp2_with (go_at_call 75; refine C1.out.mono ?_; clear C1; rintro e w1 ⟨rfl, HB⟩)
    go_ret
    exact ⟨rfl, HB.out⟩
end Go.Proofs.YtiejollfeggeoaaDoor
