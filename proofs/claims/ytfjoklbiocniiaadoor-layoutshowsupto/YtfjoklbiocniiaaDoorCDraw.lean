/-
  The walk of package cluster's draw: what is drawn for one cluster is written to the builder. Conditions: the cluster has a byte; the builder holds no more than 2^47 bytes.
-/
import Derived.Test.YtfjoklbiocniiaaDoorCBuild
import Derived.Test.YtfjoklbiocniiaaDoorPkB
namespace Go.Proofs.YtfjoklbiocniiaaDoor
open Go.RowKit Go.Shelf Bod

set_option maxRecDepth 100000 in
set_option maxHeartbeats 1000000 in
theorem draw_ctl {b hi : Nat} {l : List UInt8} {w : World} {p v : Value} (own : ByteArray) (c : UInt8) (r : List UInt8) (ho : own.data.toList = c :: r) (h : Bld b hi (Lib.byteCells l) w p v) (hb : b < hi) (hw : hi ≤ w.heap.size) (hl : l.length + own.size + 3 ≤ 140737488355328) (hlt : c.toNat < 128) :
    Calls Tryd.prog 34 #[.pointer (some ⟨b, 0, none⟩), .int .i64 2, .string own] w fun e w' => (∃ u, e = .returned u) ∧ (∃ p' v', Bld b hi (Lib.byteCells (l ++ [94, c ^^^ 64])) w' p' v') ∧ Wr b hi w w' := by
  obtain ⟨hs, hc⟩ := own_head ho
  have hpos : 0 < own.size := by omega
  have h0 : own[0].toNat < 128 := by rw [hc hpos]; exact hlt
  have hx : bits .xor .u8 (own[0].toNat : Int) 64 = ((c ^^^ 64).toNat : Int) := by rw [hc hpos]; exact xor_byte c
  have hlen : (Lib.byteCells l).length + 1 ≤ 140737488355328 := by rw [Lib.byteCells_length]; omega
  have cB := wbyte_any 94 h hb hw hlen
  have HL : Hid (l.length + own.size + 3 ≤ 140737488355328) := hl
  clear hl ho hs hc hlen
  go_enter Tryd.func34, Tryd.ntmps34
  go_wp2_with (first | (go_at_call 56; refine cB.mono ?_; clear cB; rintro e w1 ⟨rfl, ⟨p1, v1, k1⟩, HW1⟩; have cB2 := wbyte_any ((c ^^^ 64).toNat : Int) k1 hb (Nat.le_trans hw HW1.2.2.2.1) (by have := HL.out; simp [Lib.byteCells_length]; omega)) | (go_at_call 56; refine cB2.mono ?_; clear cB2; rintro e w2 ⟨rfl, ⟨p2, v2, k2⟩, HW2⟩))
  exact bodyPost_ret (results_none rfl _ _ _) rfl ⟨⟨_, rfl⟩, ⟨_, _, by rw [byteCells_app]; simpa [Lib.byteCells] using k2⟩, HW1.trans HW2⟩

set_option maxRecDepth 100000 in
set_option maxHeartbeats 1000000 in
theorem draw_any {b hi : Nat} {l : List UInt8} {w : World} {p v : Value} (k : Int) (own : ByteArray) (c : UInt8) (r : List UInt8) (ho : own.data.toList = c :: r) (h : Bld b hi (Lib.byteCells l) w p v) (hb : b < hi) (hw : hi ≤ w.heap.size) (hl : l.length + own.size + 3 ≤ 140737488355328) :
    Calls Tryd.prog 34 #[.pointer (some ⟨b, 0, none⟩), .int .i64 k, .string own] w fun e w' => (∃ u, e = .returned u) ∧ (∃ p' v', Bld b hi (Lib.byteCells (l ++ drw k (c :: r))) w' p' v') ∧ Wr b hi w w' := by
  have HL : Hid (l.length + own.size + 3 ≤ 140737488355328) := hl
  simp only [drw]
  by_cases k1 : k = 1
  · subst k1
    rw [if_pos rfl]
    clear ho
    go_enter Tryd.func34, Tryd.ntmps34
    go_wp2
    go_end0
    exact ⟨⟨_, rfl⟩, ⟨_, _, by simpa using h⟩, Wr.refl _ _ _⟩
  rw [if_neg k1]
  by_cases k2 : k = 2
  · subst k2
    rw [if_pos rfl]
    by_cases hlt : c.toNat < 128
    · rw [if_pos hlt]
      exact draw_ctl own c r ho h hb hw hl hlt
    · rw [if_neg hlt]
      obtain ⟨hs, hc⟩ := own_head ho
      have hpos : 0 < own.size := by omega
      have h0 : ¬ own[0].toNat < 128 := by rw [hc hpos]; exact hlt
      have cS := wstr_any ⟨#[239, 191, 189]⟩ h hb hw (by rw [Lib.byteCells_length]; show l.length + 3 ≤ _; omega)
      clear hl ho hs hc k1
      go_enter Tryd.func34, Tryd.ntmps34
      go_wp2_with (go_at_call 57; refine cS.mono ?_; clear cS; rintro e w1 ⟨⟨u, rfl⟩, ⟨p1, v1, q1⟩, HW1⟩)
      go_end0
      exact ⟨⟨_, rfl⟩, ⟨_, _, by rw [byteCells_app]; exact q1⟩, HW1⟩
  rw [if_neg k2]
  by_cases k3 : k = 3
  · subst k3
    rw [if_pos rfl]
    have cB := wbyte_any 32 h hb hw (by rw [Lib.byteCells_length]; omega)
    have HO : Hid (own.data.toList = c :: r) := ho
    clear hl ho k1 k2
    go_enter Tryd.func34, Tryd.ntmps34
    go_wp2_with (first | (go_at_call 56; refine cB.mono ?_; clear cB; rintro e w1 ⟨rfl, ⟨p1, v1, q1⟩, HW1⟩; have cS := wstr_any own q1 hb (Nat.le_trans hw HW1.2.2.2.1) (by have := HL.out; simp [Lib.byteCells_length]; omega)) | (go_at_call 57; refine cS.mono ?_; clear cS; rintro e w2 ⟨⟨u, rfl⟩, ⟨p2, v2, q2⟩, HW2⟩))
    go_end0
    exact ⟨⟨_, rfl⟩, ⟨_, _, by rw [strCells_eq, HO.out] at q2; rw [byteCells_app]; simpa [Lib.byteCells] using q2⟩, HW1.trans HW2⟩
  rw [if_neg k3]
  by_cases k5 : k = 5
  · subst k5
    rw [if_pos rfl]
    obtain ⟨hs, _⟩ := own_head ho
    have hpos : 1 ≤ own.size := by omega
    have cS := wstr_any ⟨#[239, 191, 189]⟩ h hb hw (by rw [Lib.byteCells_length]; show l.length + 3 ≤ _; omega)
    have HO : Hid (own.data.toList = c :: r) := ho
    have HE : Hid ((own.extract 1 own.size).size ≤ own.size) := by show _ ≤ _; simp
    clear hl ho hs k1 k2 k3
    go_enter Tryd.func34, Tryd.ntmps34
    go_wp2_with (first | (go_at_call 57; refine cS.mono ?_; clear cS; rintro e w1 ⟨⟨u, rfl⟩, ⟨p1, v1, q1⟩, HW1⟩; have cT := wstr_any (own.extract 1 own.size) q1 hb (Nat.le_trans hw HW1.2.2.2.1) (by have h1 := HL.out; have h2 := HE.out; rw [List.length_append, Lib.byteCells_length, Lib.strCells_length]; show l.length + 3 + _ ≤ _; omega)) | (go_at_call 57; refine cT.mono ?_; clear cT; rintro e w2 ⟨⟨u2, rfl⟩, ⟨p2, v2, q2⟩, HW2⟩))
    go_end0
    exact ⟨⟨_, rfl⟩, ⟨_, _, by rw [strCells_eq (own.extract 1 own.size), own_tail HO.out] at q2; rw [byteCells_app]; simpa [Lib.byteCells, Lib.strCells] using q2⟩, HW1.trans HW2⟩
  rw [if_neg k5]
  have cS := wstr_any own h hb hw (by rw [Lib.byteCells_length]; omega)
  have HO : Hid (own.data.toList = c :: r) := ho
  clear hl ho
  go_enter Tryd.func34, Tryd.ntmps34
  go_wp2_with (go_at_call 57; refine cS.mono ?_; clear cS; rintro e w1 ⟨⟨u, rfl⟩, ⟨p1, v1, q1⟩, HW1⟩)
  go_end0
  exact ⟨⟨_, rfl⟩, ⟨_, _, by rw [strCells_eq, HO.out] at q1; rw [byteCells_app]; exact q1⟩, HW1⟩
end Go.Proofs.YtfjoklbiocniiaaDoor
