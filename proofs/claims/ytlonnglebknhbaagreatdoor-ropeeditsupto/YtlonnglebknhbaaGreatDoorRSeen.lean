/-
  What the law reads off a rope's tree (seen): the leaves and the height. Conditions: the two tables of unicode/utf8 lie as their text lays them; the text holds at most 1099511627776 bytes.
-/
import Derived.Test.YtlonnglebknhbaaGreatDoorRLaw
namespace Go.Proofs.YtlonnglebknhbaaGreatDoor
open Go.RowKit Go.Shelf Bod Wid

theorem infoStr : (Tryz.prog.info? 9).map (fun i => (i.zero, i.size, i.bytes)) = some (some (.string ⟨#[]⟩), 1, 16) := by kernel_rfl
abbrev strs (l : List ByteArray) : List Value := l.map .string
/-- what seen leaves -/
def SeenP (w : World) (t : Tr) (e : Ending) (W' : World) : Prop := ∃ g cap, e = .returned (.tuple #[.slice (some ⟨g, 0, none⟩) t.lv.length cap, .int .i64 t.h, .bool true]) ∧ W'.ownsRow w.heap.size 9 1 (.slice (some ⟨g, 0, none⟩) t.lv.length cap) t.lv.length (strs t.lv) ∧ Below w.heap.size w W'
theorem one_row (W : World) (base : Nat) (s : ByteArray) (hb : base ≤ W.heap.size) : (W.alloc (.cells #[.string s] 9)).ownsRow base 9 1 (.slice (some ⟨W.heap.size, 0, none⟩) 1 1) 1 [.string s] :=
  ⟨rfl, .inr ⟨W.heap.size, 1, #[.string s], rfl, hb, World.alloc_heap_new W _, Nat.le_refl _, by unfold maxLen; omega, rfl, rfl⟩⟩
theorem nil_eq (W : World) : (binOp .eql 66 .nilIface .nilIface).run Tryz.prog W = .ok (.bool true) W := by kernel_rfl
set_option maxRecDepth 100000 in
set_option maxHeartbeats 1000000 in
theorem seen_leaf {w : World} {s : ByteArray} {v : Value} (h : At w (.leaf s) v) (hs : s.size ≤ B40) (hE : Ev w) : Calls Tryz.prog 41 #[v, .string s] w (SeenP w (.leaf s)) := by
  unfold B40 at hs
  obtain ⟨T, a, fS, fP, fT, p, rfl, ⟨m1, m2⟩, ⟨m3, m4⟩, ⟨m5, m6⟩, S1, P1, X1, rfl⟩ := h.nd
  obtain ⟨m, hm⟩ : ∃ m, smr s = m := ⟨_, rfl⟩
  have S2 : Hid (Calls Tryz.prog fS #[.pointer (some a)] w fun e W' => e = .returned (sv m) ∧ Hid (Below w.heap.size w W')) := (S1.out w (Below.refl _ w)).mono fun e W' ⟨k1, k2⟩ => ⟨by rw [k1]; show _ = Ending.returned (sv m); rw [← hm]; rfl, k2⟩
  have C1 : Hid (∀ W, Hid (Below w.heap.size w W) → Calls Tryz.prog 84 #[.string s] W fun e W' => e = .returned (sv m) ∧ Hid (Below w.heap.size w W')) := fun W hW => (measure_any s (by omega) W (hE.below hW).t (hE.below hW).l0 (hE.below hW).l1).mono fun e W' ⟨k1, k2⟩ => ⟨by rw [k1, hm], Below.on hW k2⟩
  have P2 : Hid (∀ W, Hid (Below w.heap.size w W) → Calls Tryz.prog fP #[.pointer (some a)] W fun e W' => e = .returned (.tuple #[.nilIface, .nilIface, .bool false]) ∧ Hid (Below w.heap.size w W')) := fun W hW => (P1.out W hW).mono fun e W' ⟨k1, k2⟩ => ⟨k1, Below.on hW k2⟩
  have q1 := fun W => sv_neq m W
  have q2 := fun W => eq_nil T (.pointer (some a)) W
  have q3 := nil_eq
  have X3 : Hid (∀ W, Below w.heap.size w W → Calls Tryz.prog fT #[.pointer (some a)] W fun e W' => e = .returned (.string s) ∧ Below W.heap.size W W') := fun W hW => X1.out W hW
  have X4 : Hid (∀ W, Below w.heap.size w W → Calls Tryz.prog fT #[.pointer (some a)] W fun e W' => e = .returned (.string s) ∧ Below W.heap.size W W') := fun W hW => X1.out W hW
  clear h S1 P1 X1 hE hm hs
  go_enter Tryz.func41, Tryz.ntmps41
  go_wp2_with (first | (go_at_fn fS; refine S2.out.mono ?_; clear S2; rintro e w1 ⟨rfl, h1⟩) | (go_at_call 84; refine (C1.out _ h1).mono ?_; clear C1 h1; rintro e w2 ⟨rfl, h1⟩) | (go_at_fn fP; refine (P2.out _ h1).mono ?_; clear P2 h1; rintro e w3 ⟨rfl, h1⟩))
  go_region_with (first | (go_at_fn fT; refine (X3.out _ h1.out.drew).mono ?_; clear X3; rintro e w4 ⟨rfl, hb4⟩; have H4 : Hid (Below w.heap.size w w4) := Below.on h1.out.drew hb4; clear hb4) | (go_at_fn fT; refine (X4.out _ (H4.out.alloc H4.out.size _)).mono ?_; clear X4; rintro e w5 ⟨rfl, hb5⟩) | (go_at_fn fT; refine (X4.out _ H4.out).mono ?_; clear X4; rintro e w5 ⟨rfl, hb5⟩))
  all_goals go_wp2
  all_goals first | exact bodyPost_ret (v := .tuple #[.slice (some ⟨w4.heap.size, 0, none⟩) 1 1, .int .i64 0, .bool true]) (by simp [results, Tryz.results41, go_sem]) rfl ⟨_, _, rfl, row_below' (one_row w4 w.heap.size s H4.out.size) hb5, Below.on (H4.out.alloc H4.out.size _) hb5⟩ | exact bodyPost_ret (v := .tuple #[.slice (some ⟨w5.heap.size, 0, none⟩) 1 1, .int .i64 0, .bool true]) (by simp [results, Tryz.results41, go_sem]) rfl ⟨_, _, rfl, one_row w5 w.heap.size s (Nat.le_trans H4.out.size hb5.size), (Below.on H4.out hb5).alloc (Nat.le_trans H4.out.size hb5.size) _⟩
end Go.Proofs.YtlonnglebknhbaaGreatDoor
