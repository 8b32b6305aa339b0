/-
  The walk of package unit's At, at any number: the unit that begins there, if one does. Conditions: the two tables of unicode/utf8 lie as their text lays them; the text can be read.
-/
import Derived.Test.YtcgnfjcbafmbgaaDoorUWalk
import Derived.Test.YtcgnfjcbafmbgaaDoorPkA
namespace Go.Proofs.YtcgnfjcbafmbgaaDoor
open Go.RowKit Bod

set_option maxRecDepth 100000 in
set_option maxHeartbeats 1000000 in
theorem at_any (s : ByteArray) (i : Int) (hs : s.size ≤ maxLen) (w : World) (hT : Lib.Utf8Tabs 1 2 w) :
    Calls Tryd.prog 57 #[.string s, .int .i64 i] w fun e w' => e = .returned (.tuple #[.agg #[.int .i32 (atC s i), .int .i64 (atS s i)], .bool (atB s i)]) ∧ Below w.heap.size w w' := by
  have hs' := hs
  unfold maxLen at hs
  have hT1 : ∀ o, Lib.Utf8Tabs 1 2 (w.alloc o) := fun o => tabs_below hT ((Below.refl _ w).alloc (Nat.le_refl _) o)
  have fin : ∀ (w' : World) (a b : Value), Below (w.heap.size + 1) (w.alloc (.cells #[.int .i32 0, .int .i64 0] 73)) w' → Below w.heap.size w ((w'.setCell ⟨w.heap.size, 0, none⟩ a).setCell ⟨w.heap.size, 1, none⟩ b) := fun w' a b hb =>
    ((((Below.refl _ w).alloc (Nat.le_refl _) _).trans (hb.mono (by omega))).setCell (Nat.le_refl _) _).setCell (Nat.le_refl _) _
  by_cases h1 : (s.size : Int) ≤ i
  · have hB1 : atB s i = false := by unfold atB; rw [decide_eq_false (by omega), Bool.and_false]
    have e1 : atC s i = 0 := by unfold atC; rw [hB1]; rfl
    have e2 : atS s i = 0 := by unfold atS; rw [hB1]; rfl
    rw [hB1, e1, e2]
    clear hB1 e1 e2
    go_enter Tryd.func57, Tryd.ntmps57
    go_wp2
    exact bodyPost_ret (v := .tuple #[.agg #[.int .i32 0, .int .i64 0], .bool false]) (by simp [results, Tryd.results57, go_sem]) rfl ⟨rfl, (Below.refl _ w).alloc (Nat.le_refl _) _⟩
  · have cB : ∀ o, Calls Tryd.prog 56 #[.string s, .int .i64 i] (w.alloc o) fun e w' => e = .returned (.bool (bdZ s i)) ∧ Below (w.alloc o).heap.size (w.alloc o) w' := fun o => bound_any s i hs' (w.alloc o) (hT1 o)
    have hB0 : atB s i = bdZ s i := by unfold atB; rw [decide_eq_true (by omega), Bool.and_true]
    cases hb : bdZ s i with
    | false =>
      rw [hb] at hB0 cB
      have e1 : atC s i = 0 := by unfold atC; rw [hB0]; rfl
      have e2 : atS s i = 0 := by unfold atS; rw [hB0]; rfl
      rw [hB0, e1, e2]
      clear hB0 e1 e2
      go_enter Tryd.func57, Tryd.ntmps57
      go_wp2_with (go_at_call 56; refine (cB _).mono ?_; clear cB; rintro e w' ⟨rfl, hb⟩; obtain ⟨hc, hf⟩ := bcell hb; have hz : w.heap.size < w'.heap.size := by have := hb.size; simp at this; omega)
      exact bodyPost_ret (v := .tuple #[.agg #[.int .i32 0, .int .i64 0], .bool false]) (by simp [results, Tryd.results57, go_sem, hc]) rfl ⟨rfl, fin _ _ _ (by simpa using hb)⟩
    | true =>
      have h0 : 0 ≤ i := by
        by_cases c : i < 0
        · rw [bdZ_out s i (.inl c)] at hb; cases hb
        · omega
      obtain ⟨k, rfl⟩ := Int.eq_ofNat_of_zero_le h0
      rw [hb] at hB0 cB
      have e1 : atC s k = ch s k := by unfold atC; rw [if_pos hB0]; rfl
      have e2 : atS s k = sz s k := by unfold atS; rw [if_pos hB0]; rfl
      rw [hB0, e1, e2]
      clear hB0 e1 e2
      have cR : ∀ W : World, Below (w.alloc (.cells #[.int .i32 0, .int .i64 0] 73)).heap.size (w.alloc (.cells #[.int .i32 0, .int .i64 0] 73)) W → Calls Tryd.prog 55 #[.string s, .int .i64 k] W fun e w' => e = .returned (.agg #[.int .i32 (ch s k), .int .i64 (sz s k)]) ∧ Below W.heap.size W w' := fun W h => read_any s k hs' (by omega) W (tabs_below (hT1 _) h)
      go_enter Tryd.func57, Tryd.ntmps57
      go_wp2_with (first | (go_at_call 56; refine (cB _).mono ?_; clear cB; rintro e w1 ⟨rfl, hb1⟩; have HB : Hid (Below (w.alloc (.cells #[.int .i32 0, .int .i64 0] 73)).heap.size (w.alloc (.cells #[.int .i32 0, .int .i64 0] 73)) w1) := hb1; clear hb1) | (go_at_call 55; refine (cR _ HB.out).mono ?_; clear cR; rintro e w2 ⟨rfl, hb2⟩; have hb := HB.out.trans (hb2.mono HB.out.size); clear hb2; obtain ⟨hc, hf⟩ := bcell hb; have hz : w.heap.size < w2.heap.size := by have := hb.size; simp at this; omega))
      exact bodyPost_ret (v := .tuple #[.agg #[.int .i32 (ch s k), .int .i64 (sz s k)], .bool true]) (by simp [results, Tryd.results57, go_sem, hc]) rfl ⟨rfl, fin _ _ _ (by simpa using hb)⟩
end Go.Proofs.YtcgnfjcbafmbgaaDoor
