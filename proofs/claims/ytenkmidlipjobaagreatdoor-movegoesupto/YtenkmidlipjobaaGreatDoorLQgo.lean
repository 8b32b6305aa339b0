/-
  The walk of the law MoveGoes: every motion, from every number, with every goal and count, leads where the document says. Conditions: the two tables of unicode/utf8 lie as their text lays them; what is read holds together at most 1048576 values and letters.
-/
import Derived.Test.YtenkmidlipjobaaGreatDoorPkQB
import Derived.Test.YtenkmidlipjobaaGreatDoorPkQR
namespace Go.Proofs.YtenkmidlipjobaaGreatDoor.Sto
open Go.RowKit Go.Shelf Bod Wid

theorem sp_box {W : World} {x y : Int} {X : World} (h : Below (W.alloc (.cells #[.int .i64 x, .int .i64 y] 32)).heap.size (W.alloc (.cells #[.int .i64 x, .int .i64 y] 32)) X) : X.cell? ⟨W.heap.size, 0, none⟩ = some (.int .i64 x) ∧ X.cell? ⟨W.heap.size, 1, none⟩ = some (.int .i64 y) := by
  have e := World.alloc_heap_new W (.cells #[.int .i64 x, .int .i64 y] 32)
  have := (h.block _ (Array.getElem?_eq_some_iff.1 e).1).trans e
  simp [World.cell?, this]
set_option maxRecDepth 100000 in
set_option maxHeartbeats 4000000 in
theorem goes_walk (kd : Nat) (hkd : kd ≤ 255) (s : ByteArray) (hz : s.size ≤ 1048576) (i gl n : Int) (hi : i ≤ 9223372036854775807) (hg : gl ≤ 9223372036854775807) (w : World) (hE : Ev w) :
    Calls Tryz.prog 3 #[.int .u8 kd, .string s, .int .i64 i, .int .i64 gl, .int .i64 n] w fun e W' => e = .returned (.bool true) ∧ Below w.heap.size w W' := by
  have hM : Tryz.prog.follows .mixedOrders = true := by kernel_rfl
  have CA : Hid (Calls Tryz.prog 9 #[] w fun e W' => e = .returned (.bool true) ∧ Hid (Below w.heap.size w W')) := goes_any hM w hE
  have CL : Hid (∀ W, Hid (Below w.heap.size w W) → Calls Tryz.prog 10 #[.int .u8 kd, .string s] W fun e W' => ∃ p, e = .returned (.pointer p) ∧ Hid (Sv W' (.pointer p) s ∧ Below w.heap.size w W')) := fun W hW => (laid_any W (hE.below hW.out) s (by omega) kd hkd).mono fun e W' ⟨p, q1, q2, q3⟩ => ⟨p, q1, q2, Below.on hW.out q3⟩
  have hbig' : ¬ ((1073741824 : Int) < s.size) := by omega
  have HM : Hid (Tryz.prog.follows .mixedOrders = true) := hM
  have HZ : Hid (s.size ≤ 1048576 ∧ i ≤ 9223372036854775807 ∧ gl ≤ 9223372036854775807) := ⟨hz, hi, hg⟩
  clear hE hM hz hi hg
  go_enter Tryz.func3, Tryz.ntmps3
  go_wp2_with (first
    | (go_at_call 9; refine CA.out.mono ?_; clear CA; rintro e w1 ⟨rfl, HB⟩)
    | (go_at_call 10; refine (CL.out _ HB).mono ?_; clear CL HB; rintro e X ⟨p, rfl, HX⟩))
  have HY : Hid (Below X.heap.size X X) := Below.refl _ _
  go_loopw [12] (fun t wr => ∃ k : Int, t = .int .i64 k ∧ -1 ≤ k ∧ k ≤ 42 ∧ Hid (Below X.heap.size X wr)) (fun t _ => (42 - Go.RowKit.intOf t).toNat)
  case atStart => exact ⟨-1, rfl, by omega, by omega, HY⟩
  case round =>
    clear HY
    obtain ⟨k, rfl, hk1, hk2, HR⟩ := hrel
    by_cases hlt : k ≤ 41
    · have C1 : Hid (∀ W, Hid (Below X.heap.size X W) → Calls Tryz.prog 11 #[.pointer p, .int .i64 k, .int .i64 i, .int .i64 gl, .int .i64 n] W fun e W' => e = .returned (.tuple #[.int .i64 (goP s k i gl n).1, .int .i64 (goP s k i gl n).2.1, .int .i64 (goP s k i gl n).2.2]) ∧ Hid (Below X.heap.size X W')) := fun W hW => (Go_any HM.out (HX.out.1.below hW.out) k i gl n HZ.out.2.1 HZ.out.2.2).mono fun e W' ⟨q1, q2⟩ => ⟨q1, Below.on hW.out q2⟩
      have C2 : Hid (∀ W, Hid (Below X.heap.size X W) → Calls Tryz.prog 12 #[.string s, .int .i64 k, .int .i64 i, .int .i64 gl, .int .i64 n] W fun e W' => e = .returned (.tuple #[.int .i64 (goP s k i gl n).1, .int .i64 (goP s k i gl n).2.1, .int .i64 (goP s k i gl n).2.2]) ∧ Hid (Below X.heap.size X W')) := fun W hW => (rGo_any s (by have := HZ.out.1; omega) k i gl n W).mono fun e W' ⟨q1, q2⟩ => ⟨q1, Below.on hW.out q2⟩
      have C3 : Hid (∀ W, Hid (Below X.heap.size X W) → Calls Tryz.prog 13 #[.int .i64 k] W fun e W' => e = .returned (.bool (decide (4 ≤ k ∧ k ≤ 13))) ∧ Hid (Below X.heap.size X W')) := fun W hW => (Motion_any k W).mono fun e W' ⟨q1, q2⟩ => ⟨q1, Below.on hW.out q2⟩
      have C4 : Hid (∀ W, Hid (Below X.heap.size X W) → Calls Tryz.prog 14 #[.int .i64 k] W fun e W' => e = .returned (.bool (decide (4 ≤ k ∧ k ≤ 13))) ∧ Hid (Below X.heap.size X W')) := fun W hW => (rMotion_any k W).mono fun e W' ⟨q1, q2⟩ => ⟨q1, Below.on hW.out q2⟩
      have C5 : Hid (∀ W, Hid (Below X.heap.size X W) → Calls Tryz.prog 15 #[.pointer p, .int .i64 k, .int .i64 i, .int .i64 n] W fun e W' => e = .returned (spV s k i n) ∧ Hid (Below X.heap.size X W')) := fun W hW => (Span_any HM.out (HX.out.1.below hW.out) k i n HZ.out.2.1).mono fun e W' ⟨q1, q2⟩ => ⟨q1, Below.on hW.out q2⟩
      have C6 : Hid (∀ W, Calls Tryz.prog 16 #[.string s, .int .i64 k, .int .i64 i, .int .i64 n] W fun e W' => e = .returned (spV s k i n) ∧ Hid (Below W.heap.size W W')) := fun W => rSpan_any s (by have := HZ.out.1; omega) k i n W
      unfold spV at C5 C6
      generalize goP s k i gl n = R at C1 C2
      generalize spP s k i n = P at C5 C6
      obtain ⟨r1, r2, r3⟩ := R
      obtain ⟨⟨p1, p2⟩, p3⟩ := P
      simp only at C1 C2 C5 C6
      generalize decide (4 ≤ k ∧ k ≤ 13) = mb at C3 C4
      go_upto_region 14 with (first
        | (go_at_call 11; refine (C1.out _ HR).mono ?_; clear C1 HR; rintro e w3 ⟨rfl, HR⟩)
        | (go_at_call 12; refine (C2.out _ HR).mono ?_; clear C2 HR; rintro e w4 ⟨rfl, HR⟩)
        | (go_at_call 13; refine (C3.out _ HR).mono ?_; clear C3 HR; rintro e w5 ⟨rfl, HR⟩)
        | (go_at_call 14; refine (C4.out _ HR).mono ?_; clear C4 HR; rintro e w6 ⟨rfl, HR⟩)
        | (go_at_call 15; refine (C5.out _ HR).mono ?_; clear C5 HR; rintro e w7 ⟨rfl, HR⟩))
      have HA : Hid (Below X.heap.size X (w7.alloc (.cells #[.int .i64 p1, .int .i64 p2] 32))) := HR.out.alloc HR.out.size _
      have HC : Hid (∀ W, Below (w7.alloc (.cells #[.int .i64 p1, .int .i64 p2] 32)).heap.size (w7.alloc (.cells #[.int .i64 p1, .int .i64 p2] 32)) W → W.cell? ⟨w7.heap.size, 0, none⟩ = some (.int .i64 p1) ∧ W.cell? ⟨w7.heap.size, 1, none⟩ = some (.int .i64 p2)) := fun W hW => sp_box hW
      generalize w7.alloc (.cells #[.int .i64 p1, .int .i64 p2] 32) = W1 at HA HC ⊢
      go_upto_region 15 with (go_at_call 16; refine (C6.out _).mono ?_; clear C6; rintro e w8 ⟨rfl, HB⟩)
      have HD : Hid (Below W1.heap.size W1 (w8.alloc (.cells #[.int .i64 p1, .int .i64 p2] 32))) := HB.out.alloc HB.out.size _
      obtain ⟨y0, y1⟩ := sp_box (W := w8) (x := p1) (y := p2) (Below.refl _ _)
      obtain ⟨z0, z1⟩ := HC.out _ HD.out
      have HF : Hid (Below X.heap.size X (w8.alloc (.cells #[.int .i64 p1, .int .i64 p2] 32))) := Below.on HA.out HD.out
      generalize w8.alloc (.cells #[.int .i64 p1, .int .i64 p2] 32) = W2 at HD HF y0 y1 z0 z1 ⊢
      clear HC HA HB HR HD
      go_wp2
      exact ⟨⟨k + 1, by go_num, by omega, by omega, HF⟩, by simp [Go.RowKit.intOf]; omega⟩
    · have C7 : Hid (∀ W, Hid (Below X.heap.size X W) → Calls Tryz.prog 17 #[.pointer p] W fun e W' => e = .returned (.string s) ∧ Hid (Below X.heap.size X W')) := fun W hW => (HX.out.1.below hW.out).text.mono fun e W' ⟨q1, q2⟩ => ⟨q1, Below.on hW.out q2⟩
      go_wp2_with (go_at_call 17; refine (C7.out _ HR).mono ?_; clear C7 HR; rintro e w9 ⟨rfl, HR⟩)
      go_ret
      exact ⟨rfl, Below.on HX.out.2 HR.out⟩
end Go.Proofs.YtenkmidlipjobaaGreatDoor.Sto
namespace Go.Proofs.YtenkmidlipjobaaGreatDoor.moveGoes
open Go.RowKit Go.Shelf Sto
theorem walk_of {H : Type} (kd : Int) (s : ByteArray) (i gl n : Int) (w : World) (hT : Lib.Utf8Tabs 0 1 w) (hlo0 : 0 < w.heap.size) (hlo1 : 1 < w.heap.size) (h0 : 0 ≤ kd ∧ kd ≤ 255) (_hs : s.size ≤ 140737488351232) (h2 : -9223372036854775808 ≤ i ∧ i ≤ 9223372036854775807) (h3 : -9223372036854775808 ≤ gl ∧ gl ≤ 9223372036854775807) (_h4 : -9223372036854775808 ≤ n ∧ n ≤ 9223372036854775807) (hk : Rows.uptoSmall H ([DataW.lit (.int .u8 kd), DataW.lit (.string s.data.toList), DataW.lit (.int .i64 i), DataW.lit (.int .i64 gl), DataW.lit (.int .i64 n)] ++ []) = true) :
    Calls Tryz.prog 3 #[.int .u8 kd, .string s, .int .i64 i, .int .i64 gl, .int .i64 n] w fun e W' => e = .returned (.bool true) ∧ Below w.heap.size w W' := by
  have h : Rows.uptoBulkAll ([DataW.lit (H := H) (.int .u8 kd), DataW.lit (.string s.data.toList), DataW.lit (.int .i64 i), DataW.lit (.int .i64 gl), DataW.lit (.int .i64 n)] ++ []) ≤ 1048576 := of_decide_eq_true hk
  simp only [List.append_nil, Rows.uptoBulkAll, Rows.uptoBulk] at h
  obtain ⟨a, rfl⟩ := Int.eq_ofNat_of_zero_le h0.1
  exact goes_walk a (by omega) s (by rw [Lib.size_eq]; omega) i gl n h2.2 h3.2 w ⟨hT, hlo0, hlo1⟩
end Go.Proofs.YtenkmidlipjobaaGreatDoor.moveGoes
