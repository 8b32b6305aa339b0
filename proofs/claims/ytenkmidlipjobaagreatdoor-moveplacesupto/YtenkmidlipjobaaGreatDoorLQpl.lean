/-
  The walk of the law MovePlaces: Column and Place at every number are the document's. Conditions: the two tables of unicode/utf8 lie as their text lays them; what is read holds together at most 1048576 values and letters.
-/
import Derived.Test.YtenkmidlipjobaaGreatDoorPkQB
import Derived.Test.YtenkmidlipjobaaGreatDoorPkQR
namespace Go.Proofs.YtenkmidlipjobaaGreatDoor.Sto
open Go.RowKit Go.Shelf Bod Wid

set_option maxRecDepth 100000 in
set_option maxHeartbeats 4000000 in
theorem places_walk (kd : Nat) (hkd : kd ≤ 255) (s : ByteArray) (hz : s.size ≤ 1048576) (i l c : Int) (hi : i ≤ 9223372036854775807) (hc : c ≤ 9223372036854775807) (w : World) (hE : Ev w) :
    Calls Tryz.prog 5 #[.int .u8 kd, .string s, .int .i64 i, .int .i64 l, .int .i64 c] w fun e W' => e = .returned (.bool true) ∧ Below w.heap.size w W' := by
  have hM : Tryz.prog.follows .mixedOrders = true := by kernel_rfl
  have CA : Hid (Calls Tryz.prog 9 #[] w fun e W' => e = .returned (.bool true) ∧ Hid (Below w.heap.size w W')) := goes_any hM w hE
  have CL : Hid (∀ W, Hid (Below w.heap.size w W) → Calls Tryz.prog 10 #[.int .u8 kd, .string s] W fun e W' => ∃ p, e = .returned (.pointer p) ∧ Hid (Sv W' (.pointer p) s ∧ Below w.heap.size w W')) := fun W hW => (laid_any W (hE.below hW.out) s (by omega) kd hkd).mono fun e W' ⟨p, q1, q2, q3⟩ => ⟨p, q1, q2, Below.on hW.out q3⟩
  have C1 : Hid (∀ W p, Hid (Sv W (.pointer p) s ∧ Below w.heap.size w W) → Calls Tryz.prog 18 #[.pointer p, .int .i64 i] W fun e W' => e = .returned (.int .i64 (colF s (snp s i))) ∧ Hid (Sv W' (.pointer p) s ∧ Below w.heap.size w W')) := fun W p hW => (Column_any hM hW.out.1 i hi).mono fun e W' ⟨q1, q2⟩ => ⟨q1, hW.out.1.below q2, Below.on hW.out.2 q2⟩
  have C2 : Hid (∀ W p, Hid (Sv W (.pointer p) s ∧ Below w.heap.size w W) → Calls Tryz.prog 19 #[.string s, .int .i64 i] W fun e W' => e = .returned (.int .i64 (colF s (snp s i))) ∧ Hid (Sv W' (.pointer p) s ∧ Below w.heap.size w W')) := fun W p hW => (rColumn_any s (by omega) i W).mono fun e W' ⟨q1, q2⟩ => ⟨q1, hW.out.1.below q2, Below.on hW.out.2 q2⟩
  have C3 : Hid (∀ W p (l : Int), Hid (Sv W (.pointer p) s ∧ Below w.heap.size w W) → Calls Tryz.prog 20 #[.pointer p, .int .i64 l, .int .i64 c] W fun e W' => e = .returned (.int .i64 (plcF s (hl s l) c : Nat)) ∧ Hid (Sv W' (.pointer p) s ∧ Below w.heap.size w W')) := fun W p l hW => (Place_any hM hW.out.1 l c hc).mono fun e W' ⟨q1, q2⟩ => ⟨q1, hW.out.1.below q2, Below.on hW.out.2 q2⟩
  have C4 : Hid (∀ W p (l : Int), Hid (Sv W (.pointer p) s ∧ Below w.heap.size w W) → Calls Tryz.prog 21 #[.string s, .int .i64 l, .int .i64 c] W fun e W' => e = .returned (.int .i64 (plcF s (hl s l) c : Nat)) ∧ Hid (Sv W' (.pointer p) s ∧ Below w.heap.size w W')) := fun W p l hW => (rPlace_any s (by omega) l c W).mono fun e W' ⟨q1, q2⟩ => ⟨q1, hW.out.1.below q2, Below.on hW.out.2 q2⟩
  have D3 : Hid (∀ W p, Hid (Sv W (.pointer p) s ∧ Below w.heap.size w W) → Calls Tryz.prog 20 #[.pointer p, .int .i64 l, .int .i64 c] W fun e W' => e = .returned (.int .i64 (plcF s (hl s l) c : Nat)) ∧ Hid (Sv W' (.pointer p) s ∧ Below w.heap.size w W')) := fun W p hW => C3.out W p l hW
  have D4 : Hid (∀ W p, Hid (Sv W (.pointer p) s ∧ Below w.heap.size w W) → Calls Tryz.prog 21 #[.string s, .int .i64 l, .int .i64 c] W fun e W' => e = .returned (.int .i64 (plcF s (hl s l) c : Nat)) ∧ Hid (Sv W' (.pointer p) s ∧ Below w.heap.size w W')) := fun W p hW => C4.out W p l hW
  have D5 : Hid (∀ W p, Hid (Sv W (.pointer p) s ∧ Below w.heap.size w W) → Calls Tryz.prog 20 #[.pointer p, .int .i64 1, .int .i64 c] W fun e W' => e = .returned (.int .i64 (plcF s (hl s 1) c : Nat)) ∧ Hid (Sv W' (.pointer p) s ∧ Below w.heap.size w W')) := fun W p hW => C3.out W p 1 hW
  have D6 : Hid (∀ W p, Hid (Sv W (.pointer p) s ∧ Below w.heap.size w W) → Calls Tryz.prog 21 #[.string s, .int .i64 1, .int .i64 c] W fun e W' => e = .returned (.int .i64 (plcF s (hl s 1) c : Nat)) ∧ Hid (Sv W' (.pointer p) s ∧ Below w.heap.size w W')) := fun W p hW => C4.out W p 1 hW
  generalize colF s (snp s i) = r1 at C1 C2
  generalize plcF s (hl s l) c = r2 at D3 D4
  generalize plcF s (hl s 1) c = r3 at D5 D6
  have T1 : True := trivial
  have T2 : True := trivial
  have hbig' : ¬ ((1073741824 : Int) < s.size) := by omega
  clear hE hM C3 C4
  go_enter Tryz.func5, Tryz.ntmps5
  go_wp2_with (first
    | (go_at_call 9; refine CA.out.mono ?_; clear CA; rintro e w1 ⟨rfl, HB⟩)
    | (go_at_call 10; refine (CL.out _ HB).mono ?_; clear CL HB; rintro e w2 ⟨p, rfl, HB⟩)
    | (go_at_call 18; refine (C1.out _ _ HB).mono ?_; clear C1 HB; rintro e w3 ⟨rfl, HB⟩)
    | (go_at_call 19; refine (C2.out _ _ HB).mono ?_; clear C2 HB; rintro e w4 ⟨rfl, HB⟩)
    | (go_at_call 20; clear T1; refine (D3.out _ _ HB).mono ?_; clear D3 HB; rintro e w5 ⟨rfl, HB⟩)
    | (go_at_call 21; clear T2; refine (D4.out _ _ HB).mono ?_; clear D4 HB; rintro e w6 ⟨rfl, HB⟩)
    | (go_at_call 20; refine (D5.out _ _ HB).mono ?_; clear D5 HB; rintro e w7 ⟨rfl, HB⟩)
    | (go_at_call 21; refine (D6.out _ _ HB).mono ?_; clear D6 HB; rintro e w8 ⟨rfl, HB⟩))
  go_ret
  exact ⟨rfl, HB.out.2⟩
end Go.Proofs.YtenkmidlipjobaaGreatDoor.Sto
namespace Go.Proofs.YtenkmidlipjobaaGreatDoor.movePlaces
open Go.RowKit Go.Shelf Sto
theorem walk_of {H : Type} (kd : Int) (s : ByteArray) (i l c : Int) (w : World) (hT : Lib.Utf8Tabs 0 1 w) (hlo0 : 0 < w.heap.size) (hlo1 : 1 < w.heap.size) (h0 : 0 ≤ kd ∧ kd ≤ 255) (_hs : s.size ≤ 140737488351232) (h2 : -9223372036854775808 ≤ i ∧ i ≤ 9223372036854775807) (_h3 : -9223372036854775808 ≤ l ∧ l ≤ 9223372036854775807) (h4 : -9223372036854775808 ≤ c ∧ c ≤ 9223372036854775807) (hk : Rows.uptoSmall H ([DataW.lit (.int .u8 kd), DataW.lit (.string s.data.toList), DataW.lit (.int .i64 i), DataW.lit (.int .i64 l), DataW.lit (.int .i64 c)] ++ []) = true) :
    Calls Tryz.prog 5 #[.int .u8 kd, .string s, .int .i64 i, .int .i64 l, .int .i64 c] w fun e W' => e = .returned (.bool true) ∧ Below w.heap.size w W' := by
  have h : Rows.uptoBulkAll ([DataW.lit (H := H) (.int .u8 kd), DataW.lit (.string s.data.toList), DataW.lit (.int .i64 i), DataW.lit (.int .i64 l), DataW.lit (.int .i64 c)] ++ []) ≤ 1048576 := of_decide_eq_true hk
  simp only [List.append_nil, Rows.uptoBulkAll, Rows.uptoBulk] at h
  obtain ⟨a, rfl⟩ := Int.eq_ofNat_of_zero_le h0.1
  exact places_walk a (by omega) s (by rw [Lib.size_eq]; omega) i l c h2.2 h4.2 w ⟨hT, hlo0, hlo1⟩
end Go.Proofs.YtenkmidlipjobaaGreatDoor.movePlaces
