/-
  The walk of the law MoveWalks: motions one behind the other lead where the document says. Conditions: the two tables of unicode/utf8 lie as their text lays them; what is read holds together at most 1048576 values and letters.
-/
import Derived.Test.YtenkmidlipjobaaGreatDoorPkQB
import Derived.Test.YtenkmidlipjobaaGreatDoorPkQR
import Derived.Test.YtenkmidlipjobaaGreatDoorUOcts
namespace Go.Proofs.YtenkmidlipjobaaGreatDoor.Sto
open Go.RowKit Go.Shelf Bod Wid

theorem goP_bd {s : ByteArray} (hs : s.size ≤ 1073741824) (k i : Int) {g : Int} (hg : g ≤ 9223372036854775807) (n : Int) : (goP s k i g n).1 ≤ 9223372036854775807 ∧ (goP s k i g n).2.1 ≤ 9223372036854775807 := by
  by_cases hk : 4 ≤ k ∧ k ≤ 13
  · obtain ⟨m, h1, -, h2, -⟩ := goP_ends (s := s) hk i g n
    exact ⟨by omega, (goP_goal hk hs i hg n).2⟩
  · have : goP s k i g n = (0, -1, 13) := by unfold goP; rw [if_neg hk]
    rw [this]; exact ⟨by decide, by decide⟩
set_option maxRecDepth 100000 in
set_option maxHeartbeats 4000000 in
theorem walks_walk (kd : Nat) (hkd : kd ≤ 255) (s : ByteArray) (hz : s.size ≤ 1048576) (rs : List Int) (a : Option Addr) (len cap : Nat) (hlen : len ≤ 1048576) (i : Int) (hi : i ≤ 9223372036854775807) (w : World) (hE : Ev w) (hr : Octs w a len rs) :
    Calls Tryz.prog 4 #[.int .u8 kd, .string s, .slice a len cap, .int .i64 i] w fun e W' => e = .returned (.bool true) ∧ Below w.heap.size w W' := by
  have hM : Tryz.prog.follows .mixedOrders = true := by kernel_rfl
  have CA : Hid (Calls Tryz.prog 9 #[] w fun e W' => e = .returned (.bool true) ∧ Hid (Below w.heap.size w W')) := goes_any hM w hE
  have CL : Hid (∀ W, Hid (Below w.heap.size w W) → Calls Tryz.prog 10 #[.int .u8 kd, .string s] W fun e W' => ∃ p, e = .returned (.pointer p) ∧ Hid (Sv W' (.pointer p) s ∧ Below w.heap.size w W')) := fun W hW => (laid_any W (hE.below hW.out) s (by omega) kd hkd).mono fun e W' ⟨p, q1, q2, q3⟩ => ⟨p, q1, q2, Below.on hW.out q3⟩
  have hbig' : ¬ ((1073741824 : Int) < s.size) := by omega
  have HM : Hid (Tryz.prog.follows .mixedOrders = true) := hM
  have HZ : Hid (s.size ≤ 1048576 ∧ i ≤ 9223372036854775807) := ⟨hz, hi⟩
  have HO : Hid (Octs w a len rs) := hr
  clear hE hM hz hi hr
  go_enter Tryz.func4, Tryz.ntmps4
  go_wp2_with (first
    | (go_at_call 9; refine CA.out.mono ?_; clear CA; rintro e w1 ⟨rfl, HB⟩)
    | (go_at_call 10; refine (CL.out _ HB).mono ?_; clear CL HB; rintro e X ⟨p, rfl, HX⟩))
  have HY : Hid (Below X.heap.size X X) := Below.refl _ _
  go_loopw [10, 11, 12, 13, 31] (fun t10 t11 t12 t13 t31 wr => ∃ (x g : Int) (j : Nat), t10 = .int .i64 x ∧ t11 = .int .i64 g ∧ t12 = .int .i64 x ∧ t13 = .int .i64 g ∧ t31 = .int .i64 j ∧ j ≤ len ∧ Hid (x ≤ 9223372036854775807 ∧ g ≤ 9223372036854775807) ∧ Hid (Below X.heap.size X wr)) (fun _ _ _ _ t31 _ => len - (Go.RowKit.intOf t31).toNat)
  case atStart => exact ⟨i, -1, 0, rfl, rfl, rfl, rfl, rfl, Nat.zero_le _, ⟨HZ.out.2, by omega⟩, HY⟩
  case round =>
    clear HY
    obtain ⟨x, g, j, rfl, rfl, rfl, rfl, rfl, hj, HQ, HR⟩ := hrel
    by_cases hlt : j < len
    · have hlt' : (j : Int) < len := by omega
      obtain ⟨bb, o, rfl, hbb, hc⟩ := HO.out.2.2 (by omega)
      obtain ⟨r, hrr⟩ : ∃ r, rs[j]?.getD 0 = r := ⟨_, rfl⟩
      have hjr : j < rs.length := by rw [HO.out.1]; exact hlt
      have hrb : 0 ≤ r ∧ r ≤ 255 := by
        refine HO.out.2.1 r ?_
        rw [← hrr, List.getElem?_eq_getElem hjr]
        exact List.getElem_mem _
      have x0 : wr.cell? ⟨bb, o + j, none⟩ = some (.int .u8 r) := by
        have := ((Below.on HX.out.2 HR.out).cell (p := ⟨bb, o + j, none⟩) hbb).trans (hc j hjr)
        rw [hrr] at this
        exact this
      have C1 : Hid (∀ (k n : Int) W, Hid (Below X.heap.size X W) → Calls Tryz.prog 11 #[.pointer p, .int .i64 k, .int .i64 x, .int .i64 g, .int .i64 n] W fun e W' => ∃ r1 r2 r3, e = .returned (.tuple #[.int .i64 r1, .int .i64 r2, .int .i64 r3]) ∧ Hid (goP s k x g n = (r1, r2, r3)) ∧ Hid (Below X.heap.size X W')) := fun k n W hW => (Go_any HM.out (HX.out.1.below hW.out) k x g n HQ.out.1 HQ.out.2).mono fun e W' ⟨q1, q2⟩ => ⟨_, _, _, q1, rfl, Below.on hW.out q2⟩
      have C2 : Hid (∀ (k n : Int) W, Hid (Below X.heap.size X W) → Calls Tryz.prog 12 #[.string s, .int .i64 k, .int .i64 x, .int .i64 g, .int .i64 n] W fun e W' => ∃ r1 r2 r3, e = .returned (.tuple #[.int .i64 r1, .int .i64 r2, .int .i64 r3]) ∧ Hid (goP s k x g n = (r1, r2, r3)) ∧ Hid (Below X.heap.size X W')) := fun k n W hW => (rGo_any s (by have := HZ.out.1; omega) k x g n W).mono fun e W' ⟨q1, q2⟩ => ⟨_, _, _, q1, rfl, Below.on hW.out q2⟩
      clear hc hrr hjr
      go_upto_region 15 with (first
        | (go_at_call 11; refine (C1.out _ _ _ HR).mono ?_; clear C1 HR x0; rintro e w3 ⟨r1, r2, r3, rfl, HG, HR⟩)
        | (go_at_call 12; refine (C2.out _ _ _ HR).mono ?_; clear C2 HR; rintro e w4 ⟨q1, q2, q3, rfl, HG2, HR⟩))
      have hh := HG.out.symm.trans HG2.out
      injection hh with h1 hh
      injection hh with h2 h3
      subst h1 h2 h3
      have HQ2 : Hid (r1 ≤ 9223372036854775807 ∧ r2 ≤ 9223372036854775807) := by
        have := goP_bd (s := s) (by have := HZ.out.1; omega) (4 + r % 10) x HQ.out.2 (r / 10)
        rw [HG.out] at this
        exact this
      clear HG HG2
      go_wp2
      exact ⟨⟨r1, r2, j + 1, rfl, rfl, rfl, rfl, by go_num, by omega, HQ2, HR⟩, by simp [Go.RowKit.intOf]; omega⟩
    · have hlt' : ¬ ((j : Int) < len) := by omega
      have C7 : Hid (∀ W, Hid (Below X.heap.size X W) → Calls Tryz.prog 17 #[.pointer p] W fun e W' => e = .returned (.string s) ∧ Hid (Below X.heap.size X W')) := fun W hW => (HX.out.1.below hW.out).text.mono fun e W' ⟨q1, q2⟩ => ⟨q1, Below.on hW.out q2⟩
      go_wp2_with (go_at_call 17; refine (C7.out _ HR).mono ?_; clear C7 HR; rintro e w9 ⟨rfl, HR⟩)
      go_ret
      exact ⟨rfl, Below.on HX.out.2 HR.out⟩
end Go.Proofs.YtenkmidlipjobaaGreatDoor.Sto
namespace Go.Proofs.YtenkmidlipjobaaGreatDoor.moveWalks
open Go.RowKit Go.Shelf Sto
theorem walk_of {H : Type} {d2 : DataW H} (kd : Int) (s : ByteArray) (a2 : Option Addr) (len2 cap2 : Nat) (i : Int) (w : World) (hT : Lib.Utf8Tabs 0 1 w) (hlo0 : 0 < w.heap.size) (hlo1 : 1 < w.heap.size) (h0 : 0 ≤ kd ∧ kd ≤ 255) (_hs : s.size ≤ 140737488351232) (rs : List Int) (y : Octs w a2 len2 rs) (u : len2 ≤ Rows.uptoBulk d2) (h3 : -9223372036854775808 ≤ i ∧ i ≤ 9223372036854775807) (hk : Rows.uptoSmall H ([DataW.lit (.int .u8 kd), DataW.lit (.string s.data.toList), d2, DataW.lit (.int .i64 i)] ++ []) = true) :
    Calls Tryz.prog 4 #[.int .u8 kd, .string s, .slice a2 len2 cap2, .int .i64 i] w fun e W' => e = .returned (.bool true) ∧ Below w.heap.size w W' := by
  have h : Rows.uptoBulkAll ([DataW.lit (H := H) (.int .u8 kd), DataW.lit (.string s.data.toList), d2, DataW.lit (.int .i64 i)] ++ []) ≤ 1048576 := of_decide_eq_true hk
  simp only [List.append_nil, Rows.uptoBulkAll, Rows.uptoBulk] at h
  obtain ⟨a, rfl⟩ := Int.eq_ofNat_of_zero_le h0.1
  exact walks_walk a (by omega) s (by rw [Lib.size_eq]; omega) rs a2 len2 cap2 (by omega) i h3.2 w ⟨hT, hlo0, hlo1⟩ y
end Go.Proofs.YtenkmidlipjobaaGreatDoor.moveWalks
