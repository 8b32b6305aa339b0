/-
  The walk of the law UnitBegins: for every text it returns true: Begun of it, and of each of its pieces of up to five bytes among its first hundred bytes, is what the document says. Conditions: the two tables of unicode/utf8 lie as their text lays them.
-/
import Derived.Test.YtadgbbnkhjapnaaDoorURefG
import Derived.Test.YtadgbbnkhjapnaaDoorUBegun
namespace Go.Proofs.YtadgbbnkhjapnaaDoor.unitBegins
open Go.RowKit Bod

theorem ex_beg : begB ⟨#[226, 130]⟩ = true := by decide +kernel

set_option maxRecDepth 100000 in
set_option maxHeartbeats 2000000 in
theorem walk (s : ByteArray) (hs : s.size ≤ 140737488351232) (w : World) (hT : Lib.Utf8Tabs 0 1 w) (hlo0 : 0 < w.heap.size) (hlo1 : 1 < w.heap.size) :
    Calls Tryd.prog 6 #[.string s] w fun e w' => e = .returned (.bool true) ∧ Below w.heap.size w w' := by
  have cC := cuts_any w hT hlo0 hlo1
  have C1 : Hid (∀ (W : World) (p : ByteArray), p.size ≤ s.size + 2 → Below w.heap.size w W → Calls Tryd.prog 18 #[.string p] W fun e W' => e = .returned (.bool (begB p)) ∧ Below w.heap.size w W') := fun W p hp hb =>
    (begun_any p (by unfold maxLen; omega) W (tabs_below hT hb)).mono fun _ _ ⟨h1, h2⟩ => ⟨h1, hb.trans (h2.mono hb.size)⟩
  have C2 : Hid (∀ (W : World) (p : ByteArray), p.size ≤ s.size + 2 → Below w.heap.size w W → Calls Tryd.prog 19 #[.string p] W fun e W' => e = .returned (.bool (begB p)) ∧ Below w.heap.size w W') := fun W p hp hb =>
    (rbegun_any p (by unfold maxLen; omega) W).mono fun _ _ ⟨h1, h2⟩ => ⟨h1, hb.trans (h2.mono hb.size)⟩
  have C0 : Hid (∀ (W : World), Below w.heap.size w W → Calls Tryd.prog 18 #[.string ⟨#[226, 130]⟩] W fun e W' => e = .returned (.bool true) ∧ Below w.heap.size w W') := fun W hb => by
    have := C1.out W ⟨#[226, 130]⟩ (by show 2 ≤ _; omega) hb
    rwa [ex_beg] at this
  have T0 : Hid True := trivial
  clear hT hlo0 hlo1
  go_enter Tryd.func6, Tryd.ntmps6
  go_wp2_with (first | (go_at_call 9; refine cC.mono ?_; clear cC; rintro e w1 ⟨rfl, hb1⟩; have HB : Hid (Below w.heap.size w w1) := hb1; clear hb1) | (go_at_call 18; have hq := T0; clear hq T0; refine (C0.out _ HB.out).mono ?_; clear HB; rintro e w1 ⟨rfl, hb1⟩; have HB : Hid (Below w.heap.size w w1) := hb1; clear hb1) | (go_at_call 18; refine (C1.out _ _ (by omega) HB.out).mono ?_; clear HB; rintro e w1 ⟨rfl, hb1⟩; have HB : Hid (Below w.heap.size w w1) := hb1; clear hb1) | (go_at_call 19; refine (C2.out _ _ (by omega) HB.out).mono ?_; clear HB; rintro e w1 ⟨rfl, hb1⟩; have HB : Hid (Below w.heap.size w w1) := hb1; clear hb1))
  go_loopw [21] (fun t wr => ∃ k : Nat, t = .int .i64 k ∧ k ≤ s.size ∧ k ≤ 100 ∧ Below w.heap.size w wr) (fun t _ => 100 - (intOf t).toNat)
  case atStart => exact ⟨0, rfl, by omega, by omega, HB.out⟩
  case round =>
    obtain ⟨i, rfl, hi1, hi2, hb⟩ := hrel
    have HB2 : Hid (Below w.heap.size w wr) := hb
    clear hb HB
    by_cases hlt : (i : Int) < min (s.size : Int) 100
    · go_wp2
      go_loopw [4] (fun t wr => ∃ j : Nat, t = .int .i64 j ∧ i ≤ j ∧ j ≤ i + 6 ∧ j ≤ s.size + 1 ∧ Below w.heap.size w wr) (fun t _ => i + 6 - (intOf t).toNat)
      case atStart => exact ⟨i, rfl, by omega, by omega, by omega, HB2.out⟩
      case round =>
        obtain ⟨j, rfl, hj1, hj2, hj3, hb⟩ := hrel
        have HB : Hid (Below w.heap.size w wr) := hb
        clear hb HB2
        by_cases hlt2 : (j : Int) ≤ min (s.size : Int) ((i : Int) + 5)
        · have hjs : (j : Int) ≤ (s.size : Int) := by omega
          have hij : (i : Int) ≤ (j : Int) := by omega
          have hps : (s.extract i j).size ≤ s.size + 2 := by rw [size_extract s i j (by omega)]; omega
          have hbd : Below w.heap.size w wr.drew := ⟨HB.out.os, HB.out.tape, HB.out.output, HB.out.size, HB.out.block⟩
          clear HB
          have HB : Hid (Below w.heap.size w wr.drew) := hbd
          clear hbd
          go_wp2
          go_region_with (first | (go_at_call 18; refine (C1.out _ _ hps HB.out).mono ?_; rintro e w1 ⟨rfl, hb1⟩; have HB1 : Hid (Below w.heap.size w w1) := hb1; clear hb1) | (go_at_call 19; refine (C2.out _ _ hps HB1.out).mono ?_; rintro e w1 ⟨rfl, hb1⟩; have HB2 : Hid (Below w.heap.size w w1) := hb1; clear hb1))
          all_goals go_wp2
          all_goals exact ⟨⟨j + 1, by go_num, by omega, by omega, by omega, HB2.out⟩, by simp [intOf]; omega⟩
        · go_wp2
          go_roundw
          case rel => exact ⟨i + 1, by go_num, by omega, by omega, HB.out⟩
          case measure => simp [intOf]; omega
    · go_wp2
      go_ret
      exact ⟨rfl, HB2.out⟩

theorem walk_of (s : ByteArray) (w : World) (hT : Lib.Utf8Tabs 0 1 w) (hlo0 : 0 < w.heap.size) (hlo1 : 1 < w.heap.size) (hs : s.size ≤ 140737488351232) :
    Calls Tryd.prog 6 #[.string s] w fun e w' => e = .returned (.bool true) ∧ Below w.heap.size w w' := walk s hs w hT hlo0 hlo1
end Go.Proofs.YtadgbbnkhjapnaaDoor.unitBegins
