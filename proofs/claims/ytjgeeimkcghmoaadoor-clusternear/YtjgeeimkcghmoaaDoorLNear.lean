/-
  The law ClusterNear returns true for every three texts: whether an offset is a cluster's boundary is seen by the four bytes at each side of it. Its conditions: the two tables of unicode/utf8 start as the program's text lays them (the card ties that).
-/
import Derived.Test.YtjgeeimkcghmoaaDoorCFixed
import Derived.Test.YtjgeeimkcghmoaaDoorCMathE
namespace Go.Proofs.YtjgeeimkcghmoaaDoor.clusterNear
open Go.RowKit Bod Wid

set_option maxRecDepth 100000 in
set_option maxHeartbeats 2000000 in
theorem walk (a b c : ByteArray) (ha : a.size ≤ 140737488351232) (hb : b.size ≤ 140737488351232) (hc : c.size ≤ 140737488351232) (w : World) (hT : Lib.Utf8Tabs 0 1 w) (hlo0 : 0 < w.heap.size) (hlo1 : 1 < w.heap.size) :
    Calls Tryd.prog 7 #[.string a, .string b, .string c] w fun e w' => e = .returned (.bool true) ∧ Below w.heap.size w w' := by
  have ha' : a.size ≤ maxLen := by unfold maxLen; omega
  have cF := fixed_any w hT hlo0 hlo1
  go_enter Tryd.func7, Tryd.ntmps7
  go_wp2_with (go_at_call 9; refine cF.mono ?_; clear cF; rintro e w0 ⟨rfl, hb0⟩)
  go_loopw [7] (fun t wr => ∃ i : Nat, t = .int .i64 i ∧ 1 ≤ i ∧ Below w.heap.size w wr) (fun t _ => a.size - (intOf t).toNat)
  case atStart => exact ⟨1, rfl, Nat.le_refl _, hb0⟩
  case round =>
    clear hb0
    obtain ⟨i, rfl, h1, hB⟩ := hrel
    by_cases hlt : i < a.size
    · obtain ⟨lo, hlo⟩ : ∃ lo : Nat, i - 4 = lo := ⟨_, rfl⟩
      obtain ⟨hi, hhi⟩ : ∃ hi : Nat, min a.size (i + 4) = hi := ⟨_, rfl⟩
      have hmx : max 0 ((i : Int) - 4) = (lo : Int) := by omega
      have hmn : min (a.size : Int) ((i : Int) + 4) = (hi : Int) := by omega
      have hl1 : lo ≤ i := by omega
      have hl2 : i < hi := by omega
      have hl3 : hi ≤ a.size := by omega
      have hpc : cbZ (a.extract lo hi) ((i : Int) - lo) = cbZ a i := by
        have := near_piece (a := a) (i := i) (by omega) hlt
        rw [hlo, hhi, show ((i - lo : Nat) : Int) = (i : Int) - lo by omega] at this
        exact this
      have hbt : 0 < lo → hi < a.size → cbZ (b ++ a.extract lo hi ++ c) ((b.size : Int) + i - lo) = cbZ a i := fun g1 g2 => by
        have := near_between (a := a) (b := b) (c := c) (i := i) (by omega) (by omega)
        rw [hlo, show i + 4 = hi by omega, show ((b.size + 4 : Nat) : Int) = (b.size : Int) + i - lo by omega] at this
        exact this
      have hsz : (a.extract lo hi).size ≤ 8 := by rw [size_extract _ _ _ hl3]; omega
      have CA : Hid (∀ W, Below w.heap.size w W → Calls Tryd.prog 10 #[.string a, .int .i64 i] W fun e w' => e = .returned (.bool (cbZ a i)) ∧ Below w.heap.size w w') := fun W hW =>
        (cbound_any a i ha' W (tabs_below hT hW) (by omega)).mono fun e w' ⟨h1, h2⟩ => ⟨h1, hW.trans (h2.mono hW.size)⟩
      have CP : Hid (∀ W, Below w.heap.size w W → Calls Tryd.prog 10 #[.string (a.extract lo hi), .int .i64 ((i : Int) - lo)] W fun e w' => e = .returned (.bool (cbZ a i)) ∧ Below w.heap.size w w') := fun W hW =>
        (cbound_any (a.extract lo hi) ((i : Int) - lo) (by unfold maxLen; omega) W (tabs_below hT hW) (by omega)).mono fun e w' ⟨h1, h2⟩ => ⟨by rw [h1, hpc], hW.trans (h2.mono hW.size)⟩
      have CT : Hid (0 < lo → hi < a.size → ∀ W, Below w.heap.size w W → Calls Tryd.prog 10 #[.string (b ++ a.extract lo hi ++ c), .int .i64 ((b.size : Int) + i - lo)] W fun e w' => e = .returned (.bool (cbZ a i)) ∧ Below w.heap.size w w') := fun g1 g2 W hW =>
        (cbound_any (b ++ a.extract lo hi ++ c) ((b.size : Int) + i - lo) (by rw [size_app, size_app]; unfold maxLen; omega) W (tabs_below hT hW) (by omega)).mono fun e w' ⟨h1, h2⟩ => ⟨by rw [h1, hbt g1 g2], hW.trans (h2.mono hW.size)⟩
      have HB : Hid (Below w.heap.size w wr) := hB
      generalize cbZ a i = q at CA CP CT
      clear hpc hbt hB hlo hhi hsz
      by_cases g1 : 0 < lo
      · by_cases g2 : hi < a.size
        · have CT := CT.out g1 g2
          have CT : Hid (∀ W, Below w.heap.size w W → Calls Tryd.prog 10 #[.string (b ++ a.extract lo hi ++ c), .int .i64 ((b.size : Int) + i - lo)] W fun e w' => e = .returned (.bool q) ∧ Below w.heap.size w w') := CT
          go_wp2_with (first | (go_at_call 10; refine (CA.out _ HB.out).mono ?_; clear CA HB; rintro e w1 ⟨rfl, hb1⟩; have HB : Hid (Below w.heap.size w w1) := hb1; clear hb1) | (go_at_call 10; refine (CP.out _ HB.out).mono ?_; clear CP HB; rintro e w2 ⟨rfl, hb2⟩; have HB : Hid (Below w.heap.size w w2) := hb2; clear hb2) | (go_at_call 10; refine (CT.out _ HB.out).mono ?_; clear CT HB; rintro e w3 ⟨rfl, hb3⟩; have HB : Hid (Below w.heap.size w w3) := hb3; clear hb3))
          exact ⟨⟨i + 1, by go_num, by omega, HB.out⟩, by simp [intOf]; omega⟩
        · clear CT
          go_wp2_with (first | (go_at_call 10; refine (CA.out _ HB.out).mono ?_; clear CA HB; rintro e w1 ⟨rfl, hb1⟩; have HB : Hid (Below w.heap.size w w1) := hb1; clear hb1) | (go_at_call 10; refine (CP.out _ HB.out).mono ?_; clear CP HB; rintro e w2 ⟨rfl, hb2⟩; have HB : Hid (Below w.heap.size w w2) := hb2; clear hb2))
          exact ⟨⟨i + 1, by go_num, by omega, HB.out⟩, by simp [intOf]; omega⟩
      · clear CT
        go_wp2_with (first | (go_at_call 10; refine (CA.out _ HB.out).mono ?_; clear CA HB; rintro e w1 ⟨rfl, hb1⟩; have HB : Hid (Below w.heap.size w w1) := hb1; clear hb1) | (go_at_call 10; refine (CP.out _ HB.out).mono ?_; clear CP HB; rintro e w2 ⟨rfl, hb2⟩; have HB : Hid (Below w.heap.size w w2) := hb2; clear hb2))
        exact ⟨⟨i + 1, by go_num, by omega, HB.out⟩, by simp [intOf]; omega⟩
    · go_wp2
      go_ret
      exact ⟨rfl, hB⟩
theorem walk_of (a b c : ByteArray) (w : World) (hT : Lib.Utf8Tabs 0 1 w) (hlo0 : 0 < w.heap.size) (hlo1 : 1 < w.heap.size) (ha : a.size ≤ 140737488351232) (hb : b.size ≤ 140737488351232) (hc : c.size ≤ 140737488351232) :
    Calls Tryd.prog 7 #[.string a, .string b, .string c] w fun e w' => e = .returned (.bool true) ∧ Below w.heap.size w w' := walk a b c ha hb hc w hT hlo0 hlo1
end Go.Proofs.YtjgeeimkcghmoaaDoor.clusterNear
