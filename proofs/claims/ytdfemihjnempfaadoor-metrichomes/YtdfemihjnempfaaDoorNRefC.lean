/-
  The walks of the document's own Whole, Range and Join of package metric: what MMath tells. Conditions: the text is so short that its lists can be made.
-/
import Derived.Test.YtdfemihjnempfaaDoorNRefB
namespace Go.Proofs.YtdfemihjnempfaaDoor
open Go.RowKit Bod Wid

set_option maxHeartbeats 1000000 in
theorem rwhole_any (m : Sum) (w : World) : Calls Tryd.prog 13 #[sv m] w fun e W' => e = .returned (.tuple #[.string (if m.by' ≤ 16 then m.hd else ⟨#[]⟩), .bool (decide (m.by' ≤ 16))]) ∧ Below w.heap.size w W' := by
  by_cases h : m.by' ≤ 16
  · rw [if_pos h, decide_eq_true h]
    go_enter Tryd.func13, Tryd.ntmps13
    go_wp2
    exact bodyPost_ret (v := .tuple #[.string m.hd, .bool true]) (by simp [results, Tryd.results13, go_sem]) rfl ⟨rfl, (Below.refl _ w).alloc (Nat.le_refl _) _⟩
  · rw [if_neg h, decide_eq_false h]
    go_enter Tryd.func13, Tryd.ntmps13
    go_wp2
    exact bodyPost_ret (v := .tuple #[.string ⟨#[]⟩, .bool false]) (by simp [results, Tryd.results13, go_sem]) rfl ⟨rfl, (Below.refl _ w).alloc (Nat.le_refl _) _⟩

/-- a range of a text, its ends held to the text -/
def rangeOf (s : ByteArray) (i j : Int) : ByteArray := if min j s.size < min (max i 0) s.size then ByteArray.empty else s.extract (min (max i 0) s.size).toNat (min j s.size).toNat
theorem range_none {s : ByteArray} {i j : Int} {a : Nat} {b : Int} (ha : min (max i 0) s.size = a) (hb : min j s.size = b) (h : b < a) : smr (rangeOf s i j) = sm0 := by
  unfold rangeOf
  rw [ha, hb, if_pos h]
  rfl
theorem range_some {s : ByteArray} {i j : Int} {a b : Nat} (ha : min (max i 0) s.size = a) (hb : min j s.size = b) (h : ¬ b < a) : rangeOf s i j = s.extract a b := by
  unfold rangeOf
  rw [ha, hb, if_neg (by omega)]
  rfl

set_option maxRecDepth 100000 in
set_option maxHeartbeats 2000000 in
theorem rrange_any (s : ByteArray) (i j : Int) (hs : s.size ≤ 4398046511000) (w : World) :
    Calls Tryd.prog 15 #[.string s, .int .i64 i, .int .i64 j] w fun e W' => e = .returned (sv (smr (rangeOf s i j))) ∧ Below w.heap.size w W' := by
  obtain ⟨W0, hW0⟩ : ∃ W0, w.alloc (.cells #[.int .i64 0, .int .i64 0, .int .i64 0, .int .i64 0, .int .i64 0, .string ⟨#[]⟩, .string ⟨#[]⟩] 25) = W0 := ⟨_, rfl⟩
  have HB0 : Hid (Below w.heap.size w W0) := by show Below _ _ _; rw [← hW0]; exact (Below.refl _ w).alloc (Nat.le_refl _) _
  have HZ0 : Hid (W0.heap[w.heap.size]? = some (.cells (scs sm0) 25 (0, 0))) := by show _ = _; rw [← hW0]; exact World.alloc_heap_new w _
  have CM : Hid (∀ x : ByteArray, x.size ≤ 4398046511000 → Calls Tryd.prog 11 #[.string x] W0 fun e W' => e = .returned (sv (smr x)) ∧ W'.heap[w.heap.size]? = some (.cells (scs sm0) 25 (0, 0)) ∧ Below w.heap.size w W') := fun x hx => (rmeasure_any x hx W0).mono fun e W' ⟨h1, h2⟩ => ⟨h1, (h2.block _ (Array.getElem?_eq_some_iff.1 HZ0.out).1).trans HZ0.out, HB0.out.trans (h2.mono HB0.out.size)⟩
  obtain ⟨⟨o0, o1, o2, o3, o4, o5, o6⟩, p0, p1, p2, p3, p4, p5, p6⟩ := box7 HZ0.out
  have hz0 : w.heap.size < W0.heap.size := (Array.getElem?_eq_some_iff.1 HZ0.out).1
  rcases (show i < 0 ∨ (0 ≤ i ∧ i ≤ s.size) ∨ (s.size : Int) < i by omega) with h1 | ⟨h1, h1'⟩ | h1
  · rcases (show (s.size : Int) < j ∨ j ≤ s.size by omega) with h2 | h2
    · have HE : Hid (rangeOf s i j = s.extract 0 s.size) := range_some (by omega) (by omega) (by omega)
      go_enter Tryd.func15, Tryd.ntmps15
      go_wp2_with (go_at_call 11; refine (CM.out _ (by first | omega | (simp; omega) | simp)).mono ?_; clear CM; rintro e w1 ⟨rfl, hz1, hb1⟩; have HB1 : Hid (Below w.heap.size w w1) := hb1; obtain ⟨⟨z0, z1, z2, z3, z4, z5, z6⟩, f0, f1, f2, f3, f4, f5, f6⟩ := box7 hz1; have hl1 : w.heap.size < w1.heap.size := (Array.getElem?_eq_some_iff.1 hz1).1; clear hb1 hz1)
      exact bodyPost_ret (v := sv (smr (rangeOf s _ _))) (by simp [results, Tryd.results15, go_sem, z0, z1, z2, z3, z4, z5, z6, HE.out]) rfl ⟨rfl, set7_below HB1.out _ _ _ _ _ _ _⟩
    · by_cases h3 : j < 0
      · have HE : Hid (smr (rangeOf s i j) = sm0) := range_none (a := 0) (b := j) (by omega) (by omega) (by omega)
        go_enter Tryd.func15, Tryd.ntmps15
        go_wp2
        exact bodyPost_ret (v := sv sm0) (by simp [results, Tryd.results15, go_sem, sm0, o0, o1, o2, o3, o4, o5, o6]) rfl ⟨by rw [HE.out], set7_below HB0.out _ _ _ _ _ _ _⟩
      · obtain ⟨m, rfl⟩ := Int.eq_ofNat_of_zero_le (show 0 ≤ j by omega)
        have HE : Hid (rangeOf s i m = s.extract 0 m) := range_some (by omega) (by omega) (by omega)
        go_enter Tryd.func15, Tryd.ntmps15
        go_wp2_with (go_at_call 11; refine (CM.out _ (by first | omega | (simp; omega) | simp)).mono ?_; clear CM; rintro e w1 ⟨rfl, hz1, hb1⟩; have HB1 : Hid (Below w.heap.size w w1) := hb1; obtain ⟨⟨z0, z1, z2, z3, z4, z5, z6⟩, f0, f1, f2, f3, f4, f5, f6⟩ := box7 hz1; have hl1 : w.heap.size < w1.heap.size := (Array.getElem?_eq_some_iff.1 hz1).1; clear hb1 hz1)
        exact bodyPost_ret (v := sv (smr (rangeOf s _ _))) (by simp [results, Tryd.results15, go_sem, z0, z1, z2, z3, z4, z5, z6, HE.out]) rfl ⟨rfl, set7_below HB1.out _ _ _ _ _ _ _⟩
  · obtain ⟨n, rfl⟩ := Int.eq_ofNat_of_zero_le h1
    clear h1
    rcases (show (s.size : Int) < j ∨ j ≤ s.size by omega) with h2 | h2
    · have HE : Hid (rangeOf s n j = s.extract n s.size) := range_some (by omega) (by omega) (by omega)
      go_enter Tryd.func15, Tryd.ntmps15
      go_wp2_with (go_at_call 11; refine (CM.out _ (by first | omega | (simp; omega) | simp)).mono ?_; clear CM; rintro e w1 ⟨rfl, hz1, hb1⟩; have HB1 : Hid (Below w.heap.size w w1) := hb1; obtain ⟨⟨z0, z1, z2, z3, z4, z5, z6⟩, f0, f1, f2, f3, f4, f5, f6⟩ := box7 hz1; have hl1 : w.heap.size < w1.heap.size := (Array.getElem?_eq_some_iff.1 hz1).1; clear hb1 hz1)
      exact bodyPost_ret (v := sv (smr (rangeOf s _ _))) (by simp [results, Tryd.results15, go_sem, z0, z1, z2, z3, z4, z5, z6, HE.out]) rfl ⟨rfl, set7_below HB1.out _ _ _ _ _ _ _⟩
    · by_cases h3 : j < n
      · have HE : Hid (smr (rangeOf s n j) = sm0) := range_none (a := n) (b := j) (by omega) (by omega) (by omega)
        go_enter Tryd.func15, Tryd.ntmps15
        go_wp2
        exact bodyPost_ret (v := sv sm0) (by simp [results, Tryd.results15, go_sem, sm0, o0, o1, o2, o3, o4, o5, o6]) rfl ⟨by rw [HE.out], set7_below HB0.out _ _ _ _ _ _ _⟩
      · obtain ⟨m, rfl⟩ := Int.eq_ofNat_of_zero_le (show 0 ≤ j by omega)
        have HE : Hid (rangeOf s n m = s.extract n m) := range_some (by omega) (by omega) (by omega)
        go_enter Tryd.func15, Tryd.ntmps15
        go_wp2_with (go_at_call 11; refine (CM.out _ (by first | omega | (simp; omega) | simp)).mono ?_; clear CM; rintro e w1 ⟨rfl, hz1, hb1⟩; have HB1 : Hid (Below w.heap.size w w1) := hb1; obtain ⟨⟨z0, z1, z2, z3, z4, z5, z6⟩, f0, f1, f2, f3, f4, f5, f6⟩ := box7 hz1; have hl1 : w.heap.size < w1.heap.size := (Array.getElem?_eq_some_iff.1 hz1).1; clear hb1 hz1)
        exact bodyPost_ret (v := sv (smr (rangeOf s _ _))) (by simp [results, Tryd.results15, go_sem, z0, z1, z2, z3, z4, z5, z6, HE.out]) rfl ⟨rfl, set7_below HB1.out _ _ _ _ _ _ _⟩
  · rcases (show (s.size : Int) < j ∨ j ≤ s.size by omega) with h2 | h2
    · have HE : Hid (rangeOf s i j = s.extract s.size s.size) := range_some (by omega) (by omega) (by omega)
      go_enter Tryd.func15, Tryd.ntmps15
      go_wp2_with (go_at_call 11; refine (CM.out _ (by first | omega | (simp; omega) | simp)).mono ?_; clear CM; rintro e w1 ⟨rfl, hz1, hb1⟩; have HB1 : Hid (Below w.heap.size w w1) := hb1; obtain ⟨⟨z0, z1, z2, z3, z4, z5, z6⟩, f0, f1, f2, f3, f4, f5, f6⟩ := box7 hz1; have hl1 : w.heap.size < w1.heap.size := (Array.getElem?_eq_some_iff.1 hz1).1; clear hb1 hz1)
      exact bodyPost_ret (v := sv (smr (rangeOf s _ _))) (by simp [results, Tryd.results15, go_sem, z0, z1, z2, z3, z4, z5, z6, HE.out]) rfl ⟨rfl, set7_below HB1.out _ _ _ _ _ _ _⟩
    · by_cases h3 : j < s.size
      · have HE : Hid (smr (rangeOf s i j) = sm0) := range_none (a := s.size) (b := j) (by omega) (by omega) (by omega)
        go_enter Tryd.func15, Tryd.ntmps15
        go_wp2
        exact bodyPost_ret (v := sv sm0) (by simp [results, Tryd.results15, go_sem, sm0, o0, o1, o2, o3, o4, o5, o6]) rfl ⟨by rw [HE.out], set7_below HB0.out _ _ _ _ _ _ _⟩
      · have HE : Hid (rangeOf s i j = s.extract s.size s.size) := range_some (by omega) (by omega) (by omega)
        have h4 : j = s.size := by omega
        subst h4
        go_enter Tryd.func15, Tryd.ntmps15
        go_wp2_with (go_at_call 11; refine (CM.out _ (by first | omega | (simp; omega) | simp)).mono ?_; clear CM; rintro e w1 ⟨rfl, hz1, hb1⟩; have HB1 : Hid (Below w.heap.size w w1) := hb1; obtain ⟨⟨z0, z1, z2, z3, z4, z5, z6⟩, f0, f1, f2, f3, f4, f5, f6⟩ := box7 hz1; have hl1 : w.heap.size < w1.heap.size := (Array.getElem?_eq_some_iff.1 hz1).1; clear hb1 hz1)
        exact bodyPost_ret (v := sv (smr (rangeOf s _ _))) (by simp [results, Tryd.results15, go_sem, z0, z1, z2, z3, z4, z5, z6, HE.out]) rfl ⟨rfl, set7_below HB1.out _ _ _ _ _ _ _⟩
end Go.Proofs.YtdfemihjnempfaaDoor
