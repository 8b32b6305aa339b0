/-
  The law's own lays: the document's examples hold. No conditions.
-/
import Derived.Test.YtolafffpgkgadaaEAll
import Derived.Test.YtolafffpgkgadaaESame
import Derived.Test.YtolafffpgkgadaaEMovB
namespace Go.Proofs.Ytolafffpgkgadaa
open Go.RowKit

/-- the marks of the examples -/
def ex5 : Ml := [(98, 3), (65, 1), (64, 2), (98, 4), (99, -1)]
theorem ex_ld : ld [] ex5 = [(64, 2), (98, 4)] := by decide
theorem rdk_alloc (w : World) (l : Ml) (vs : Array Value) (h : vs.toList = kcl l) : RdK (w.alloc (.cells vs 26)) (.slice (some ⟨w.heap.size, 0, none⟩) l.length l.length) l := by
  refine ⟨_, _, rfl, fun _ => ⟨w.heap.size, 0, rfl, by simp, fun k p hk => ?_⟩⟩
  obtain ⟨q0, q1⟩ := kcl_get l k p hk
  rw [← h] at q0 q1
  have hn := World.alloc_heap_new w (.cells vs 26)
  unfold World.cell?
  simp only [hn]
  exact ⟨by simpa using q0, by simpa using q1⟩
theorem rdd_alloc (w : World) (d : Dl) : RdD (w.alloc (.cells #[.int .i64 d.a, .string d.o, .string d.i] 63)) (.slice (some ⟨w.heap.size, 0, none⟩) 1 1) [d] := by
  obtain ⟨z0, z1, z2⟩ := new3 w (.int .i64 d.a) (.string d.o) (.string d.i) 63
  refine ⟨_, _, rfl, fun _ => ⟨w.heap.size, 0, rfl, by simp, fun k p hk => ?_⟩⟩
  match k, hk with
  | 0, hk => cases hk; exact ⟨z0, z1, z2⟩
  | k + 1, hk => simp at hk
theorem ex_fit : Fit8 ex5 := by
  intro p hp
  simp [ex5] at hp
  rcases hp with rfl | rfl | rfl | rfl | rfl <;> simp [i64ok]
def exd : Dl := ⟨3, ⟨#[97, 98]⟩, ⟨#[120, 121, 122]⟩⟩
theorem exd_fit : ∀ d ∈ [exd], d.fit := by
  intro d hd
  rw [List.mem_singleton.1 hd]
  refine ⟨?_, ?_, ?_⟩
  · simp [exd, i64ok]
  · decide
  · decide
theorem exd_mvs : mvs 5 [exd] = 6 := by decide
set_option maxRecDepth 100000 in
set_option maxHeartbeats 2000000 in
theorem lays_any (w : World) : Calls Try.prog 8 #[] w fun e w' => e = .returned (.bool true) ∧ Below w.heap.size w w' := by
  have CN : Hid (Calls Try.prog 9 #[.slice (some ⟨w.heap.size, 0, none⟩) 5 5] (w.alloc (.cells #[.int .u8 98, .int .i64 3, .int .u8 65, .int .i64 1, .int .u8 64, .int .i64 2, .int .u8 98, .int .i64 4, .int .u8 99, .int .i64 (-1)] 26)) fun e w' => ∃ s, e = .returned (.pointer (some ⟨s, 0, none⟩)) ∧ ∃ b, St w' s (some b) [(64, 2), (98, 4)] ∧ Below w.heap.size w w') := by
    have hb1 : Below w.heap.size w (w.alloc (.cells #[.int .u8 98, .int .i64 3, .int .u8 65, .int .i64 1, .int .u8 64, .int .i64 2, .int .u8 98, .int .i64 4, .int .u8 99, .int .i64 (-1)] 26)) := (Below.refl _ w).alloc (Nat.le_refl _) _
    refine (new_any (a := some ⟨w.heap.size, 0, none⟩) (N := 5) (cap := 5) (ms := ex5) rfl (by decide) ex_fit (rdk_alloc w ex5 _ rfl)).mono ?_
    rintro e w' ⟨rfl, mb, hs, hb, _⟩
    rw [ex_ld] at hs
    cases mb with
    | none => exact absurd (hs.nil rfl) (by simp)
    | some b => exact ⟨_, rfl, b, hs, hb1.trans (hb.mono hb1.size)⟩
  have CA : Hid (∀ w1 s b, St w1 s (some b) [(64, 2), (98, 4)] → Calls Try.prog 25 #[.pointer (some ⟨s, 0, none⟩)] w1 fun e w' => ∃ a c, e = .returned (.slice a 2 c) ∧ RdK w' (.slice a 2 c) [(64, 2), (98, 4)] ∧ Below w1.heap.size w1 w') := fun w1 s b h => by
    refine (All_own h (by simp) (sort_low (by decide) (by decide))).mono ?_
    rintro e w' ⟨v, rfl, hr, hb⟩
    have hk := RdK.of_row hr
    obtain ⟨a, c, e1, _⟩ := id hk
    subst e1
    exact ⟨a, c, rfl, hk, hb⟩
  have CS : Hid (∀ w1 a c, RdK w1 (.slice a 2 c) [(64, 2), (98, 4)] → Calls Try.prog 30 #[.slice a 2 c, .slice (some ⟨w1.heap.size, 0, none⟩) 2 2] (w1.alloc (.cells #[.int .u8 64, .int .i64 2, .int .u8 98, .int .i64 4] 26)) fun e w' => e = .returned (.bool true) ∧ Below w1.heap.size w1 w') := fun w1 a c h => by
    have hb1 : Below w1.heap.size w1 (w1.alloc (.cells #[.int .u8 64, .int .i64 2, .int .u8 98, .int .i64 4] 26)) := (Below.refl _ w1).alloc (Nat.le_refl _) _
    refine (same_any (l := [(64, 2), (98, 4)]) rfl (by decide) (h.below (Nat.le_refl _) hb1) (rdk_alloc w1 [(64, 2), (98, 4)] _ rfl)).mono ?_
    rintro e w' ⟨rfl, hb⟩
    exact ⟨rfl, hb1.trans (hb.mono hb1.size)⟩
  have CM : Hid (∀ w1, Calls Try.prog 31 #[.int .i64 5, .slice (some ⟨w1.heap.size, 0, none⟩) 1 1] (w1.alloc (.cells #[.int .i64 3, .string ⟨#[97, 98]⟩, .string ⟨#[120, 121, 122]⟩] 63)) fun e w' => e = .returned (.int .i64 6) ∧ Below w1.heap.size w1 w') := fun w1 => by
    have hb1 : Below w1.heap.size w1 (w1.alloc (.cells #[.int .i64 3, .string ⟨#[97, 98]⟩, .string ⟨#[120, 121, 122]⟩] 63)) := (Below.refl _ w1).alloc (Nat.le_refl _) _
    have := Moved_any (N := 1) (cap := 1) (ds := [exd]) rfl (by decide) exd_fit (rdd_alloc w1 exd) 5 (by simp [i64ok])
    rw [exd_mvs] at this
    refine this.mono ?_
    rintro e w' ⟨rfl, hb⟩
    exact ⟨rfl, hb1.trans (hb.mono hb1.size)⟩
  have CP : Hid (∀ w1 v, Calls Try.prog 27 #[v, .int .u8 66, .int .i64 (-1)] w1 fun e w' => e = .returned (.int .i64 13) ∧ w' = w1) := fun w1 v => put_no (n := 66) (a := -1) (by decide) (.inr (by decide)) v w1
  have CQ : Hid (∀ w1 v, Calls Try.prog 27 #[v, .int .u8 98, .int .i64 (-1)] w1 fun e w' => e = .returned (.int .i64 1) ∧ w' = w1) := fun w1 v => put_no (n := 98) (a := -1) (by decide) (.inr (by decide)) v w1
  go_enter Try.func8, Try.ntmps8
  go_wp2_with (first
    | (go_at_call 9; refine CN.out.mono ?_; clear CN; rintro e w2 ⟨s, rfl, b, hs, hb2⟩; have HS : Hid (St w2 s (some b) [(64, 2), (98, 4)] ∧ Below w.heap.size w w2) := ⟨hs, hb2⟩; clear hs hb2)
    | (go_at_call 25; refine (CA.out _ _ _ HS.out.1).mono ?_; clear CA; rintro e w3 ⟨a, c, rfl, hk, hb3⟩; have HK : Hid (RdK w3 (.slice a 2 c) [(64, 2), (98, 4)] ∧ Below w.heap.size w w3) := ⟨hk, HS.out.2.trans (hb3.mono HS.out.2.size)⟩; clear hk hb3 HS)
    | (go_at_call 30; refine (CS.out _ _ _ HK.out.1).mono ?_; clear CS; rintro e w4 ⟨rfl, hb4⟩; have HB4 : Hid (Below w.heap.size w w4) := HK.out.2.trans (hb4.mono HK.out.2.size); clear hb4 HK)
    | (go_at_call 31; refine (CM.out _).mono ?_; clear CM; rintro e w5 ⟨rfl, hb5⟩; have HB5 : Hid (Below w.heap.size w w5) := HB4.out.trans (hb5.mono HB4.out.size); clear hb5 HB4)
    | (go_at_call 27; refine (CP.out _ _).mono ?_; clear CP; rintro e w6 ⟨rfl, rfl⟩)
    | (go_at_call 27; refine (CQ.out _ _).mono ?_; clear CQ; rintro e w7 ⟨rfl, rfl⟩))
  all_goals go_ret
  all_goals exact ⟨rfl, HB5.out⟩
end Go.Proofs.Ytolafffpgkgadaa
