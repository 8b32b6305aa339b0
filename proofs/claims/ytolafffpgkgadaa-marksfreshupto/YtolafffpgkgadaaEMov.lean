/-
  Where a place goes by deltas: package marks' moved and Moved, in plain words; the law's far; the document's one and Moved. Conditions: those of each theorem.
-/
import Derived.Test.YtolafffpgkgadaaELoad
import Derived.Test.YtolafffpgkgadaaEIns
namespace Go.Proofs.Ytolafffpgkgadaa
open Go.RowKit

structure Dl where
  a : Int
  o : ByteArray
  i : ByteArray
def Dl.fit (d : Dl) : Prop := i64ok d.a ∧ d.o.size ≤ maxLen ∧ d.i.size ≤ maxLen
def dv (d : Dl) : Value := .agg #[.int .i64 d.a, .string d.o, .string d.i]
/-- where a place goes: as the program reckons it -/
def mvP (p : Int) (d : Dl) : Int := if p ≤ d.a then p else if p - d.a < (d.o.size : Int) then d.a else (p - (d.o.size : Int)) + min (d.i.size : Int) (9223372036854775807 - max (p - (d.o.size : Int)) 0)
/-- a slice that reads as deltas -/
def RdD (W : World) (v : Value) (l : List Dl) : Prop :=
  ∃ a cap, v = .slice a l.length cap ∧ (l ≠ [] → ∃ g o, a = some ⟨g, o, none⟩ ∧ g < W.heap.size ∧ ∀ k d, l[k]? = some d →
    W.cell? ⟨g, o + k * 3, none⟩ = some (.int .i64 d.a) ∧ W.cell? ⟨g, o + k * 3 + 1, none⟩ = some (.string d.o) ∧ W.cell? ⟨g, o + k * 3 + 2, none⟩ = some (.string d.i))
theorem RdD.below {W W' : World} {n : Nat} {v : Value} {l : List Dl} (h : RdD W v l) (hn : W.heap.size ≤ n) (hb : Below n W W') : RdD W' v l := by
  obtain ⟨a, cap, e, h⟩ := h
  refine ⟨a, cap, e, fun h0 => ?_⟩
  obtain ⟨g, o, e, hg, hc⟩ := h h0
  refine ⟨g, o, e, by have := hb.size; omega, fun k x hk => ?_⟩
  obtain ⟨c0, c1, c2⟩ := hc k x hk
  have kp : ∀ i v, W.cell? ⟨g, i, none⟩ = some v → W'.cell? ⟨g, i, none⟩ = some v := fun i v h => (hb.cell (p := ⟨g, i, none⟩) (by simp; omega)).trans h
  exact ⟨kp _ _ c0, kp _ _ c1, kp _ _ c2⟩
theorem new3 (W : World) (x y z : Value) (t : TypeId) : (W.alloc (.cells #[x, y, z] t)).cell? ⟨W.heap.size, 0, none⟩ = some x ∧ (W.alloc (.cells #[x, y, z] t)).cell? ⟨W.heap.size, 1, none⟩ = some y ∧ (W.alloc (.cells #[x, y, z] t)).cell? ⟨W.heap.size, 2, none⟩ = some z := by
  have h := World.alloc_heap_new W (.cells #[x, y, z] t)
  refine ⟨?_, ?_, ?_⟩ <;> (unfold World.cell?; rw [h]; rfl)

set_option maxRecDepth 100000 in
set_option maxHeartbeats 1000000 in
theorem moved_any (p : Int) (hp : i64ok p) (d : Dl) (hd : d.fit) (w : World) :
    Calls Try.prog 45 #[.int .i64 p, dv d] w fun e w' => e = .returned (.int .i64 (mvP p d)) ∧ Below w.heap.size w w' := by
  obtain ⟨a, o, i⟩ := d
  obtain ⟨⟨h1, h2⟩, ho, hi⟩ := hd
  obtain ⟨h3, h4⟩ := hp
  simp only at h1 h2 ho hi
  unfold maxLen at ho hi
  unfold dv
  simp only
  obtain ⟨z0, z1, z2⟩ := new3 w (.int .i64 a) (.string o) (.string i) 63
  have HB : Hid (Below w.heap.size w (w.alloc (.cells #[.int .i64 a, .string o, .string i] 63))) := (Below.refl _ w).alloc (Nat.le_refl _) _
  by_cases c1 : p ≤ a
  · go_enter Try.func45, Try.ntmps45
    go_wp2
    go_ret
    exact ⟨by simp [mvP, c1], HB.out⟩
  · have c1' : a < p := by omega
    have eu : IntKind.u64.wrap (IntKind.u64.wrap p - IntKind.u64.wrap a) = p - a := by simp [IntKind.wrap, IntKind.bits, IntKind.signed]; omega
    have eu2 : IntKind.u64.wrap (p - IntKind.u64.wrap a) = p - a := by simp [IntKind.wrap, IntKind.bits, IntKind.signed]; omega
    have eu3 : IntKind.u64.wrap (IntKind.u64.wrap p - a) = p - a := by simp [IntKind.wrap, IntKind.bits, IntKind.signed]; omega
    have eu4 : IntKind.u64.wrap (p - a) = p - a := by simp [IntKind.wrap, IntKind.bits, IntKind.signed]; omega
    by_cases c2 : p - a < (o.size : Int)
    · have em : mvP p ⟨a, o, i⟩ = a := by
        unfold mvP
        rw [if_neg c1, if_pos c2]
      rw [em]
      go_enter Try.func45, Try.ntmps45
      go_wp2
      all_goals try (exfalso; omega)
      all_goals go_ret
      all_goals exact ⟨rfl, HB.out⟩
    · have es : wrap64 (p - (o.size : Int)) = p - (o.size : Int) := IntWalk.wrap64_in _ (by omega)
      have em : mvP p ⟨a, o, i⟩ = (p - (o.size : Int)) + min (i.size : Int) (9223372036854775807 - max (p - (o.size : Int)) 0) := by
        unfold mvP
        rw [if_neg c1, if_neg c2]
      by_cases c3 : p - (o.size : Int) < 0
      · have e4 : wrap64 (9223372036854775807 : Int) = 9223372036854775807 := IntWalk.wrap64_in _ (by omega)
        have e5 : max (p - (o.size : Int)) 0 = 0 := by omega
        rw [em, e5]
        have c4 : (i.size : Int) ≤ 9223372036854775807 := by omega
        have e6 : min (i.size : Int) (9223372036854775807 - 0) = i.size := by omega
        rw [e6]
        have e7 : wrap64 (p - (o.size : Int) + (i.size : Int)) = p - (o.size : Int) + (i.size : Int) := IntWalk.wrap64_in _ (by omega)
        go_enter Try.func45, Try.ntmps45
        go_wp2
        all_goals try (exfalso; omega)
        all_goals go_ret
        all_goals first | exact ⟨rfl, HB.out⟩ | exact ⟨by simp [e7], HB.out⟩
      · have e5 : max (p - (o.size : Int)) 0 = p - (o.size : Int) := by omega
        have e4 : wrap64 (9223372036854775807 - (p - (o.size : Int))) = 9223372036854775807 - (p - (o.size : Int)) := IntWalk.wrap64_in _ (by omega)
        rw [em, e5]
        by_cases c4 : (i.size : Int) ≤ 9223372036854775807 - (p - (o.size : Int))
        · have e6 : min (i.size : Int) (9223372036854775807 - (p - (o.size : Int))) = i.size := by omega
          rw [e6]
          have e7 : wrap64 (p - (o.size : Int) + (i.size : Int)) = p - (o.size : Int) + (i.size : Int) := IntWalk.wrap64_in _ (by omega)
          go_enter Try.func45, Try.ntmps45
          go_wp2
          all_goals try (exfalso; omega)
          all_goals go_ret
          all_goals first | exact ⟨rfl, HB.out⟩ | exact ⟨by simp [e7], HB.out⟩
        · have e6 : min (i.size : Int) (9223372036854775807 - (p - (o.size : Int))) = 9223372036854775807 - (p - (o.size : Int)) := by omega
          rw [e6]
          have e7 : wrap64 (p - (o.size : Int) + (9223372036854775807 - (p - (o.size : Int)))) = p - (o.size : Int) + (9223372036854775807 - (p - (o.size : Int))) := IntWalk.wrap64_in _ (by omega)
          go_enter Try.func45, Try.ntmps45
          go_wp2
          all_goals try (exfalso; omega)
          all_goals go_ret
          all_goals first | exact ⟨rfl, HB.out⟩ | exact ⟨by simp [e7], HB.out⟩
end Go.Proofs.Ytolafffpgkgadaa
