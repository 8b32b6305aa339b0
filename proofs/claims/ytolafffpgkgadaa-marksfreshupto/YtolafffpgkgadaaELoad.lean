/-
  A slice of marks as it reads; package marks' Load and New. Conditions: those of each theorem.
-/
import Derived.Test.YtolafffpgkgadaaESet
import Derived.RangeFuncNested
namespace Go.Proofs.Ytolafffpgkgadaa
open Go.RowKit

/-- a slice that reads as the marks ms -/
def RdK (W : World) (v : Value) (ms : Ml) : Prop :=
  ∃ a cap, v = .slice a ms.length cap ∧ (ms ≠ [] → ∃ g o, a = some ⟨g, o, none⟩ ∧ g < W.heap.size ∧ ∀ k p, ms[k]? = some p →
    W.cell? ⟨g, o + k * 2, none⟩ = some (.int .u8 (p.1 : Int)) ∧ W.cell? ⟨g, o + k * 2 + 1, none⟩ = some (.int .i64 p.2))
theorem RdK.below {W W' : World} {n : Nat} {v : Value} {l : Ml} (h : RdK W v l) (hn : W.heap.size ≤ n) (hb : Below n W W') : RdK W' v l := by
  obtain ⟨a, cap, e, h⟩ := h
  refine ⟨a, cap, e, fun h0 => ?_⟩
  obtain ⟨g, o, e, hg, hc⟩ := h h0
  refine ⟨g, o, e, by have := hb.size; omega, fun k x hk => ?_⟩
  obtain ⟨c0, c1⟩ := hc k x hk
  have kp : ∀ i v, W.cell? ⟨g, i, none⟩ = some v → W'.cell? ⟨g, i, none⟩ = some v := fun i v h => (hb.cell (p := ⟨g, i, none⟩) (by simp; omega)).trans h
  exact ⟨kp _ _ c0, kp _ _ c1⟩
theorem new2 (W : World) (x y : Value) (t : TypeId) : (W.alloc (.cells #[x, y] t)).cell? ⟨W.heap.size, 0, none⟩ = some x ∧ (W.alloc (.cells #[x, y] t)).cell? ⟨W.heap.size, 1, none⟩ = some y := by
  have h := World.alloc_heap_new W (.cells #[x, y] t)
  constructor <;> (unfold World.cell?; rw [h]; rfl)

set_option maxRecDepth 100000 in
set_option maxHeartbeats 1000000 in
theorem load_any {w : World} {sb : Nat} {mb : Option Nat} {L : Ml} (h : St w sb mb L) {a : Option Addr} {N cap : Nat} {ms : Ml} (hN : ms.length = N) (hl : N ≤ 140737488351232) (hf : Fit8 ms) (hR : ∀ W', Ch sb mb w W' → RdK W' (.slice a N cap) ms) :
    Calls Try.prog 18 #[.pointer (some ⟨sb, 0, none⟩), .slice a N cap] w fun e w' => e = .returned (.tuple #[]) ∧ ∃ mb', St w' sb mb' (ld [] ms) ∧ Ch sb mb w w' ∧ Nw w mb mb' := by
  have CC := clear_any h
  have HR : Hid (∀ W', Ch sb mb w W' → RdK W' (.slice a N cap) ms) := hR
  have HF : Hid (ms.length = N ∧ Fit8 ms) := ⟨hN, hf⟩
  clear h hR hN hf
  go_enter Try.func18, Try.ntmps18
  go_wp2_with (go_at_call 21; refine CC.mono ?_; rintro e w1 ⟨rfl, hs1, hc1⟩; have HS1 : Hid (St w1 sb mb [] ∧ Ch sb mb w w1) := ⟨hs1, hc1⟩; clear hs1 hc1)
  go_loopw [10] (fun t wr => ∃ k : Nat, k ≤ N ∧ t = .int .i64 k ∧ ∃ mb', Hid (St wr sb mb' (ld [] (ms.take k)) ∧ Ch sb mb w wr ∧ Nw w mb mb')) (fun t _ => N - (intOf t).toNat)
  case atStart => exact ⟨0, Nat.zero_le _, rfl, mb, HS1.out.1, HS1.out.2, Nw.refl _ _⟩
  case round =>
    obtain ⟨k, hk, rfl, mb', HS⟩ := hrel
    clear HS1
    by_cases hlt : k < N
    · obtain ⟨p, hp⟩ : ∃ p, ms[k]? = some p := ⟨ms[k]'(by rw [HF.out.1]; exact hlt), List.getElem?_eq_getElem _⟩
      have hpf := HF.out.2 p (List.mem_of_getElem? hp)
      obtain ⟨a', cap', ev, hrd⟩ := HR.out _ HS.out.2.1
      cases ev
      obtain ⟨g, o, rfl, hg, hcs⟩ := hrd (fun e => by rw [e] at hp; cases hp)
      obtain ⟨y0, y1⟩ := hcs k p hp
      have hB : Below wr.heap.size wr (wr.alloc (.cells #[.int .u8 (p.1 : Int), .int .i64 p.2] 26)) := (Below.refl _ wr).alloc (Nat.le_refl _) _
      have CP := put_st (HS.out.1.below hB) hpf.1 hpf.2
      have HB : Hid (Below wr.heap.size wr (wr.alloc (.cells #[.int .u8 (p.1 : Int), .int .i64 p.2] 26))) := hB
      obtain ⟨z0, z1⟩ := new2 wr (.int .u8 (p.1 : Int)) (.int .i64 p.2) 26
      have HT : Hid (ld [] (ms.take (k + 1)) = putL p.1 p.2 (ld [] (ms.take k))) := by
        show ld [] (ms.take (k + 1)) = _
        rw [List.take_add_one, hp]
        exact ld_snoc _ _ _
      clear hrd hcs hp hpf hB
      go_wp2_with (go_at_call 27; refine CP.mono ?_; rintro e w2 ⟨rfl, mb2, hs2, hc2, hn2⟩; have HS2 : Hid (St w2 sb mb2 (putL p.1 p.2 (ld [] (ms.take k))) ∧ Ch sb mb' (wr.alloc (.cells #[.int .u8 (p.1 : Int), .int .i64 p.2] 26)) w2 ∧ Nw (wr.alloc (.cells #[.int .u8 (p.1 : Int), .int .i64 p.2] 26)) mb' mb2) := ⟨hs2, hc2, hn2⟩; clear hs2 hc2 hn2)
      refine ⟨⟨k + 1, by omega, by go_num, mb2, ?_⟩, by simp [intOf]; omega⟩
      obtain ⟨q1, q2, q3⟩ := HS2.out
      obtain ⟨r1, r2, r3⟩ := HS.out
      have hs1 := HB.out.size
      exact ⟨HT.out ▸ q1, (r2.trans r3 (Ch.below HB.out)).trans r3 q2, r3.trans (Nat.le_trans r2.2.2.2.1 hs1) q3⟩
    · go_wp2
      go_end0
      have : k = N := by omega
      subst this
      obtain ⟨r1, r2, r3⟩ := HS.out
      rw [List.take_of_length_le (by rw [HF.out.1]; exact Nat.le_refl _)] at r1
      exact ⟨rfl, mb', r1, r2, r3⟩
set_option maxRecDepth 100000 in
/-- a new set with the marks ms -/
theorem new_any {w : World} {a : Option Addr} {N cap : Nat} {ms : Ml} (hN : ms.length = N) (hl : N ≤ 140737488351232) (hf : Fit8 ms) (hR : RdK w (.slice a N cap) ms) :
    Calls Try.prog 9 #[.slice a N cap] w fun e w' => e = .returned (.pointer (some ⟨w.heap.size, 0, none⟩)) ∧ ∃ mb, St w' w.heap.size mb (ld [] ms) ∧ Below w.heap.size w w' ∧ ∀ b, mb = some b → w.heap.size < b := by
  obtain ⟨w0, hw0⟩ : ∃ w0, w0 = w.alloc (.cells #[.map none] 49) := ⟨_, rfl⟩
  have h0 : St w0 w.heap.size none [] := ⟨by rw [hw0]; exact World.alloc_heap_new w _, fun _ => rfl, fun b e => by cases e⟩
  have hb : Below w.heap.size w w0 := by rw [hw0]; exact (Below.refl _ w).alloc (Nat.le_refl _) _
  have CL := load_any h0 (a := a) (N := N) (cap := cap) hN hl hf (fun W' hc => hR.below (Nat.le_refl _) (hc.low hb (Nat.le_refl _) (Nat.le_refl _) (fun k e => by cases e)))
  have hs : w.heap.size < w0.heap.size := h0.lt
  clear hR h0
  rw [hw0] at CL
  go_enter Try.func9, Try.ntmps9
  go_wp2_with (go_at_call 18; refine CL.mono ?_; rintro e w2 ⟨rfl, mb2, hs2, hc2, hn2⟩)
  go_ret
  subst hw0
  refine ⟨rfl, mb2, hs2, hc2.low hb (Nat.le_refl _) (Nat.le_refl _) (fun k e => by cases e), fun b e => ?_⟩
  rcases hn2 with h | ⟨k, h, hk⟩
  · rw [h] at e; cases e
  · rw [h] at e; cases e; omega
end Go.Proofs.Ytolafffpgkgadaa
