/-
  Package change's times: a step taken so many times. Conditions: those of each theorem.
-/
import Derived.Test.YtiejollfeggeoaaDoorFBas
namespace Go.Proofs.YtiejollfeggeoaaDoor
open Go.RowKit Go.Shelf Bod Wid

/-- a function value that leads from boundaries of s to boundaries, as g does -/
structure Stp (w : World) (s : ByteArray) (g : Nat → Nat) (fv : Value) : Prop where
  ex : ∃ f, fv = .func (.func f) #[] #[] ∧ (∀ args W, (callFunc f args).run Tryd.prog W = .ok (.enter f args) W) ∧
    ∀ W (b : Nat), Below w.heap.size w W → cbZ s b = true → Calls Tryd.prog f #[.string s, .int .i64 b] W fun r W' => r = .returned (.int .i64 (g b : Nat)) ∧ Below W.heap.size W W'
  cb : ∀ b : Nat, cbZ s b = true → cbZ s (g b) = true
/-- the closure that times makes, with its two boxes -/
structure Tb (w : World) (c : Nat) (fv : Value) (b : Nat) (W : World) : Prop where
  bel : Below w.heap.size w W
  c : W.cell? ⟨b, 0, none⟩ = some (.int .i64 c)
  f : W.cell? ⟨b + 1, 0, none⟩ = some fv
  lt : b + 1 < W.heap.size
theorem Tb.below {w W X : World} {c b : Nat} {fv : Value} (h : Tb w c fv b W) (hb : Below W.heap.size W X) : Tb w c fv b X :=
  ⟨below_on h.bel hb, (hb.cell (p := ⟨b, 0, none⟩) (by have := h.lt; show b < _; omega)).trans h.c, (hb.cell (p := ⟨b + 1, 0, none⟩) h.lt).trans h.f, Nat.lt_of_lt_of_le h.lt hb.size⟩
set_option maxRecDepth 100000 in
set_option maxHeartbeats 1000000 in
theorem times_any (w : World) (c : Nat) (f : Nat) : Calls Tryd.prog 71 #[.int .i64 c, .func (.func f) #[] #[]] w fun e W' => ∃ b, e = .returned (.func (.func 87) #[] #[.pointer (some ⟨b, 0, none⟩), .pointer (some ⟨b + 1, 0, none⟩)]) ∧ Tb w c (.func (.func f) #[] #[]) b W' := by
  go_enter Tryd.func71, Tryd.ntmps71
  go_wp2
  refine bodyPost_ret (v := .func (.func 87) #[] #[.pointer (some ⟨w.heap.size, 0, none⟩), .pointer (some ⟨w.heap.size + 1, 0, none⟩)]) (by simp [results, Tryd.results71, go_sem]) rfl ⟨_, rfl, ((Below.refl _ w).alloc (Nat.le_refl _) _).alloc (by simp) _, ?_, ?_, by simp⟩
  · unfold World.cell?
    rw [Below.heap_alloc _ _ _ (by simp), World.alloc_heap_new]
    rfl
  · unfold World.cell?
    have := World.alloc_heap_new (w.alloc (.cells #[.int .i64 c] 3)) (.cells #[.func (.func f) #[] #[]] 111)
    rw [show (w.alloc (.cells #[.int .i64 c] 3)).heap.size = w.heap.size + 1 by simp] at this
    rw [this]
    rfl
set_option maxRecDepth 100000 in
set_option maxHeartbeats 1000000 in
theorem times1_any {w : World} {s : ByteArray} {g : Nat → Nat} {fv : Value} (h : Stp w s g fv) {c b : Nat} {W : World} (hW : Tb w c fv b W) (hs : s.size ≤ 1099511627776) (hc : c ≤ 1000) (a : Nat) (ha : cbZ s a = true) :
    Calls Tryd.prog 87 #[.string s, .int .i64 a, .pointer (some ⟨b, 0, none⟩), .pointer (some ⟨b + 1, 0, none⟩)] W fun e W' => e = .returned (.int .i64 (rpt g c a : Nat)) ∧ Below W.heap.size W W' := by
  obtain ⟨⟨f, rfl, en, C⟩, hcb⟩ := h
  have HT : Hid (∀ X, Below W.heap.size W X → X.cell? ⟨b, 0, none⟩ = some (.int .i64 c) ∧ X.cell? ⟨b + 1, 0, none⟩ = some (.func (.func f) #[] #[])) := fun X hX => ⟨(hW.below hX).c, (hW.below hX).f⟩
  have HC : Hid (∀ X (p : Nat), Below W.heap.size W X → cbZ s p = true → Calls Tryd.prog f #[.string s, .int .i64 p] X fun r W' => r = .returned (.int .i64 (g p : Nat)) ∧ Hid (Below W.heap.size W W')) := fun X p hX hp => (C X p (below_on hW.bel hX) hp).mono fun r W' ⟨q1, q2⟩ => ⟨q1, below_on hX q2⟩
  have HP : Hid (∀ p : Nat, cbZ s p = true → cbZ s (g p) = true ∧ p ≤ 1099511627776) := fun p hp => ⟨hcb p hp, by have := cb_le hp; omega⟩
  obtain ⟨R, hR⟩ : ∃ R, rpt g c a = R := ⟨_, rfl⟩
  have HI : Hid (cbZ s a = true ∧ rpt g c a = R) := ⟨ha, hR⟩
  have hc' : (c : Int) ≤ 1000 := by omega
  have HB0 : Hid (Below W.heap.size W W) := Below.refl _ _
  rw [hR]
  clear C hW hR ha hcb
  obtain ⟨c0, -⟩ := HT.out W HB0.out
  go_enter Tryd.func87, Tryd.ntmps87
  go_wp2
  go_loopw [1, 8] (fun t1 t8 wr => ∃ (p k : Nat), t1 = .int .i64 p ∧ t8 = .int .i64 k ∧ k ≤ c ∧ Hid (cbZ s p = true ∧ rpt g (c - k) p = R) ∧ Hid (Below W.heap.size W wr)) (fun _ t8 _ => c - (intOf t8).toNat)
  case atStart => exact ⟨a, 0, rfl, rfl, Nat.zero_le _, HI, HB0⟩
  case round =>
    clear HI HB0 c0
    obtain ⟨p, k, rfl, rfl, hk, HQ, HB⟩ := hrel
    obtain ⟨hn, hbl⟩ := HP.out p HQ.out.1
    obtain ⟨-, c1⟩ := HT.out wr HB.out
    by_cases hlt : k < c
    · have hlt' : (k : Int) < c := by omega
      have HN : Hid (cbZ s (g p) = true ∧ rpt g (c - (k + 1)) (g p) = R) := by
        refine ⟨hn, ?_⟩
        have := HQ.out.2
        rw [show c - k = (c - (k + 1)) + 1 by omega] at this
        exact this
      have CB : Hid (Calls Tryd.prog f #[.string s, .int .i64 p] wr fun r W' => r = .returned (.int .i64 (g p : Nat)) ∧ Hid (Below W.heap.size W W')) := HC.out wr p HB.out HQ.out.1
      generalize g p = p' at HN CB hn
      clear HQ hn
      go_wp2_with (go_at_fn f; refine CB.out.mono ?_; clear CB HB; rintro r w1 ⟨rfl, HB⟩)
      exact ⟨⟨p', k + 1, rfl, by go_num, by omega, HN, HB⟩, by simp [intOf]; omega⟩
    · have hlt' : ¬ ((k : Int) < c) := by omega
      have HR : Hid (p = R) := by have := HQ.out.2; rw [show c - k = 0 by omega] at this; exact this
      clear HQ hn
      go_wp2
      go_ret
      exact ⟨ret_int (by rw [HR.out]), HB.out⟩
end Go.Proofs.YtiejollfeggeoaaDoor
