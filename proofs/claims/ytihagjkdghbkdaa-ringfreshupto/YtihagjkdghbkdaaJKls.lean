/-
  A ring of package ring alone, through calls; the law's kills: the document's example. Conditions: those of each theorem.
-/
import Derived.Test.YtihagjkdghbkdaaJKill
import Derived.Test.YtihagjkdghbkdaaJYank
namespace Go.Proofs.Ytihagjkdghbkdaa
open Go.RowKit

/-- the ring at pb is s, since w -/
def Ps (w : World) (pb : Nat) (s : Rg) (W : World) : Prop := (∃ v, Pr W w.heap.size pb v s) ∧ Below w.heap.size w W
theorem Ps.below {w W W' : World} {pb : Nat} {s : Rg} (h : Ps w pb s W) (hb : Below W.heap.size W W') : Ps w pb s W' := by
  obtain ⟨⟨v, h1⟩, h2⟩ := h
  exact ⟨⟨v, h1.below hb⟩, h2.trans (hb.mono h2.size)⟩
theorem Ps.step {w W W' : World} {pb : Nat} {s s' : Rg} {v v' : Value} (h1 : Pr W w.heap.size pb v s) (h2 : Below w.heap.size w W) (hp : Pr W' w.heap.size pb v' s') (hc : Ch pb v.ownBlock W W') : Ps w pb s' W' :=
  ⟨⟨v', hp⟩, hc.low h2 (Nat.le_refl _) h1.low (fun _ e => (h1.blk e).2.1)⟩
theorem new_ps {b : Int} (hb : -9223372036854775808 ≤ b ∧ b ≤ 9223372036854775807) {w W : World} (h : Below w.heap.size w W) : Calls Try.prog 10 #[.int .i64 b] W fun e W' => ∃ pb, e = .returned (.pointer (some ⟨pb, 0, none⟩)) ∧ Ps w pb (Rg.new b) W' ∧ w.heap.size ≤ pb := by
  refine (new_any hb W w.heap.size h.size).mono ?_
  rintro e W' ⟨rfl, h1, h2⟩
  exact ⟨_, rfl, ⟨⟨_, h1⟩, h.trans (h2.mono h.size)⟩, h.size⟩
section
variable {w W : World} {pb : Nat} {s : Rg}
theorem kill_ps (h : Ps w pb s W) {t : ByteArray} (ht : t.size ≤ 35184372088832) (hf : s.Fit 35184372088832) (a : Bool) : Calls Try.prog 16 #[.pointer (some ⟨pb, 0, none⟩), .string t, .bool a] W fun e W' => e = .returned (.bool (s.kept t)) ∧ Ps w pb (s.kill t a) W' := by
  obtain ⟨⟨v, h1⟩, h2⟩ := h
  exact (kill_any h1 ht hf a).mono fun e W' ⟨e1, v', q1, q2, _⟩ => ⟨e1, Ps.step h1 h2 q1 q2⟩
theorem copy_ps (h : Ps w pb s W) {t : ByteArray} (ht : t.size ≤ 35184372088832) : Calls Try.prog 22 #[.pointer (some ⟨pb, 0, none⟩), .string t] W fun e W' => e = .returned (.bool (s.kept t)) ∧ Ps w pb (s.copy t) W' := by
  obtain ⟨⟨v, h1⟩, h2⟩ := h
  exact (copy_any h1 ht).mono fun e W' ⟨e1, v', q1, q2, _⟩ => ⟨e1, Ps.step h1 h2 q1 q2⟩
theorem stop_ps (h : Ps w pb s W) : Calls Try.prog 17 #[.pointer (some ⟨pb, 0, none⟩)] W fun e W' => e = .returned (.tuple #[]) ∧ Ps w pb s.stop W' := by
  obtain ⟨⟨v, h1⟩, h2⟩ := h
  exact (stop_any h1).mono fun e W' ⟨e1, q1, q2⟩ => ⟨e1, Ps.step h1 h2 q1 q2.more⟩
/-- what the ring's own block is not stays -/
theorem yank_ps (h : Ps w pb s W) (hf : s.Fit 281474976710656) : Calls Try.prog 19 #[.pointer (some ⟨pb, 0, none⟩)] W fun e W' => e = .returned (.tuple #[.string s.yankT, .int .i64 s.yankE]) ∧ Ps w pb s.yank W' ∧ Ch pb none W W' := by
  obtain ⟨⟨v, h1⟩, h2⟩ := h
  exact (yank_any h1 hf).mono fun e W' ⟨e1, q1, q2⟩ => ⟨e1, Ps.step h1 h2 q1 q2.more, q2⟩
theorem pop_ps (h : Ps w pb s W) (hf : s.Fit 281474976710656) : Calls Try.prog 20 #[.pointer (some ⟨pb, 0, none⟩)] W fun e W' => e = .returned (.tuple #[.string s.popA, .string s.popB, .int .i64 s.popE]) ∧ Ps w pb s.pop W' ∧ Ch pb none W W' := by
  obtain ⟨⟨v, h1⟩, h2⟩ := h
  exact (pop_any h1 hf).mono fun e W' ⟨e1, q1, q2⟩ => ⟨e1, Ps.step h1 h2 q1 q2.more, q2⟩
theorem all_ps (h : Ps w pb s W) (hf : s.Fit 281474976710656) : Calls Try.prog 18 #[.pointer (some ⟨pb, 0, none⟩)] W fun e W' => ∃ a c, e = .returned (.slice a s.es.length c) ∧ W'.ownsRow W.heap.size 9 1 (.slice a s.es.length c) s.es.length (sv s.es) ∧ Ps w pb s W' ∧ Below W.heap.size W W' := by
  obtain ⟨⟨v, h1⟩, h2⟩ := id h
  refine (all_any h1 hf).mono ?_
  rintro e W' ⟨u, rfl, q1, q2⟩
  obtain ⟨a, c, rfl, _⟩ := row_slice q1
  exact ⟨a, c, rfl, q1, h.below q2, q2⟩
theorem killing_ps (h : Ps w pb s W) : Calls Try.prog 23 #[.pointer (some ⟨pb, 0, none⟩)] W fun e W' => e = .returned (.bool (decide (s.st = 1))) ∧ W' = W := by
  obtain ⟨⟨v, h1⟩, h2⟩ := h
  exact killing_any h1
theorem yanking_ps (h : Ps w pb s W) : Calls Try.prog 26 #[.pointer (some ⟨pb, 0, none⟩)] W fun e W' => e = .returned (.bool (decide (s.st = 2))) ∧ W' = W := by
  obtain ⟨⟨v, h1⟩, h2⟩ := h
  exact yanking_any h1
theorem bound_ps (h : Ps w pb s W) : Calls Try.prog 24 #[.pointer (some ⟨pb, 0, none⟩)] W fun e W' => e = .returned (.int .i64 (s.b : Int)) ∧ W' = W := by
  obtain ⟨⟨v, h1⟩, h2⟩ := h
  exact bound_any h1
end
theorem fit_small {K : Nat} {l : Tl} (h : ∀ s ∈ l, s.size ≤ 3) (hK : 3 ≤ K) {b st pl : Nat} : (⟨b, l, st, pl⟩ : Rg).Fit K := fun s hs => Nat.le_trans (h s hs) hK
theorem row_two {W : World} {base : Nat} {a : Option Addr} {c : Nat} {x y : ByteArray} (h : W.ownsRow base 9 1 (.slice a 2 c) 2 (sv [x, y])) : ∃ g, a = some ⟨g, 0, none⟩ ∧ base ≤ g ∧ g < W.heap.size ∧ W.cell? ⟨g, 0, none⟩ = some (.string x) ∧ W.cell? ⟨g, 1, none⟩ = some (.string y) := by
  obtain ⟨g, rfl, h0⟩ := row_at (k := 0) h rfl
  obtain ⟨g', e, h1⟩ := row_at (k := 1) h rfl
  cases e
  exact ⟨g, rfl, (row_blk h rfl).2.1, (row_blk h rfl).2.2, h0, h1⟩
set_option maxRecDepth 100000 in
set_option maxHeartbeats 2000000 in
theorem kills_any (w : World) : Calls Try.prog 9 #[] w fun e w' => e = .returned (.bool true) ∧ Below w.heap.size w w' := by
  have e0 : Rg.new 2 = ⟨2, [], 0, 0⟩ := by simp [Rg.new]
  have e1 : (⟨2, [], 0, 0⟩ : Rg).kill ⟨#[97]⟩ false = ⟨2, [⟨#[97]⟩], 1, 0⟩ := by simp [Rg.kill]
  have e2 : (⟨2, [⟨#[97]⟩], 1, 0⟩ : Rg).kill ⟨#[98]⟩ false = ⟨2, [⟨#[97, 98]⟩], 1, 0⟩ := by simp [Rg.kill, Rg.joined]; rfl
  have e3 : (⟨2, [⟨#[97, 98]⟩], 1, 0⟩ : Rg).kill ⟨#[99]⟩ true = ⟨2, [⟨#[99, 97, 98]⟩], 1, 0⟩ := by simp [Rg.kill, Rg.joined]; rfl
  have e4 : (⟨2, [⟨#[99, 97, 98]⟩], 0, 0⟩ : Rg).kill ⟨#[100]⟩ false = ⟨2, [⟨#[100]⟩, ⟨#[99, 97, 98]⟩], 1, 0⟩ := by simp [Rg.kill]
  have CN : Hid (Calls Try.prog 10 #[.int .i64 2] w fun e W' => ∃ pb, e = .returned (.pointer (some ⟨pb, 0, none⟩)) ∧ Hid (Ps w pb ⟨2, [], 0, 0⟩ W' ∧ w.heap.size ≤ pb)) := e0 ▸ (new_ps (b := 2) (by omega) (Below.refl _ w)).mono fun e W' ⟨pb, q1, q2, q3⟩ => ⟨pb, q1, e0 ▸ q2, q3⟩
  have C1 : Hid (∀ W pb, Ps w pb ⟨2, [], 0, 0⟩ W → Calls Try.prog 16 #[.pointer (some ⟨pb, 0, none⟩), .string ⟨#[97]⟩, .bool false] W fun e W' => e = .returned (.bool true) ∧ Hid (Ps w pb ⟨2, [⟨#[97]⟩], 1, 0⟩ W')) := fun W pb h => (kill_ps h (by decide) (fun s hs => by cases hs) false).mono fun e W' ⟨q1, q2⟩ => ⟨by rw [q1]; simp [Rg.kept], e1 ▸ q2⟩
  have C2 : Hid (∀ W pb, Ps w pb ⟨2, [⟨#[97]⟩], 1, 0⟩ W → Calls Try.prog 16 #[.pointer (some ⟨pb, 0, none⟩), .string ⟨#[98]⟩, .bool false] W fun e W' => e = .returned (.bool true) ∧ Hid (Ps w pb ⟨2, [⟨#[97, 98]⟩], 1, 0⟩ W')) := fun W pb h => (kill_ps h (by decide) (fit_small (by simp; decide) (by decide)) false).mono fun e W' ⟨q1, q2⟩ => ⟨by rw [q1]; simp [Rg.kept], e2 ▸ q2⟩
  have C3 : Hid (∀ W pb, Ps w pb ⟨2, [⟨#[97, 98]⟩], 1, 0⟩ W → Calls Try.prog 16 #[.pointer (some ⟨pb, 0, none⟩), .string ⟨#[99]⟩, .bool true] W fun e W' => e = .returned (.bool true) ∧ Hid (Ps w pb ⟨2, [⟨#[99, 97, 98]⟩], 1, 0⟩ W')) := fun W pb h => (kill_ps h (by decide) (fit_small (by simp; decide) (by decide)) true).mono fun e W' ⟨q1, q2⟩ => ⟨by rw [q1]; simp [Rg.kept], e3 ▸ q2⟩
  have C4 : Hid (∀ W pb, Ps w pb ⟨2, [⟨#[99, 97, 98]⟩], 1, 0⟩ W → Calls Try.prog 23 #[.pointer (some ⟨pb, 0, none⟩)] W fun e W' => e = .returned (.bool true) ∧ W' = W) := fun W pb h => (killing_ps h).mono fun e W' ⟨q1, q2⟩ => ⟨by rw [q1]; rfl, q2⟩
  have C5 : Hid (∀ W pb, Ps w pb ⟨2, [⟨#[99, 97, 98]⟩], 1, 0⟩ W → Calls Try.prog 17 #[.pointer (some ⟨pb, 0, none⟩)] W fun e W' => e = .returned (.tuple #[]) ∧ Hid (Ps w pb ⟨2, [⟨#[99, 97, 98]⟩], 0, 0⟩ W')) := fun W pb h => (stop_ps h).mono fun e W' ⟨q1, q2⟩ => ⟨q1, q2⟩
  have C6 : Hid (∀ W pb, Ps w pb ⟨2, [⟨#[99, 97, 98]⟩], 0, 0⟩ W → Calls Try.prog 16 #[.pointer (some ⟨pb, 0, none⟩), .string ⟨#[100]⟩, .bool false] W fun e W' => e = .returned (.bool true) ∧ Hid (Ps w pb ⟨2, [⟨#[100]⟩, ⟨#[99, 97, 98]⟩], 1, 0⟩ W')) := fun W pb h => (kill_ps h (by decide) (fit_small (by simp; decide) (by decide)) false).mono fun e W' ⟨q1, q2⟩ => ⟨by rw [q1]; simp [Rg.kept], e4 ▸ q2⟩
  have C7 : Hid (∀ W pb, Ps w pb ⟨2, [⟨#[100]⟩, ⟨#[99, 97, 98]⟩], 1, 0⟩ W → Calls Try.prog 18 #[.pointer (some ⟨pb, 0, none⟩)] W fun e W' => ∃ g c, e = .returned (.slice (some ⟨g, 0, none⟩) 2 c) ∧ Hid (Ps w pb ⟨2, [⟨#[100]⟩, ⟨#[99, 97, 98]⟩], 1, 0⟩ W' ∧ pb ≠ g ∧ g < W'.heap.size ∧ W'.cell? ⟨g, 0, none⟩ = some (.string ⟨#[100]⟩) ∧ W'.cell? ⟨g, 1, none⟩ = some (.string ⟨#[99, 97, 98]⟩))) := fun W pb h => (all_ps h (fit_small (by simp; decide) (by decide))).mono (by
    rintro e W' ⟨a, c, rfl, q1, q2, q3⟩
    obtain ⟨g, rfl, k1, k2, k3, k4⟩ := row_two q1
    obtain ⟨⟨v, hv⟩, _⟩ := h
    have := hv.lt
    exact ⟨g, c, rfl, q2, by omega, k2, k3, k4⟩)
  have C8 : Hid (∀ W pb g, (Ps w pb ⟨2, [⟨#[100]⟩, ⟨#[99, 97, 98]⟩], 1, 0⟩ W ∧ pb ≠ g ∧ g < W.heap.size ∧ W.cell? ⟨g, 0, none⟩ = some (.string ⟨#[100]⟩) ∧ W.cell? ⟨g, 1, none⟩ = some (.string ⟨#[99, 97, 98]⟩)) → Calls Try.prog 19 #[.pointer (some ⟨pb, 0, none⟩)] W fun e W' => e = .returned (.tuple #[.string ⟨#[100]⟩, .int .i64 0]) ∧ W'.cell? ⟨g, 0, none⟩ = some (.string ⟨#[100]⟩) ∧ W'.cell? ⟨g, 1, none⟩ = some (.string ⟨#[99, 97, 98]⟩) ∧ Hid (Ps w pb ⟨2, [⟨#[100]⟩, ⟨#[99, 97, 98]⟩], 2, 0⟩ W')) := fun W pb g h => (yank_ps h.1 (fit_small (by simp; decide) (by decide))).mono (by
    rintro e W' ⟨rfl, q1, q2⟩
    have hg := q2.2.2.2.2 g h.2.2.1 (fun e => h.2.1 e.symm) (by simp)
    exact ⟨by simp [Rg.yankT, Rg.yankE], (World.cell?_of_block hg).trans h.2.2.2.1, (World.cell?_of_block hg).trans h.2.2.2.2, (by have := q1; simp [Rg.yank] at this; exact this)⟩)
  have C9 : Hid (∀ W pb, Ps w pb ⟨2, [⟨#[100]⟩, ⟨#[99, 97, 98]⟩], 2, 0⟩ W → Calls Try.prog 26 #[.pointer (some ⟨pb, 0, none⟩)] W fun e W' => e = .returned (.bool true) ∧ W' = W) := fun W pb h => (yanking_ps h).mono fun e W' ⟨q1, q2⟩ => ⟨by rw [q1]; rfl, q2⟩
  clear e0 e1 e2 e3 e4
  go_enter Try.func9, Try.ntmps9
  go_wp2_with (first
    | (go_at_call 10; refine CN.out.mono ?_; clear CN; rintro e w0 ⟨pb, rfl, HN⟩; have H0 : Hid _ := HN.out.1)
    | (go_at_call 16; refine (C1.out _ _ H0.out).mono ?_; clear C1 H0; rintro e w1 ⟨rfl, H1⟩)
    | (go_at_call 16; refine (C2.out _ _ H1.out).mono ?_; clear C2 H1; rintro e w2 ⟨rfl, H2⟩)
    | (go_at_call 16; refine (C3.out _ _ H2.out).mono ?_; clear C3 H2; rintro e w3 ⟨rfl, H3⟩)
    | (go_at_call 23; refine (C4.out _ _ H3.out).mono ?_; clear C4; rintro e w4 ⟨rfl, hw4⟩; subst hw4)
    | (go_at_call 17; refine (C5.out _ _ H3.out).mono ?_; clear C5 H3; rintro e w5 ⟨rfl, H5⟩)
    | (go_at_call 16; refine (C6.out _ _ H5.out).mono ?_; clear C6 H5; rintro e w6 ⟨rfl, H6⟩)
    | (go_at_call 18; refine (C7.out _ _ H6.out).mono ?_; clear C7 H6; rintro e w7 ⟨g7, c7, rfl, H7⟩)
    | (go_at_call 19; refine (C8.out _ _ _ H7.out).mono ?_; clear C8 H7; rintro e w8 ⟨rfl, y0, y1, H8⟩)
    | (go_at_call 26; refine (C9.out _ _ H8.out).mono ?_; clear C9; rintro e w9 ⟨rfl, hw9⟩; subst hw9))
  go_ret
  exact ⟨rfl, H8.out.2⟩
end Go.Proofs.Ytihagjkdghbkdaa
