/-
  Package change's makers that delete and kill what steps lead over. Conditions: those of each theorem.
-/
import Derived.Test.YtiejollfeggeoaaDoorFTim
namespace Go.Proofs.YtiejollfeggeoaaDoor
open Go.RowKit Go.Shelf Bod Wid

/-- a call of a maker with a step in a box -/
structure Fd (w : World) (s : ByteArray) (a : Nat) (r : Int) (n bx : Nat) (fv : Value) (W : World) : Prop where
  f : Fb w s a r n W
  x : W.cell? ⟨bx, 0, none⟩ = some fv
  lt : bx < w.heap.size
theorem Fd.below {w W X : World} {s : ByteArray} {a n bx : Nat} {r : Int} {fv : Value} (h : Fd w s a r n bx fv W) (hb : Below W.heap.size W X) : Fd w s a r n bx fv X :=
  ⟨h.f.below hb, (hb.cell (p := ⟨bx, 0, none⟩) (Nat.lt_of_lt_of_le h.lt h.f.bel.size)).trans h.x, h.lt⟩
theorem Fd.get {w W : World} {s : ByteArray} {a n bx : Nat} {r : Int} {fv : Value} (h : Fd w s a r n bx fv W) : W.cell? ⟨w.heap.size, 0, none⟩ = some (.string s) ∧ W.cell? ⟨w.heap.size, 1, none⟩ = some (.int .i64 a) ∧ W.cell? ⟨w.heap.size, 2, none⟩ = some (.int .i64 r) ∧ W.cell? ⟨w.heap.size, 3, none⟩ = some (.int .i64 n) ∧ W.cell? ⟨bx, 0, none⟩ = some fv :=
  ⟨h.f.get.1.1, h.f.get.1.2.1, h.f.get.1.2.2.1, h.f.get.1.2.2.2, h.x⟩
set_option maxRecDepth 100000 in
set_option maxHeartbeats 2000000 in
theorem del1_any {w₀ w : World} {s : ByteArray} {g : Nat → Nat} {fv : Value} (h : Stp w₀ s g fv) (hw : Below w₀.heap.size w₀ w) (hs : s.size ≤ 1099511627776) (a : Nat) (ha : cbZ s a = true) (r : Int) (n : Nat) (hn : n ≤ 1000) (bx : Nat) (hx : w.cell? ⟨bx, 0, none⟩ = some fv) (hbx : bx < w.heap.size) :
    Calls Tryd.prog 69 #[scv s a r n, .pointer (some ⟨bx, 0, none⟩)] w fun e W' => e = .returned (rsv (cutP a (rpt g n a))) ∧ Below w.heap.size w W' := by
  have hal := cb_le ha
  have hrb := cb_le (rpt_inv (P := fun p : Nat => cbZ s p = true) h.cb n a ha)
  obtain ⟨R, hR⟩ : ∃ R, rpt g n a = R := ⟨_, rfl⟩
  rw [hR] at hrb
  obtain ⟨c, e, hce⟩ : ∃ c e, cutP a R = (c, e) := ⟨_, _, rfl⟩
  obtain ⟨q0, q1, q2, q3, q4, q5⟩ := c
  obtain ⟨⟨f, rfl, en, C⟩, hcb⟩ := id h
  have HF : Hid (Fd w s a r n bx (.func (.func f) #[] #[]) ((w.alloc (.cells #[.string s, .int .i64 a, .int .i64 r, .int .i64 n] 57)).alloc (.cells #[.int .i64 0, .int .i64 0, .string ⟨#[]⟩, .int .i64 0, .string ⟨#[]⟩, .bool false] 33))) := ⟨fb0 w s a r n, ((fb0 w s a r n).bel.cell (p := ⟨bx, 0, none⟩) hbx).trans hx, hbx⟩
  have C1 : Hid (∀ W, Fd w s a r n bx (.func (.func f) #[] #[]) W → Calls Tryd.prog 71 #[.int .i64 n, .func (.func f) #[] #[]] W fun e W' => ∃ b, e = .returned (.func (.func 87) #[] #[.pointer (some ⟨b, 0, none⟩), .pointer (some ⟨b + 1, 0, none⟩)]) ∧ Hid (Fd w s a r n bx (.func (.func f) #[] #[]) W' ∧ Tb w n (.func (.func f) #[] #[]) b W')) := fun W hW => (times_any W n f).mono fun e W' ⟨b, k1, k2⟩ => ⟨b, k1, hW.below k2.bel, ⟨below_on hW.f.bel k2.bel, k2.c, k2.f, k2.lt⟩⟩
  have C2 : Hid (∀ W b, Fd w s a r n bx (.func (.func f) #[] #[]) W ∧ Tb w n (.func (.func f) #[] #[]) b W → Calls Tryd.prog 87 #[.string s, .int .i64 a, .pointer (some ⟨b, 0, none⟩), .pointer (some ⟨b + 1, 0, none⟩)] W fun e W' => e = .returned (.int .i64 R) ∧ Hid (Fd w s a r n bx (.func (.func f) #[] #[]) W')) := fun W b hW => by
    have h2 : Stp w s g (.func (.func f) #[] #[]) := ⟨⟨f, rfl, en, fun X p hX hp => C X p (below_on hw hX) hp⟩, hcb⟩
    have := times1_any h2 hW.2 hs hn a ha
    rw [hR] at this
    exact this.mono fun e W' ⟨k1, k2⟩ => ⟨k1, hW.1.below k2⟩
  have C3 : Hid (∀ W, Fd w s a r n bx (.func (.func f) #[] #[]) W → Calls Tryd.prog 70 #[.agg #[.string s, .int .i64 a, .int .i64 r, .int .i64 n], .int .i64 R] W fun e' W' => e' = .returned (.tuple #[.agg #[.int .i64 q0, .int .i64 q1, .string q2, .int .i64 q3, .string q4, .bool q5], .int .i64 e]) ∧ Hid (Fd w s a r n bx (.func (.func f) #[] #[]) W')) := fun W hW => by
    have := cutTo_any W s a r n R (by omega) (by omega)
    rw [hce] at this
    exact this.mono fun e W' ⟨k1, k2⟩ => ⟨k1, hW.below k2⟩
  rw [hR, hce]
  unfold scv
  clear h C hcb hR hce hx en
  go_enter Tryd.func69, Tryd.ntmps69
  go_wp2
  generalize (w.alloc (.cells #[.string s, .int .i64 a, .int .i64 r, .int .i64 n] 57)).alloc (.cells #[.int .i64 0, .int .i64 0, .string ⟨#[]⟩, .int .i64 0, .string ⟨#[]⟩, .bool false] 33) = W0 at HF ⊢
  obtain ⟨c0, c1, c2, c3, c4⟩ := HF.out.get
  have hn1 : ¬ bx = w.heap.size + 1 := by omega
  have hn2 : ¬ w.heap.size + 1 = bx := by omega
  have HD : Hid (Fd w s a r n bx (.func (.func f) #[] #[]) W0.drew) := HF.out.below ⟨rfl, rfl, rfl, Nat.le_refl _, fun _ _ => rfl⟩
  go_region_held3 (fun W => W.cell? ⟨w.heap.size, 0, none⟩ = some (.string s) ∧ W.cell? ⟨w.heap.size, 1, none⟩ = some (.int .i64 a) ∧ W.cell? ⟨w.heap.size, 2, none⟩ = some (.int .i64 r) ∧ W.cell? ⟨w.heap.size, 3, none⟩ = some (.int .i64 n) ∧ W.cell? ⟨bx, 0, none⟩ = some (.func (.func f) #[] #[]))
    (first | go_keep | exact HD.out.get)
    (first
      | (go_at_call 71; refine (C1.out _ HD.out).mono ?_; clear C1 HD HF; rintro e' w1 ⟨b, rfl, H1⟩; have HD : Hid (Fd w s a r n bx (.func (.func f) #[] #[]) w1) := H1.out.1)
      | (go_at_call 87; refine (C2.out _ _ H1.out).mono ?_; clear C2 HD H1; rintro e' w2 ⟨rfl, HD⟩)
      | (go_at_call 70; refine (C3.out _ HD.out).mono ?_; clear C3 HD; rintro e' w3 ⟨rfl, HD⟩; obtain ⟨⟨y0, y1, y2, y3⟩, ⟨f0, f1, f2, f3, f4, f5⟩, ⟨z0, z1, z2, z3, z4, z5⟩⟩ := HD.out.f.get; have y4 := HD.out.x))
  go_wp2
  obtain ⟨k1, k2, k3, k4, k5, k6, k7⟩ := HD.out.f.fin (.int .i64 q0) (.int .i64 q1) (.string q2) (.int .i64 q3) (.string q4) (.bool q5)
  exact bodyPost_ret (v := rsv (⟨q0, q1, q2, q3, q4, q5⟩, e)) (by simp [results, Tryd.results69, go_sem, rsv, chc, k2, k3, k4, k5, k6, k7]) rfl ⟨rfl, k1⟩
set_option maxRecDepth 100000 in
set_option maxHeartbeats 2000000 in
theorem kil1_any {w₀ w : World} {s : ByteArray} {g : Nat → Nat} {fv : Value} (h : Stp w₀ s g fv) (hw : Below w₀.heap.size w₀ w) (hs : s.size ≤ 1099511627776) (a : Nat) (ha : cbZ s a = true) (r : Int) (n : Nat) (hn : n ≤ 1000) (bx : Nat) (hx : w.cell? ⟨bx, 0, none⟩ = some fv) (hbx : bx < w.heap.size) :
    Calls Tryd.prog 72 #[scv s a r n, .pointer (some ⟨bx, 0, none⟩)] w fun e W' => e = .returned (rsv (killP s a (rpt g n a))) ∧ Below w.heap.size w W' := by
  have hal := cb_le ha
  have hrb := cb_le (rpt_inv (P := fun p : Nat => cbZ s p = true) h.cb n a ha)
  obtain ⟨R, hR⟩ : ∃ R, rpt g n a = R := ⟨_, rfl⟩
  rw [hR] at hrb
  obtain ⟨c, e, hce⟩ : ∃ c e, killP s a R = (c, e) := ⟨_, _, rfl⟩
  obtain ⟨q0, q1, q2, q3, q4, q5⟩ := c
  obtain ⟨⟨f, rfl, en, C⟩, hcb⟩ := id h
  have HF : Hid (Fd w s a r n bx (.func (.func f) #[] #[]) ((w.alloc (.cells #[.string s, .int .i64 a, .int .i64 r, .int .i64 n] 57)).alloc (.cells #[.int .i64 0, .int .i64 0, .string ⟨#[]⟩, .int .i64 0, .string ⟨#[]⟩, .bool false] 33))) := ⟨fb0 w s a r n, ((fb0 w s a r n).bel.cell (p := ⟨bx, 0, none⟩) hbx).trans hx, hbx⟩
  have C1 : Hid (∀ W, Fd w s a r n bx (.func (.func f) #[] #[]) W → Calls Tryd.prog 71 #[.int .i64 n, .func (.func f) #[] #[]] W fun e W' => ∃ b, e = .returned (.func (.func 87) #[] #[.pointer (some ⟨b, 0, none⟩), .pointer (some ⟨b + 1, 0, none⟩)]) ∧ Hid (Fd w s a r n bx (.func (.func f) #[] #[]) W' ∧ Tb w n (.func (.func f) #[] #[]) b W')) := fun W hW => (times_any W n f).mono fun e W' ⟨b, k1, k2⟩ => ⟨b, k1, hW.below k2.bel, ⟨below_on hW.f.bel k2.bel, k2.c, k2.f, k2.lt⟩⟩
  have C2 : Hid (∀ W b, Fd w s a r n bx (.func (.func f) #[] #[]) W ∧ Tb w n (.func (.func f) #[] #[]) b W → Calls Tryd.prog 87 #[.string s, .int .i64 a, .pointer (some ⟨b, 0, none⟩), .pointer (some ⟨b + 1, 0, none⟩)] W fun e W' => e = .returned (.int .i64 R) ∧ Hid (Fd w s a r n bx (.func (.func f) #[] #[]) W')) := fun W b hW => by
    have h2 : Stp w s g (.func (.func f) #[] #[]) := ⟨⟨f, rfl, en, fun X p hX hp => C X p (below_on hw hX) hp⟩, hcb⟩
    have := times1_any h2 hW.2 hs hn a ha
    rw [hR] at this
    exact this.mono fun e W' ⟨k1, k2⟩ => ⟨k1, hW.1.below k2⟩
  have C3 : Hid (∀ W, Fd w s a r n bx (.func (.func f) #[] #[]) W → Calls Tryd.prog 73 #[.agg #[.string s, .int .i64 a, .int .i64 r, .int .i64 n], .int .i64 R] W fun e' W' => e' = .returned (.tuple #[.agg #[.int .i64 q0, .int .i64 q1, .string q2, .int .i64 q3, .string q4, .bool q5], .int .i64 e]) ∧ Hid (Fd w s a r n bx (.func (.func f) #[] #[]) W')) := fun W hW => by
    have := killTo_any W s a r n R hs hal hrb
    rw [hce] at this
    exact this.mono fun e W' ⟨k1, k2⟩ => ⟨k1, hW.below k2⟩
  rw [hR, hce]
  unfold scv
  clear h C hcb hR hce hx en
  go_enter Tryd.func72, Tryd.ntmps72
  go_wp2
  generalize (w.alloc (.cells #[.string s, .int .i64 a, .int .i64 r, .int .i64 n] 57)).alloc (.cells #[.int .i64 0, .int .i64 0, .string ⟨#[]⟩, .int .i64 0, .string ⟨#[]⟩, .bool false] 33) = W0 at HF ⊢
  obtain ⟨c0, c1, c2, c3, c4⟩ := HF.out.get
  have hn1 : ¬ bx = w.heap.size + 1 := by omega
  have hn2 : ¬ w.heap.size + 1 = bx := by omega
  have HD : Hid (Fd w s a r n bx (.func (.func f) #[] #[]) W0.drew) := HF.out.below ⟨rfl, rfl, rfl, Nat.le_refl _, fun _ _ => rfl⟩
  go_region_held3 (fun W => W.cell? ⟨w.heap.size, 0, none⟩ = some (.string s) ∧ W.cell? ⟨w.heap.size, 1, none⟩ = some (.int .i64 a) ∧ W.cell? ⟨w.heap.size, 2, none⟩ = some (.int .i64 r) ∧ W.cell? ⟨w.heap.size, 3, none⟩ = some (.int .i64 n) ∧ W.cell? ⟨bx, 0, none⟩ = some (.func (.func f) #[] #[]))
    (first | go_keep | exact HD.out.get)
    (first
      | (go_at_call 71; refine (C1.out _ HD.out).mono ?_; clear C1 HD HF; rintro e' w1 ⟨b, rfl, H1⟩; have HD : Hid (Fd w s a r n bx (.func (.func f) #[] #[]) w1) := H1.out.1)
      | (go_at_call 87; refine (C2.out _ _ H1.out).mono ?_; clear C2 HD H1; rintro e' w2 ⟨rfl, HD⟩)
      | (go_at_call 73; refine (C3.out _ HD.out).mono ?_; clear C3 HD; rintro e' w3 ⟨rfl, HD⟩; obtain ⟨⟨y0, y1, y2, y3⟩, ⟨f0, f1, f2, f3, f4, f5⟩, ⟨z0, z1, z2, z3, z4, z5⟩⟩ := HD.out.f.get; have y4 := HD.out.x))
  go_wp2
  obtain ⟨k1, k2, k3, k4, k5, k6, k7⟩ := HD.out.f.fin (.int .i64 q0) (.int .i64 q1) (.string q2) (.int .i64 q3) (.string q4) (.bool q5)
  exact bodyPost_ret (v := rsv (⟨q0, q1, q2, q3, q4, q5⟩, e)) (by simp [results, Tryd.results72, go_sem, rsv, chc, k2, k3, k4, k5, k6, k7]) rfl ⟨rfl, k1⟩
end Go.Proofs.YtiejollfeggeoaaDoor
