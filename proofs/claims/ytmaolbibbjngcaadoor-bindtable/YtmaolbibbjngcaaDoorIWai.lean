/-
  Package bind's waits over a binder in memory: whether a key waits now, and what waits then. Conditions: the binder's block holds what waits (Bs.Ok); the tables lie in memory.
-/
import Derived.Test.YtmaolbibbjngcaaDoorIBnd
import Derived.Test.YtmaolbibbjngcaaDoorIIs
namespace Go.Proofs.YtmaolbibbjngcaaDoor
open Go.RowKit

theorem gof {w W : World} (h : Below w.heap.size w W) (b : Nat) : w.grownBy W (some b) := ⟨h.os, h.tape, h.output, h.size, fun k hk _ => h.block k hk⟩
/-- while a function with the binder at b and a key works: what waits, the key's box -/
structure Wx (w : World) (b : Nat) (s : Bs) (k : Ky) (W : World) : Prop where
  lt : b < w.heap.size
  bn : Bn b s W
  kx : W.heap[w.heap.size]? = some (.cells (kyc k) 30 (0, 0))
  g : w.grownBy W (some b)
theorem Bn.below {b : Nat} {s : Bs} {W X : World} (h : Bn b s W) (hb : Below W.heap.size W X) : Bn b s X := by
  unfold Bn at h ⊢
  rw [hb.block b (Array.getElem?_eq_some_iff.1 h).1]; exact h
theorem Wx.below {w W X : World} {b : Nat} {s : Bs} {k : Ky} (h : Wx w b s k W) (hb : Below W.heap.size W X) : Wx w b s k X :=
  ⟨h.lt, h.bn.below hb, by rw [hb.block _ (Array.getElem?_eq_some_iff.1 h.kx).1]; exact h.kx, grown2 h.g (gof hb b)⟩
theorem Wx.drew {w W : World} {b : Nat} {s : Bs} {k : Ky} (h : Wx w b s k W) : Wx w b s k W.drew := ⟨h.lt, h.bn, h.kx, ⟨h.g.os, h.g.tape, h.g.output, h.g.size, h.g.block⟩⟩
theorem wx0 {w : World} {b : Nat} {s : Bs} (h : Bn b s w) (k : Ky) : Wx w b s k (w.alloc (.cells (kyc k) 30)) :=
  have hl := (Array.getElem?_eq_some_iff.1 h).1
  ⟨hl, h.below ((Below.refl _ w).alloc (Nat.le_refl _) _), World.alloc_heap_new _ _, gof ((Below.refl _ w).alloc (Nat.le_refl _) _) b⟩
theorem Wx.set {w W : World} {b : Nat} {s t : Bs} {k : Ky} (h : Wx w b s k W) (i : Nat) (u : Value) (ht : (bsc s).setIfInBounds i u = bsc t) : Wx w b t k (W.setCell ⟨b, i, none⟩ u) :=
  ⟨h.lt, by unfold Bn; rw [← ht]; exact set1 u h.bn, by rw [iset_ne (by have := h.lt; omega)]; exact h.kx, grown2 h.g (gcell _ _ _ _)⟩
/-- behind the tables' blocks -/
def Ab (b : Nat) : Prop := 0 < b ∧ 1 < b ∧ 2 < b ∧ 3 < b
theorem Tb.ab {w : World} (h : Tb w) {b : Nat} (hb : w.heap.size ≤ b) : Ab b := ⟨by have := h.lo.1; omega, by have := h.lo.2.1; omega, by have := h.lo.2.2.1; omega, by have := h.lo.2.2.2; omega⟩
theorem gcellq {w W : World} {b g j : Nat} (hg : w.grownBy W (some b)) (h : g < w.heap.size) (hb : g < b) : W.cell? ⟨g, j, none⟩ = w.cell? ⟨g, j, none⟩ := by
  simp only [World.cell?, hg.block g h (by intro e; cases e; omega)]
theorem Tb.grown {w W : World} {b : Nat} (h : Tb w) (ha : Ab b) (hg : w.grownBy W (some b)) : Tb W :=
  ⟨fun j v q => (gcellq hg h.lo.2.1 ha.2.1).trans (h.b j v q), fun j v q => (gcellq hg h.lo.2.2.2 ha.2.2.2).trans (h.e j v q), fun j v q => (gcellq hg h.lo.1 ha.1).trans (h.p j v q), fun j v q => (gcellq hg h.lo.2.2.1 ha.2.2.1).trans (h.n j v q),
    Nat.lt_of_lt_of_le h.lo.1 hg.size, Nat.lt_of_lt_of_le h.lo.2.1 hg.size, Nat.lt_of_lt_of_le h.lo.2.2.1 hg.size, Nat.lt_of_lt_of_le h.lo.2.2.2 hg.size⟩
theorem emp_is {s : ByteArray} : s.toList.isEmpty = emp s := by
  by_cases h : s = ⟨#[]⟩
  · subst h; simp [emp]
  · rw [inot_emp h]; simp [emp, h]
section
set_option maxRecDepth 100000
set_option maxHeartbeats 1000000
theorem wai_px (b : Nat) (s : Bs) (k : Ky) (w : World) (h : Bn b s w) (hp : Pn s.px) : Calls Tryd.prog 29 #[.pointer (some ⟨b, 0, none⟩), kyv k] w fun e w' => e = .returned (.bool false) ∧ Bn b s w' ∧ w.grownBy w' (some b) := by
  obtain ⟨⟨c0, -, -⟩, -, hb⟩ := box3 h
  have H0 : Hid (Wx w b s k (w.alloc (.cells (kyc k) 30))) := wx0 h k
  clear h
  obtain ⟨px, n, has⟩ := s
  simp only at c0 hp
  have hne : ¬ px = ⟨#[]⟩ := by rcases hp with rfl | rfl | rfl | rfl <;> decide
  have n1 := inot_emp hne
  have n2 := inot_nil hne
  clear hp hne
  obtain ⟨a, c, ct, m, sh, tx⟩ := k
  unfold kyv
  unfold kyc at H0
  go_enter Tryd.func29, Tryd.ntmps29
  go_wp2
  go_ret
  exact ⟨rfl, H0.out.bn, H0.out.g⟩
theorem wai_dg (b : Nat) (s : Bs) (k : Ky) (w : World) (h : Bn b s w) (hs : s.Ok) (hp : s.px = ⟨#[]⟩) (hd : digP k = true) (hm : k.me = true ∨ s.has = true) : Calls Tryd.prog 29 #[.pointer (some ⟨b, 0, none⟩), kyv k] w fun e w' => e = .returned (.bool true) ∧ Bn b ⟨⟨#[]⟩, min (s.n * 10 + (k.ch - 48)) 1000, true⟩ w' ∧ w.grownBy w' (some b) := by
  obtain ⟨⟨c0, c1, c2⟩, -, hb⟩ := box3 h
  have H0 : Hid (Wx w b s k (w.alloc (.cells (kyc k) 30))) := wx0 h k
  have n0 := hs.n0
  have n1 := hs.n1
  clear h hs
  have CD : Hid (∀ W : World, Calls Tryd.prog 38 #[kyv k] W fun e w' => e = .returned (.bool true) ∧ Below W.heap.size W w') := fun W => by
    have := dig_any k W
    rw [hd] at this; exact this
  obtain ⟨px, n, has⟩ := s
  simp only at c0 c1 c2 hp n0 n1 hm ⊢
  subst hp
  obtain ⟨a, c, ct, m, sh, tx⟩ := k
  simp only [digP, Bool.and_eq_true, decide_eq_true_eq] at hd hm ⊢
  obtain ⟨⟨-, q0⟩, q1⟩ := hd
  unfold kyv at CD ⊢
  unfold kyc at H0
  cases m <;> cases has
  · simp at hm
  all_goals
   clear hm
   go_enter Tryd.func29, Tryd.ntmps29
   go_wp2_with (fail)
   go_at_call 38
   refine (CD.out _).mono ?_
   rintro e w1 ⟨rfl, hb1⟩
   have X1 : Hid (Wx w b _ _ w1) := H0.out.below hb1
   clear hb1
   obtain ⟨⟨d0, d1, d2⟩, ⟨f0, f1, f2⟩, -⟩ := box3 X1.out.bn
   obtain ⟨k0, k1, k2, k3, k4, k5, -⟩ := box6 X1.out.kx
   try simp only at d0 d1 d2
   go_wp2
   go_region
   all_goals
    go_wp2
    go_ret
    have Y := ((X1.out.set (t := ⟨⟨#[]⟩, n, true⟩) 2 (.bool true) rfl).drew).set (t := ⟨⟨#[]⟩, min (n * 10 + (c - 48)) 1000, true⟩) 1 (.int .i64 (min (n * 10 + (c - 48)) 1000)) rfl
    exact ⟨rfl, Y.bn, Y.g⟩
theorem wai_no (b : Nat) (s : Bs) (k : Ky) (hk : k.Ok) (w : World) (hT : Tb w) (ha : Ab b) (h : Bn b s w) (hp : s.px = ⟨#[]⟩) (hd : (digP k && (k.me || s.has)) = false) : Calls Tryd.prog 29 #[.pointer (some ⟨b, 0, none⟩), kyv k] w fun e w' => e = .returned (.bool (!emp (preP k))) ∧ Bn b ⟨preP k, s.n, s.has⟩ w' ∧ w.grownBy w' (some b) := by
  obtain ⟨⟨c0, c1, c2⟩, -, hb⟩ := box3 h
  have H0 : Hid (Wx w b s k (w.alloc (.cells (kyc k) 30))) := wx0 h k
  have HT : Hid (Tb w) := hT
  have HA : Hid (Ab b) := ha
  have HK : Hid k.Ok := hk
  obtain ⟨D, hD⟩ : ∃ D, digP k = D := ⟨_, rfl⟩
  obtain ⟨P, hP⟩ : ∃ P, preP k = P := ⟨_, rfl⟩
  rw [hP]
  have CD : Hid (∀ W : World, Calls Tryd.prog 38 #[kyv k] W fun e w' => e = .returned (.bool D) ∧ Below W.heap.size W w') := fun W => by
    have := dig_any k W
    rw [hD] at this; exact this
  have CP : Hid (∀ W : World, Tb W → Calls Tryd.prog 39 #[kyv k] W fun e w' => e = .returned (.string P) ∧ Below W.heap.size W w') := fun W hW => by
    have := pre_any k HK.out W hW
    rw [hP] at this; exact this
  rw [hD] at hd
  clear h hT ha hk hP hD HK
  obtain ⟨px, n, has⟩ := s
  simp only at c0 c1 c2 hp hd ⊢
  subst hp
  obtain ⟨a, c, ct, m, sh, tx⟩ := k
  simp only at hd
  unfold kyv at CD CP ⊢
  unfold kyc at H0
  cases D <;> cases m <;> cases has <;> first | (exfalso; revert hd; decide) | skip
  all_goals
   clear hd
   go_enter Tryd.func29, Tryd.ntmps29
   go_wp2_with (fail)
   go_at_call 38
   refine (CD.out _).mono ?_
   rintro e w1 ⟨rfl, hb1⟩
   have X1 : Hid (Wx w b _ _ w1) := H0.out.below hb1
   clear hb1
   obtain ⟨⟨d0, d1, d2⟩, ⟨f0, f1, f2⟩, -⟩ := box3 X1.out.bn
   obtain ⟨k0, k1, k2, k3, k4, k5, -⟩ := box6 X1.out.kx
   try simp only at d0 d1 d2
   go_wp2_with (fail)
   go_at_call 39
   refine (CP.out _ (HT.out.grown HA.out X1.out.g)).mono ?_
   rintro e w2 ⟨rfl, hb2⟩
   have X2 : Hid (Wx w b _ _ w2) := X1.out.below hb2
   clear hb2
   obtain ⟨⟨e0, e1, e2⟩, ⟨g0, g1, g2⟩, -⟩ := box3 X2.out.bn
   go_wp2
   go_ret
   have Y := X2.out.set (t := ⟨P, n, _⟩) 0 (.string P) rfl
   exact ⟨ret_bool (by rw [emp_is]), Y.bn, Y.g⟩
theorem wai_any (b : Nat) (s : Bs) (hs : s.Ok) (k : Ky) (hk : k.Ok) (w : World) (hT : Tb w) (ha : Ab b) (h : Bn b s w) : Calls Tryd.prog 29 #[.pointer (some ⟨b, 0, none⟩), kyv k] w fun e w' => e = .returned (.bool (waiP s k).isSome) ∧ Bn b ((waiP s k).getD s) w' ∧ w.grownBy w' (some b) := by
  rcases hs.p with hp | hp
  · cases hd : digP k && (k.me || s.has)
    · have := wai_no b s k hk w hT ha h hp hd
      unfold waiP
      rw [if_pos hp, hd, if_neg (by decide)]
      by_cases he : preP k = ⟨#[]⟩
      · rw [if_pos he]
        refine this.mono ?_
        rintro e w1 ⟨rfl, h1, h2⟩
        refine ⟨ret_bool (by rw [he]; rfl), ?_, h2⟩
        rw [he, ← hp] at h1
        exact h1
      · rw [if_neg he]
        refine this.mono ?_
        rintro e w1 ⟨rfl, h1, h2⟩
        exact ⟨ret_bool (by simp [emp, he]), h1, h2⟩
    · have hd' := hd
      rw [Bool.and_eq_true, Bool.or_eq_true] at hd'
      have := wai_dg b s k w h hs hp hd'.1 hd'.2
      unfold waiP
      rw [if_pos hp, hd, if_pos rfl]
      exact this
  · have := wai_px b s k w h hp
    unfold waiP
    rw [if_neg (by rcases hp with e | e | e | e <;> rw [e] <;> decide)]
    exact this
end
end Go.Proofs.YtmaolbibbjngcaaDoor
