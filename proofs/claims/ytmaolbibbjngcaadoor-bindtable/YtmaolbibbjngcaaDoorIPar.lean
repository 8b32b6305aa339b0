/-
  A binder of the program beside the document's own: what stands of both; whether the same waits for both. Conditions: those of each theorem.
-/
import Derived.Test.YtmaolbibbjngcaaDoorIRkx
import Derived.Test.YtmaolbibbjngcaaDoorILay
namespace Go.Proofs.YtmaolbibbjngcaaDoor
open Go.RowKit

theorem bk_ne {W : World} {i j : Nat} {xs ys : Array Value} {t u : TypeId} (h : W.heap[i]? = some (.cells xs t (0, 0))) (h' : W.heap[j]? = some (.cells ys u (0, 0))) (hn : t ≠ u) : i ≠ j := fun e => by
  subst e
  rw [h] at h'
  have := Option.some.inj h'
  injection this with _ h3 _
  exact hn h3
/-- the program's binder at b with s, the document's at rb with t -/
structure Pk (w : World) (b rb : Nat) (s t : Bs) (W : World) : Prop where
  bel : Below w.heap.size w W
  ge : w.heap.size ≤ b
  rge : w.heap.size ≤ rb
  bn : Bn b s W
  rn : Rn rb t W
section
variable {w W X : World} {b rb c : Nat} {s t u : Bs}
theorem Pk.ne (h : Pk w b rb s t W) : b ≠ rb := bk_ne h.bn h.rn (by decide)
theorem Pk.below (h : Pk w b rb s t W) (hb : Below W.heap.size W X) : Pk w b rb s t X := ⟨h.bel.trans (hb.mono h.bel.size), h.ge, h.rge, h.bn.below hb, h.rn.below hb⟩
theorem Pk.other (h : Pk w b rb s t W) (hg : W.grownBy X (some c)) (hge : w.heap.size ≤ c) (h1 : b ≠ c) (h2 : rb ≠ c) : Pk w b rb s t X :=
  ⟨h.bel.grown hg h.bel.size (fun k e => by cases e; exact hge), h.ge, h.rge, (hg.block _ (Array.getElem?_eq_some_iff.1 h.bn).1 (fun e => h1 (Option.some.inj e))).trans h.bn, (hg.block _ (Array.getElem?_eq_some_iff.1 h.rn).1 (fun e => h2 (Option.some.inj e))).trans h.rn⟩
theorem Pk.tob (h : Pk w b rb s t W) (h1 : Bn b u X) (hg : W.grownBy X (some b)) : Pk w b rb u t X :=
  ⟨h.bel.grown hg h.bel.size (fun k e => by cases e; exact h.ge), h.ge, h.rge, h1, (hg.block _ (Array.getElem?_eq_some_iff.1 h.rn).1 (fun e => h.ne (Option.some.inj e).symm)).trans h.rn⟩
theorem Pk.tor (h : Pk w b rb s t W) (h1 : Rn rb u X) (hg : W.grownBy X (some rb)) : Pk w b rb s u X :=
  ⟨h.bel.grown hg h.bel.size (fun k e => by cases e; exact h.rge), h.ge, h.rge, (hg.block _ (Array.getElem?_eq_some_iff.1 h.bn).1 (fun e => h.ne (Option.some.inj e))).trans h.bn, h1⟩
theorem cells_grown {i : Nat} {vs : Array Value} {T : TypeId} (h : W.heap[i]? = some (.cells vs T (0, 0))) (hg : W.grownBy X (some c)) (hn : i ≠ c) : X.heap[i]? = some (.cells vs T (0, 0)) :=
  (hg.block _ (Array.getElem?_eq_some_iff.1 h).1 (fun e => hn (Option.some.inj e))).trans h
theorem cells_below {i : Nat} {vs : Array Value} {T : TypeId} (h : W.heap[i]? = some (.cells vs T (0, 0))) (hb : Below W.heap.size W X) : X.heap[i]? = some (.cells vs T (0, 0)) :=
  (hb.block _ (Array.getElem?_eq_some_iff.1 h).1).trans h
/-- two pairs side by side -/
structure Pq (w : World) (b rb : Nat) (s : Bs) (c rc : Nat) (u v : Bs) (W : World) : Prop where
  p : Pk w b rb s s W
  q : Pk w c rc u v W
  n : b ≠ c
  m : rb ≠ rc
section
variable {rc : Nat} {v x : Bs}
theorem Pq.below (h : Pq w b rb s c rc u v W) (hb : Below W.heap.size W X) : Pq w b rb s c rc u v X := ⟨h.p.below hb, h.q.below hb, h.n, h.m⟩
theorem Pq.tob (h : Pq w b rb s c rc u v W) (h1 : Bn c x X) (hg : W.grownBy X (some c)) : Pq w b rb s c rc x v X :=
  ⟨h.p.other hg h.q.ge h.n (fun e => bk_ne h.q.bn h.p.rn (by decide) e.symm), h.q.tob h1 hg, h.n, h.m⟩
theorem Pq.tor (h : Pq w b rb s c rc u v W) (h1 : Rn rc x X) (hg : W.grownBy X (some rc)) : Pq w b rb s c rc u x X :=
  ⟨h.p.other hg h.q.rge (fun e => bk_ne h.p.bn h.q.rn (by decide) e) h.m, h.q.tor h1 hg, h.n, h.m⟩
end
end
section
set_option maxRecDepth 100000
set_option maxHeartbeats 1000000
theorem agr_any {w : World} (b rb : Nat) (s : Bs) (W : World) (h : Pk w b rb s s W) : Calls Tryd.prog 14 #[.pointer (some ⟨b, 0, none⟩), .pointer (some ⟨rb, 0, none⟩)] W fun e W' => e = .returned (.bool true) ∧ Below W.heap.size W W' := by
  have HP : Hid (Pk w b rb s s W) := h
  have C1 : Hid (∀ X, Pk w b rb s s X → Calls Tryd.prog 26 #[.pointer (some ⟨b, 0, none⟩)] X fun e w' => e = .returned (.tuple #[.int .i64 s.count, .bool s.has]) ∧ w' = X) := fun X hX => cnt_any b s X hX.bn
  have C2 : Hid (∀ X, Pk w b rb s s X → Calls Tryd.prog 27 #[.pointer (some ⟨rb, 0, none⟩)] X fun e w' => e = .returned (.tuple #[.int .i64 s.count, .bool s.has]) ∧ Below X.heap.size X w') := fun X hX => rct_any rb s X hX.rn
  have C3 : Hid (∀ X, Pk w b rb s s X → Calls Tryd.prog 18 #[.pointer (some ⟨b, 0, none⟩)] X fun e w' => e = .returned (.string s.px) ∧ w' = X) := fun X hX => pfx_any b s X hX.bn
  have C4 : Hid (∀ X, Pk w b rb s s X → Calls Tryd.prog 28 #[.pointer (some ⟨rb, 0, none⟩)] X fun e w' => e = .returned (.string s.px) ∧ w' = X) := fun X hX => rpf_any rb s X hX.rn
  generalize s.count = n at C1 C2
  generalize s.has = has at C1 C2
  generalize s.px = px at C3 C4
  clear h
  go_enter Tryd.func14, Tryd.ntmps14
  go_wp2_with (first
    | (go_at_call 26; refine (C1.out _ HP.out).mono ?_; clear C1; rintro e w1 ⟨rfl, rfl⟩)
    | (go_at_call 27; refine (C2.out _ HP.out).mono ?_; clear C2; rintro e w2 ⟨rfl, hb⟩; have HP2 : Hid (Pk w b rb s s w2) := HP.out.below hb; have HB : Hid (Below _ _ w2) := hb; clear hb)
    | (go_at_call 18; refine (C3.out _ HP2.out).mono ?_; clear C3; rintro e w3 ⟨rfl, rfl⟩)
    | (go_at_call 28; refine (C4.out _ HP2.out).mono ?_; clear C4; rintro e w4 ⟨rfl, rfl⟩))
  go_ret
  exact ⟨rfl, HB.out⟩
end
end Go.Proofs.YtmaolbibbjngcaaDoor
