/-
  A ring of package ring beside the document's own: what stays while either is turned; the law's agree. Conditions: those of each theorem.
-/
import Derived.Test.YtihagjkdghbkdaaJRefY
import Derived.Test.YtihagjkdghbkdaaJYank
namespace Go.Proofs.Ytihagjkdghbkdaa
open Go.RowKit

/-- the blocks of calls are as they were -/
def Fo (B W : World) : Prop := ∀ (k : Nat) (cur : Array Value), B.heap[k]? = some (.cells cur 30 (0, 0)) → W.heap[k]? = some (.cells cur 30 (0, 0))
theorem Fo.refl (B : World) : Fo B B := fun _ _ h => h
theorem Fo.trans {A B C : World} (h : Fo A B) (g : Fo B C) : Fo A C := fun k cur e => g k cur (h k cur e)
theorem Fo.below {B W : World} (h : Below B.heap.size B W) : Fo B W := fun k _ e => (h.block k (Array.getElem?_eq_some_iff.1 e).1).trans e
/-- the ring r of package ring, the document's ring q, and a block that is only read, since w; since B no block of a call was turned -/
structure Px (w B : World) (ob : Nat) (bx : Array Value) (pb : Nat) (v : Value) (rb : Nat) (u : Value) (r q : Rg) (W : World) : Prop where
  pr : Pr W w.heap.size pb v r
  rr : Rr W w.heap.size rb u q
  ap : Apart v u
  bel : Below w.heap.size w W
  box : W.heap[ob]? = some (.cells bx 30 (0, 0))
  fo : Fo B W
theorem Px.below {w B W W' : World} {ob : Nat} {bx : Array Value} {pb rb : Nat} {v u : Value} {r q : Rg} (h : Px w B ob bx pb v rb u r q W) (hb : Below W.heap.size W W') : Px w B ob bx pb v rb u r q W' :=
  ⟨h.pr.below hb, h.rr.below hb, h.ap, h.bel.trans (hb.mono h.bel.size), (hb.block ob (Array.getElem?_eq_some_iff.1 h.box).1).trans h.box, h.fo.trans (Fo.below hb)⟩
theorem Px.drew {w B W : World} {ob : Nat} {bx : Array Value} {pb rb : Nat} {v u : Value} {r q : Rg} (h : Px w B ob bx pb v rb u r q W) : Px w B ob bx pb v rb u r q W.drew := h.below ⟨rfl, rfl, rfl, Nat.le_refl _, fun _ _ => rfl⟩
theorem Px.cell {w B W : World} {ob : Nat} {bx : Array Value} {pb rb : Nat} {v u : Value} {r q : Rg} (h : Px w B ob bx pb v rb u r q W) (i : Nat) : W.cell? ⟨ob, i, none⟩ = bx[i]? := by simp [World.cell?, h.box]
theorem Px.set {w B W W' : World} {ob : Nat} {bx : Array Value} {pb rb : Nat} {v v' u : Value} {r r' q : Rg} (h : Px w B ob bx pb v rb u r q W) (hp : Pr W' w.heap.size pb v' r') (hc : Ch pb v.ownBlock W W') (hn : Nx W v.ownBlock v'.ownBlock) : Px w B ob bx pb v' rb u r' q W' := by
  have hfo : Fo W W' := fun k cur hb2 => by
    refine (hc.2.2.2.2 k (Array.getElem?_eq_some_iff.1 hb2).1 (fun e => ?_) (fun e => ?_)).trans hb2
    · obtain ⟨p, _, hb⟩ := h.pr.box
      rw [e, hb] at hb2; injection hb2 with h2; injection h2 with _ ht _; exact absurd ht (by decide)
    · obtain ⟨⟨cur, hc2⟩, _⟩ := row_blk h.pr.row e
      rw [hb2] at hc2; injection hc2 with h2; injection h2 with _ ht _; exact absurd ht (by decide)
  refine ⟨hp, h.rr.keptP h.pr h.ap hc, fun g hg => ?_, hc.low h.bel (Nat.le_refl _) h.pr.low (fun k e => (h.pr.blk e).2.1), hfo _ _ h.box, h.fo.trans hfo⟩
  · rcases hn g hg with e | e
    · exact h.ap g e
    · intro e2; have := (h.rr.blk e2).2.2; omega
theorem Px.ref {w B W W' : World} {ob : Nat} {bx : Array Value} {pb rb : Nat} {v u u' : Value} {r q q' : Rg} (h : Px w B ob bx pb v rb u r q W) (hp : Rr W' w.heap.size rb u' q') (hc : Ch rb u.ownBlock W W') (hn : Nx W u.ownBlock u'.ownBlock) : Px w B ob bx pb v rb u' r q' W' := by
  have hfo : Fo W W' := fun k cur hb2 => by
    refine (hc.2.2.2.2 k (Array.getElem?_eq_some_iff.1 hb2).1 (fun e => ?_) (fun e => ?_)).trans hb2
    · rw [e, h.rr.box] at hb2; injection hb2 with h2; injection h2 with _ ht _; exact absurd ht (by decide)
    · obtain ⟨⟨cur, hc2⟩, _⟩ := row_blk h.rr.row e
      rw [hb2] at hc2; injection hc2 with h2; injection h2 with _ ht _; exact absurd ht (by decide)
  refine ⟨h.pr.keptR h.rr h.ap hc, hp, fun g hg => ?_, hc.low h.bel (Nat.le_refl _) h.rr.low (fun k e => (h.rr.blk e).2.1), hfo _ _ h.box, h.fo.trans hfo⟩
  · intro e2
    rcases hn g e2 with e | e
    · exact h.ap g hg e
    · have := (h.pr.blk hg).2.2; omega

/-- both rings are r, since w; k calls have been -/
structure Pq (w : World) (pb rb : Nat) (r : Rg) (k : Nat) (W : World) : Prop where
  ex : ∃ v u, Pr W w.heap.size pb v r ∧ Rr W w.heap.size rb u r ∧ Apart v u
  bel : Below w.heap.size w W
  fit : r.Fit (1048576 * k)
theorem Pq.below {w W W' : World} {pb rb k : Nat} {r : Rg} (h : Pq w pb rb r k W) (hb : Below W.heap.size W W') : Pq w pb rb r k W' := by
  obtain ⟨v, u, h1, h2, h3⟩ := h.ex
  exact ⟨⟨v, u, h1.below hb, h2.below hb, h3⟩, h.bel.trans (hb.mono h.bel.size), h.fit⟩
theorem Pq.mono {w W : World} {pb rb k k' : Nat} {r : Rg} (h : Pq w pb rb r k W) (hk : k ≤ k') : Pq w pb rb r k' W := ⟨h.ex, h.bel, h.fit.mono (Nat.mul_le_mul_left _ hk)⟩

set_option maxRecDepth 100000 in
set_option maxHeartbeats 2000000 in
theorem agree_below {w W : World} {pb rb k : Nat} {r : Rg} (h : Pq w pb rb r k W) (hk : k ≤ 33554432) :
    Calls Try.prog 12 #[.pointer (some ⟨pb, 0, none⟩), .pointer (some ⟨rb, 0, none⟩)] W fun e W' => e = .returned (.bool true) ∧ Pq w pb rb r k W' ∧ Below W.heap.size W W' := by
  obtain ⟨v, u, h1, h2, h3⟩ := id h.ex
  have hf : r.Fit 281474976710656 := h.fit.mono (by omega)
  have hl3 : r.es.length ≤ 1000 := by have := h1.ok.len; have := h1.ok.b; omega
  obtain ⟨n, hn⟩ : ∃ n, r.es.length = n := ⟨_, rfl⟩
  have C1 := bound_any h1
  have C2 := rbound_any h2
  have C3 := len_any h1
  have C4 := rlen_any h2
  have C5 := killing_any h1
  have C6 := rkilling_any h2
  have C7 := yanking_any h1
  have C8 := ryanking_any h2
  have C9 : Hid (Calls Try.prog 18 #[.pointer (some ⟨pb, 0, none⟩)] W fun e W' => ∃ a c, e = .returned (.slice a n c) ∧ Hid (RdS W' (.slice a n c) r.es ∧ Below W.heap.size W W')) := (all_any h1 hf).mono (by
    rintro e W' ⟨x, rfl, k1, k2⟩
    rw [hn] at k1
    obtain ⟨a, c, rfl, _⟩ := row_slice k1
    exact ⟨a, c, rfl, RdS.of_row k1, k2⟩)
  have CA : Hid (∀ W1, Below W.heap.size W W1 → Calls Try.prog 31 #[.pointer (some ⟨rb, 0, none⟩)] W1 fun e W' => ∃ a c, e = .returned (.slice a n c) ∧ Hid (RdS W' (.slice a n c) r.es ∧ Below W1.heap.size W1 W')) := fun W1 hb => (rall_any (h2.below hb)).mono (by
    rintro e W' ⟨x, rfl, k1, k2⟩
    rw [hn] at k1
    obtain ⟨a, c, rfl, _⟩ := row_slice k1
    exact ⟨a, c, rfl, RdS.of_row k1, k2⟩)
  have CB : Hid (∀ W1 a c a' c', RdS W1 (.slice a n c) r.es → RdS W1 (.slice a' n c') r.es → Calls Try.prog 21 #[.slice a n c, .slice a' n c'] W1 fun e W' => e = .returned (.bool true) ∧ Below W1.heap.size W1 W') := fun W1 a c a' c' k1 k2 => same_any hn (by omega) k1 k2
  have HQ : Hid (∀ W', Below W.heap.size W W' → Pq w pb rb r k W' ∧ Below W.heap.size W W') := fun W' hb => ⟨h.below hb, hb⟩
  rw [hn] at C3 C4
  generalize decide (r.st = 1) = β1 at C5 C6
  generalize decide (r.st = 2) = β2 at C7 C8
  clear h h1 h2 h3 hf
  go_enter Try.func12, Try.ntmps12
  go_wp2_with (first
    | (go_at_call 24; refine C1.mono ?_; clear C1; rintro e w1 ⟨rfl, hw1⟩; subst hw1)
    | (go_at_call 27; refine C2.mono ?_; clear C2; rintro e w1 ⟨rfl, hw1⟩; subst hw1)
    | (go_at_call 25; refine C3.mono ?_; clear C3; rintro e w1 ⟨rfl, hw1⟩; subst hw1)
    | (go_at_call 28; refine C4.mono ?_; clear C4; rintro e w1 ⟨rfl, hw1⟩; subst hw1)
    | (go_at_call 23; refine C5.mono ?_; clear C5; rintro e w1 ⟨rfl, hw1⟩; subst hw1)
    | (go_at_call 29; refine C6.mono ?_; clear C6; rintro e w1 ⟨rfl, hw1⟩; subst hw1)
    | (go_at_call 26; refine C7.mono ?_; clear C7; rintro e w1 ⟨rfl, hw1⟩; subst hw1)
    | (go_at_call 30; refine C8.mono ?_; clear C8; rintro e w1 ⟨rfl, hw1⟩; subst hw1)
    | (go_at_call 18; refine C9.out.mono ?_; clear C9; rintro e w2 ⟨a2, c2, rfl, H2⟩)
    | (go_at_call 31; refine (CA.out _ H2.out.2).mono ?_; clear CA; rintro e w3 ⟨a3, c3, rfl, H3⟩)
    | (go_at_call 21; refine (CB.out _ _ _ _ _ (H2.out.1.below (Nat.le_refl _) H3.out.2) H3.out.1).mono ?_; clear CB; rintro e w4 ⟨rfl, hb4⟩; have H4 : Hid (Below w3.heap.size w3 w4) := hb4; clear hb4))
  go_ret
  exact ⟨rfl, HQ.out _ (H2.out.2.trans ((H3.out.2.trans (H4.out.mono H3.out.2.size)).mono H2.out.2.size))⟩
theorem agree_any {w W : World} {pb rb k : Nat} {r : Rg} (h : Pq w pb rb r k W) (hk : k ≤ 33554432) :
    Calls Try.prog 12 #[.pointer (some ⟨pb, 0, none⟩), .pointer (some ⟨rb, 0, none⟩)] W fun e W' => e = .returned (.bool true) ∧ Pq w pb rb r k W' := (agree_below h hk).mono fun _ _ h => ⟨h.1, h.2.1⟩
end Go.Proofs.Ytihagjkdghbkdaa
