/-
  A set of package marks beside the document's own one: what stays while either is turned. No program is walked in this text; no conditions beyond.
-/
import Derived.Test.YtolafffpgkgadaaEAgr
namespace Go.Proofs.Ytolafffpgkgadaa
open Go.RowKit

/-- nothing but the two sets is turned -/
def PCh (sb : Nat) (mb : Option Nat) (rb : Nat) (vb : Option Nat) (w w' : World) : Prop :=
  w'.os = w.os ∧ w'.tape = w.tape ∧ w'.output = w.output ∧ w.heap.size ≤ w'.heap.size ∧ ∀ k, k < w.heap.size → k ≠ sb → mb ≠ some k → k ≠ rb → vb ≠ some k → w'.heap[k]? = w.heap[k]?
theorem PCh.refl (sb rb : Nat) (mb vb : Option Nat) (w : World) : PCh sb mb rb vb w w := ⟨rfl, rfl, rfl, Nat.le_refl _, fun _ _ _ _ _ _ => rfl⟩
theorem PCh.trans {sb rb : Nat} {mb vb mb' vb' : Option Nat} {w w1 w2 : World} (h : PCh sb mb rb vb w w1) (h1 : Nx w mb mb') (h2 : Nx w vb vb') (g : PCh sb mb' rb vb' w1 w2) : PCh sb mb rb vb w w2 :=
  ⟨g.1.trans h.1, g.2.1.trans h.2.1, g.2.2.1.trans h.2.2.1, Nat.le_trans h.2.2.2.1 g.2.2.2.1, fun k hk a b c d => by
    rw [g.2.2.2.2 k (Nat.lt_of_lt_of_le hk h.2.2.2.1) a (fun e => ?_) c (fun e => ?_), h.2.2.2.2 k hk a b c d]
    · rcases h1 k e with e | e
      · exact b e
      · omega
    · rcases h2 k e with e | e
      · exact d e
      · omega⟩
theorem PCh.ofS {sb rb : Nat} {mb vb : Option Nat} {w w' : World} (h : Ch sb mb w w') : PCh sb mb rb vb w w' := ⟨h.1, h.2.1, h.2.2.1, h.2.2.2.1, fun k hk a b _ _ => h.2.2.2.2 k hk a b⟩
theorem PCh.ofR {sb rb : Nat} {mb vb : Option Nat} {w w' : World} (h : Ch rb vb w w') : PCh sb mb rb vb w w' := ⟨h.1, h.2.1, h.2.2.1, h.2.2.2.1, fun k hk _ _ c d => h.2.2.2.2 k hk c d⟩
theorem PCh.below {sb rb : Nat} {mb vb : Option Nat} {w w' : World} (h : Below w.heap.size w w') : PCh sb mb rb vb w w' := .ofS (Ch.below h)
theorem Nw.x {w : World} {r r' : Option Nat} (h : Nw w r r') : Nx w r r' := fun k e => by
  rcases h with rfl | ⟨j, rfl, hj⟩
  · exact .inl e
  · cases e; exact .inr hj

/-- a set with the marks L, the document's with the marks M, and a block that is only read, since w; since W1 nothing else was turned -/
structure Px (w W1 : World) (mb0 vb0 : Option Nat) (ob : Nat) (bx : Array Value) (sb : Nat) (mb : Option Nat) (rb : Nat) (v : Value) (L M : Ml) (W : World) : Prop where
  st : St W sb mb L
  rs : Rs W w.heap.size rb v M
  bel : Below w.heap.size w W
  sl : w.heap.size ≤ sb
  ml : ∀ b, mb = some b → w.heap.size ≤ b
  box : W.heap[ob]? = some (.cells bx 34 (0, 0))
  ch : PCh sb mb0 rb vb0 W1 W
  n1 : Nx W1 mb0 mb
  n2 : Nx W1 vb0 v.ownBlock
theorem Px.keep {w W1 W W' : World} {mb0 vb0 : Option Nat} {ob : Nat} {bx : Array Value} {sb : Nat} {mb mb' : Option Nat} {rb : Nat} {v v' : Value} {L M L' M' : Ml} (h : Px w W1 mb0 vb0 ob bx sb mb rb v L M W)
    (hs : St W' sb mb' L') (hr : Rs W' w.heap.size rb v' M') (hc : PCh sb mb rb v.ownBlock W W') (h1 : Nx W mb mb') (h2 : Nx W v.ownBlock v'.ownBlock) : Px w W1 mb0 vb0 ob bx sb mb' rb v' L' M' W' := by
  have hsz := h.bel.size
  refine ⟨hs, hr, ⟨hc.1.trans h.bel.os, hc.2.1.trans h.bel.tape, hc.2.2.1.trans h.bel.output, Nat.le_trans h.bel.size hc.2.2.2.1, fun k hk => (hc.2.2.2.2 k (by omega) (by have := h.sl; omega) (fun e => by have := h.ml k e; omega) (by have := h.rs.low; omega) (fun e => by obtain ⟨_, _, hb⟩ := h.rs.blk e; omega)).trans (h.bel.block k hk)⟩, h.sl, fun b e => ?_, ?_, h.ch.trans h.n1 h.n2 hc, h.n1.trans h.ch.2.2.2.1 h1, h.n2.trans h.ch.2.2.2.1 h2⟩
  · rcases h1 b e with e | e
    · exact h.ml b e
    · omega
  · refine (hc.2.2.2.2 ob (Array.getElem?_eq_some_iff.1 h.box).1 (fun e => ?_) (fun e => ?_) (fun e => ?_) (fun e => ?_)).trans h.box
    · have hb := h.box; rw [e, h.st.box] at hb; injection hb with hb; injection hb with _ ht _; exact absurd ht (by decide)
    · obtain ⟨es, clock, hb, _⟩ := (h.st.own ob e).2.1; rw [h.box] at hb; cases hb
    · have hb := h.box; rw [e, h.rs.box] at hb; injection hb with hb; injection hb with _ ht _; exact absurd ht (by decide)
    · obtain ⟨cur, hb, _⟩ := h.rs.blk e; rw [h.box] at hb; injection hb with hb; injection hb with _ ht _; exact absurd ht (by decide)
theorem Px.set {w W1 W W' : World} {mb0 vb0 : Option Nat} {ob : Nat} {bx : Array Value} {sb : Nat} {mb mb' : Option Nat} {rb : Nat} {v : Value} {L M L' : Ml} (h : Px w W1 mb0 vb0 ob bx sb mb rb v L M W)
    (hs : St W' sb mb' L') (hc : Ch sb mb W W') (h1 : Nx W mb mb') : Px w W1 mb0 vb0 ob bx sb mb' rb v L' M W' := h.keep hs (h.rs.keptS h.st hc) (.ofS hc) h1 (Nx.refl _ _)
theorem Px.ref {w W1 W W' : World} {mb0 vb0 : Option Nat} {ob : Nat} {bx : Array Value} {sb : Nat} {mb : Option Nat} {rb : Nat} {v v' : Value} {L M M' : Ml} (h : Px w W1 mb0 vb0 ob bx sb mb rb v L M W)
    (hr : Rs W' w.heap.size rb v' M') (hc : Ch rb v.ownBlock W W') (h2 : Nx W v.ownBlock v'.ownBlock) : Px w W1 mb0 vb0 ob bx sb mb rb v' L M' W' := h.keep (h.st.keptR h.rs hc) hr (.ofR hc) (Nx.refl _ _) h2
theorem Px.below {w W1 W W' : World} {mb0 vb0 : Option Nat} {ob : Nat} {bx : Array Value} {sb : Nat} {mb : Option Nat} {rb : Nat} {v : Value} {L M : Ml} (h : Px w W1 mb0 vb0 ob bx sb mb rb v L M W)
    (hb : Below W.heap.size W W') : Px w W1 mb0 vb0 ob bx sb mb rb v L M W' := h.keep (h.st.below hb) (h.rs.below hb) (.below hb) (Nx.refl _ _) (Nx.refl _ _)
theorem Px.cell {w W1 W : World} {mb0 vb0 : Option Nat} {ob : Nat} {bx : Array Value} {sb : Nat} {mb : Option Nat} {rb : Nat} {v : Value} {L M : Ml} (h : Px w W1 mb0 vb0 ob bx sb mb rb v L M W) (i : Nat) :
    W.cell? ⟨ob, i, none⟩ = bx[i]? := by simp [World.cell?, h.box]
theorem drew_below (W : World) : Below W.heap.size W W.drew := ⟨rfl, rfl, rfl, Nat.le_refl _, fun _ _ => rfl⟩
/-- what is handed in stays while the set is turned -/
theorem Px.lowS {w W1 W W' : World} {mb0 vb0 : Option Nat} {ob : Nat} {bx : Array Value} {sb : Nat} {mb : Option Nat} {rb : Nat} {v : Value} {L M : Ml} (h : Px w W1 mb0 vb0 ob bx sb mb rb v L M W) (hc : Ch sb mb W W') : Below w.heap.size w W' := hc.low h.bel (Nat.le_refl _) h.sl h.ml
theorem Px.lowR {w W1 W W' : World} {mb0 vb0 : Option Nat} {ob : Nat} {bx : Array Value} {sb : Nat} {mb : Option Nat} {rb : Nat} {v : Value} {L M : Ml} (h : Px w W1 mb0 vb0 ob bx sb mb rb v L M W) (hc : Ch rb v.ownBlock W W') : Below w.heap.size w W' := hc.low h.bel (Nat.le_refl _) h.rs.low (fun k e => by obtain ⟨_, _, hb⟩ := h.rs.blk e; exact hb)
/-- a row of marks stays while the set is turned -/
theorem row_ch {W W' : World} {base sb n : Nat} {mb : Option Nat} {L : Ml} {v : Value} {xs : List Value} (hr : W.ownsRow base 26 2 v n xs) (h : St W sb mb L) (hc : Ch sb mb W W') : W'.ownsRow base 26 2 v n xs := by
  refine ⟨hr.1, hr.2.imp id (fun ⟨g, cap, cur, h1, h2, h3, h4⟩ => ⟨g, cap, cur, h1, h2, (hc.2.2.2.2 g (Array.getElem?_eq_some_iff.1 h3).1 (fun e => ?_) (fun e => ?_)).trans h3, h4⟩)⟩
  · rw [e, h.box] at h3; injection h3 with hb; injection hb with _ ht _; exact absurd ht (by decide)
  · obtain ⟨es, clock, hb, _⟩ := (h.own g e).2.1; rw [h3] at hb; cases hb
/-- a row of marks stays while the document's set gets another list -/
theorem row_chR {W W' : World} {base base' rb n : Nat} {L : Ml} {v u : Value} {xs : List Value} (hr : W.ownsRow base 26 2 v n xs) (h : Rs W base' rb u L) (hc : Ch rb none W W') : W'.ownsRow base 26 2 v n xs := by
  refine ⟨hr.1, hr.2.imp id (fun ⟨g, cap, cur, h1, h2, h3, h4⟩ => ⟨g, cap, cur, h1, h2, (hc.2.2.2.2 g (Array.getElem?_eq_some_iff.1 h3).1 (fun e => ?_) (by simp)).trans h3, h4⟩)⟩
  rw [e, h.box] at h3; injection h3 with hb; injection hb with _ ht _; exact absurd ht (by decide)

/-- the places after so many calls -/
def Bd (k : Nat) (L : Ml) : Prop := ∀ p ∈ L, 0 ≤ p.2 ∧ p.2 ≤ 549755813888 + 1048576 * (k : Int)
theorem Bd.nil (k : Nat) : Bd k [] := fun _ h => by cases h
theorem Bd.mono {k : Nat} {L : Ml} (h : Bd k L) : Bd (k + 1) L := fun p hp => ⟨(h p hp).1, by have := (h p hp).2; omega⟩
theorem Bd.put {k n : Nat} {a : Int} {L : Ml} (h : Bd k L) (ha : a ≤ 549755813888) : Bd k (putL n a L) := fun p hp => by
  unfold putL at hp
  split at hp
  · rename_i c
    rcases lay_mem hp with rfl | hp
    · simp at c; exact ⟨c.2, by simp only; omega⟩
    · exact h p hp
  · exact h p hp
theorem Bd.ld {k : Nat} : ∀ {ms L : Ml}, Bd k L → (∀ p ∈ ms, p.2 ≤ 549755813888) → Bd k (ld L ms)
  | [], _, h, _ => h
  | p :: ms, L, h, hm => by
    show Bd k (Go.Proofs.Ytolafffpgkgadaa.ld (putL p.1 p.2 L) ms)
    exact Bd.ld (h.put (hm p List.mem_cons_self)) (fun q hq => hm q (List.mem_cons_of_mem _ hq))
theorem Bd.drop {k n : Nat} {L : Ml} (h : Bd k L) : Bd k (drpL n L) := fun p hp => by
  unfold drpL at hp
  split at hp
  · exact h p (List.mem_filter.1 hp).1
  · exact h p hp
theorem Bd.move {k : Nat} {ds : List Dl} {L : Ml} (h : Bd k L) (hd : ∀ d ∈ ds, 0 ≤ d.a) (hs : dls ds ≤ 1048576) : Bd (k + 1) (mvL ds L) := fun p hp => by
  obtain ⟨q, hq, rfl⟩ := List.mem_map.1 hp
  have h1 := h q hq
  have h2 := mvs_bd hd h1.1
  exact ⟨h2.1, by simp only; omega⟩
theorem Gdl.drop {n : Nat} {L : Ml} (h : Gdl L) : Gdl (drpL n L) := fun p hp => by
  unfold drpL at hp
  split at hp
  · exact h p (List.mem_filter.1 hp).1
  · exact h p hp
theorem Gdl.move {ds : List Dl} {L : Ml} (h : Gdl L) : Gdl (mvL ds L) := fun p hp => by
  obtain ⟨q, hq, rfl⟩ := List.mem_map.1 hp
  exact h q hq
end Go.Proofs.Ytolafffpgkgadaa
