/-
  The document's own binder of layer 19 in memory: New, Prefix, Count, Reset, Clone and Key. Conditions: the binder's block holds what waits.
-/
import Derived.Test.YtmaolbibbjngcaaDoorIRfj
import Derived.Test.YtmaolbibbjngcaaDoorIRfk
import Derived.Test.YtmaolbibbjngcaaDoorIRfl
import Derived.Test.YtmaolbibbjngcaaDoorIRfp
import Derived.Deep.CutRange
namespace Go.Proofs.YtmaolbibbjngcaaDoor
open Go.RowKit

/-- the block of the document's own binder -/
def Rn (b : Nat) (s : Bs) (W : World) : Prop := W.heap[b]? = some (.cells (bsc s) 55 (0, 0))
theorem Rn.below {b : Nat} {s : Bs} {W X : World} (h : Rn b s W) (hb : Below W.heap.size W X) : Rn b s X := by
  unfold Rn at h ⊢
  rw [hb.block b (Array.getElem?_eq_some_iff.1 h).1]; exact h
/-- while Key works: what waits, the key's box, the answer's box, still zero -/
structure Rke (w : World) (b : Nat) (s : Bs) (k : Ky) (W : World) : Prop where
  lt : b < w.heap.size
  bn : Rn b s W
  kx : W.heap[w.heap.size]? = some (.cells (kyc k) 30 (0, 0))
  rs : W.heap[w.heap.size + 1]? = some (.cells (cmc cmz) 34 (0, 0))
  g : w.grownBy W (some b)
theorem Rke.below {w W X : World} {b : Nat} {s : Bs} {k : Ky} (h : Rke w b s k W) (hb : Below W.heap.size W X) : Rke w b s k X :=
  ⟨h.lt, h.bn.below hb, (hb.block _ (Array.getElem?_eq_some_iff.1 h.kx).1).trans h.kx, (hb.block _ (Array.getElem?_eq_some_iff.1 h.rs).1).trans h.rs, grown2 h.g (gof hb b)⟩
theorem Rke.to {w W X : World} {b : Nat} {s t : Bs} {k : Ky} (h : Rke w b s k W) (h1 : Rn b t X) (hg : W.grownBy X (some b)) : Rke w b t k X :=
  ⟨h.lt, h1, (hg.block _ (Array.getElem?_eq_some_iff.1 h.kx).1 (by have := h.lt; intro e; cases e; omega)).trans h.kx, (hg.block _ (Array.getElem?_eq_some_iff.1 h.rs).1 (by have := h.lt; intro e; cases e; omega)).trans h.rs, grown2 h.g hg⟩
theorem Rke.drew {w W : World} {b : Nat} {s : Bs} {k : Ky} (h : Rke w b s k W) : Rke w b s k W.drew := ⟨h.lt, h.bn, h.kx, h.rs, ⟨h.g.os, h.g.tape, h.g.output, h.g.size, h.g.block⟩⟩
theorem Rke.alloc {w W : World} {b : Nat} {s : Bs} {k : Ky} (h : Rke w b s k W) (o : Obj) : Rke w b s k (W.alloc o) := h.below ((Below.refl _ W).alloc (Nat.le_refl _) _)
theorem rke0 {w : World} {b : Nat} {s : Bs} (h : Rn b s w) (k : Ky) : Rke w b s k ((w.alloc (.cells (kyc k) 30)).alloc (.cells (cmc cmz) 34)) := by
  have e1 : (w.alloc (.cells (kyc k) 30)).heap.size = w.heap.size + 1 := by simp
  have hl := (Array.getElem?_eq_some_iff.1 h).1
  have hB : Below w.heap.size w ((w.alloc (.cells (kyc k) 30)).alloc (.cells (cmc cmz) 34)) := ((Below.refl _ w).alloc (Nat.le_refl _) _).alloc (by simp) _
  refine ⟨hl, h.below hB, ?_, ?_, gof hB b⟩
  · rw [Below.heap_alloc _ _ _ (by simp)]
    exact World.alloc_heap_new _ _
  · have := World.alloc_heap_new (w.alloc (.cells (kyc k) 30)) (.cells (cmc cmz) 34)
    rwa [e1] at this
/-- the answer is written -/
theorem Rke.fin {w W : World} {b : Nat} {s : Bs} {k : Ky} (h : Rke w b s k W) (u0 u1 u2 u3 : Value) : let W' := (((W.setCell ⟨w.heap.size + 1, 0, none⟩ u0).setCell ⟨w.heap.size + 1, 1, none⟩ u1).setCell ⟨w.heap.size + 1, 2, none⟩ u2).setCell ⟨w.heap.size + 1, 3, none⟩ u3
    Rn b s W' ∧ w.grownBy W' (some b) ∧ (W'.cell? ⟨w.heap.size + 1, 0, none⟩ = some u0 ∧ W'.cell? ⟨w.heap.size + 1, 1, none⟩ = some u1 ∧ W'.cell? ⟨w.heap.size + 1, 2, none⟩ = some u2 ∧ W'.cell? ⟨w.heap.size + 1, 3, none⟩ = some u3) := by
  have hl := h.lt
  have n1 : w.heap.size + 1 ≠ b := by omega
  have G : ∀ (X : World) (i : Nat) (u : Value), w.grownBy X (some b) → w.grownBy (X.setCell ⟨w.heap.size + 1, i, none⟩ u) (some b) := fun X i u g => by
    have e := gcell X (w.heap.size + 1) i u
    exact ⟨e.os.trans g.os, e.tape.trans g.tape, e.output.trans g.output, Nat.le_trans g.size e.size, fun k hk hr => (iset_ne (by omega)).trans (g.block k hk hr)⟩
  refine ⟨?_, G _ _ _ (G _ _ _ (G _ _ _ (G _ _ _ h.g))), (box4 (set4 h.rs)).1⟩
  unfold Rn
  rw [iset_ne n1, iset_ne n1, iset_ne n1, iset_ne n1]
  exact h.bn
/-- and the box of the command under way -/
structure Rkc (w : World) (b : Nat) (s : Bs) (k : Ky) (n : Nat) (vs : Array Value) (W : World) : Prop where
  ke : Rke w b s k W
  gt : w.heap.size + 1 < n
  bx : W.heap[n]? = some (.cells vs 34 (0, 0))
theorem Rkc.below {w W X : World} {b n : Nat} {s : Bs} {k : Ky} {vs : Array Value} (h : Rkc w b s k n vs W) (hb : Below W.heap.size W X) : Rkc w b s k n vs X :=
  ⟨h.ke.below hb, h.gt, (hb.block _ (Array.getElem?_eq_some_iff.1 h.bx).1).trans h.bx⟩
theorem Rkc.to {w W X : World} {b n : Nat} {s t : Bs} {k : Ky} {vs : Array Value} (h : Rkc w b s k n vs W) (h1 : Rn b t X) (hg : W.grownBy X (some b)) : Rkc w b t k n vs X :=
  ⟨h.ke.to h1 hg, h.gt, (hg.block _ (Array.getElem?_eq_some_iff.1 h.bx).1 (by have := h.ke.lt; have := h.gt; intro e; cases e; omega)).trans h.bx⟩
theorem Rkc.drew {w W : World} {b n : Nat} {s : Bs} {k : Ky} {vs : Array Value} (h : Rkc w b s k n vs W) : Rkc w b s k n vs W.drew := ⟨h.ke.drew, h.gt, h.bx⟩
theorem rkc0 {w W : World} {b : Nat} {s : Bs} {k : Ky} (h : Rke w b s k W) (vs : Array Value) : Rkc w b s k W.heap.size vs (W.alloc (.cells vs 34)) :=
  ⟨h.alloc _, by have := (Array.getElem?_eq_some_iff.1 h.rs).1; omega, World.alloc_heap_new _ _⟩
theorem Rkc.set {w W : World} {b n : Nat} {s : Bs} {k : Ky} {vs : Array Value} (h : Rkc w b s k n vs W) (i : Nat) (u : Value) : Rkc w b s k n (vs.setIfInBounds i u) (W.setCell ⟨n, i, none⟩ u) := by
  have hl := h.ke.lt
  have hn := h.gt
  have g := h.ke.g
  have e := gcell W n i u
  refine ⟨⟨hl, (iset_ne (by omega)).trans h.ke.bn, (iset_ne (by omega)).trans h.ke.kx, (iset_ne (by omega)).trans h.ke.rs, ⟨e.os.trans g.os, e.tape.trans g.tape, e.output.trans g.output, Nat.le_trans g.size e.size, fun k hk hr => (iset_ne (by omega)).trans (g.block k hk hr)⟩⟩, hn, set1 u h.bx⟩
theorem Rke.set {w W : World} {b : Nat} {s t : Bs} {k : Ky} (h : Rke w b s k W) (i : Nat) (u : Value) (ht : (bsc s).setIfInBounds i u = bsc t) : Rke w b t k (W.setCell ⟨b, i, none⟩ u) :=
  ⟨h.lt, by unfold Rn; rw [← ht]; exact set1 u h.bn, (iset_ne (by have := h.lt; omega)).trans h.kx, (iset_ne (by have := h.lt; omega)).trans h.rs, grown2 h.g (gcell _ _ _ _)⟩
section
set_option maxRecDepth 100000
set_option maxHeartbeats 2000000
theorem rnw_any (w : World) : Calls Tryd.prog 11 #[] w fun e w' => e = .returned (.pointer (some ⟨w.heap.size, 0, none⟩)) ∧ w' = w.alloc (.cells (bsc bsz) 55) := by
  go_enter Tryd.func11, Tryd.ntmps11
  go_wp2
  go_ret
  exact ⟨rfl, rfl⟩
theorem rpf_any (b : Nat) (s : Bs) (w : World) (h : Rn b s w) : Calls Tryd.prog 28 #[.pointer (some ⟨b, 0, none⟩)] w fun e w' => e = .returned (.string s.px) ∧ w' = w := by
  obtain ⟨⟨c0, -, -⟩, -⟩ := box3 h
  clear h
  obtain ⟨px, n, has⟩ := s
  simp only at c0 ⊢
  go_enter Tryd.func28, Tryd.ntmps28
  go_wp2
  go_ret
  exact ⟨rfl, rfl⟩
theorem rct_any (b : Nat) (s : Bs) (w : World) (h : Rn b s w) : Calls Tryd.prog 27 #[.pointer (some ⟨b, 0, none⟩)] w fun e w' => e = .returned (.tuple #[.int .i64 s.count, .bool s.has]) ∧ Below w.heap.size w w' := by
  obtain ⟨⟨-, c1, c2⟩, -⟩ := box3 h
  have HB : Hid (Below w.heap.size w w ∧ Below w.heap.size w w.drew) := ⟨Below.refl _ w, below_drew (Below.refl _ w)⟩
  clear h
  obtain ⟨px, n, has⟩ := s
  simp only [Bs.count] at c1 c2 ⊢
  cases has
  · rw [if_neg (fun e => Bool.noConfusion e)]
    go_enter Tryd.func27, Tryd.ntmps27
    go_wp2_with (fail)
    go_region
    all_goals
      go_wp2
      exact bodyPost_ret (v := .tuple #[.int .i64 1, .bool false]) (by simp [results, Tryd.results27, go_sem]) rfl ⟨rfl, HB.out.2⟩
  · rw [if_pos rfl]
    by_cases hn : n < 1
    · rw [show max n 1 = 1 by omega]
      go_enter Tryd.func27, Tryd.ntmps27
      go_wp2_with (fail)
      go_region
      all_goals
        go_wp2
        exact bodyPost_ret (v := .tuple #[.int .i64 1, .bool true]) (by simp [results, Tryd.results27, go_sem]) rfl ⟨rfl, HB.out.2⟩
    · rw [show max n 1 = n by omega]
      go_enter Tryd.func27, Tryd.ntmps27
      go_wp2
      exact bodyPost_ret (v := .tuple #[.int .i64 n, .bool true]) (by simp [results, Tryd.results27, go_sem]) rfl ⟨rfl, HB.out.1⟩
theorem rrs_any (b : Nat) (s : Bs) (w : World) (h : Rn b s w) : Calls Tryd.prog 37 #[.pointer (some ⟨b, 0, none⟩)] w fun e w' => e = .returned (.tuple #[]) ∧ Rn b bsz w' ∧ w.grownBy w' (some b) := by
  obtain ⟨⟨c0, c1, c2⟩, ⟨f0, f1, f2⟩, -⟩ := box3 h
  have H : Hid (Rn b bsz (((w.setCell ⟨b, 0, none⟩ (.string ⟨#[]⟩)).setCell ⟨b, 1, none⟩ (.int .i64 0)).setCell ⟨b, 2, none⟩ (.bool false))) := set1 (.bool false) (set1 (.int .i64 0) (set1 (.string ⟨#[]⟩) h))
  clear h
  obtain ⟨px, n, has⟩ := s
  simp only at c0 c1 c2
  go_enter Tryd.func37, Tryd.ntmps37
  go_wp2
  exact bodyPost_end (v := .tuple #[]) (by simp [results, Tryd.results37, go_sem]) rfl ⟨rfl, H.out, grown2 (grown2 (gcell _ _ _ _) (gcell _ _ _ _)) (gcell _ _ _ _)⟩
theorem rcl_any (b : Nat) (s : Bs) (w : World) (h : Rn b s w) : Calls Tryd.prog 13 #[.pointer (some ⟨b, 0, none⟩)] w fun e w' => ∃ c, e = .returned (.pointer (some ⟨c, 0, none⟩)) ∧ w.heap.size ≤ c ∧ Rn c s w' ∧ Below w.heap.size w w' := by
  obtain ⟨⟨c0, c1, c2⟩, -, -⟩ := box3 h
  have HA : Hid (Rn w.heap.size s (w.drew.alloc (.cells (bsc s) 55)) ∧ Below w.heap.size w (w.drew.alloc (.cells (bsc s) 55))) := ⟨World.alloc_heap_new w.drew _, (below_drew (Below.refl _ w)).alloc (Nat.le_refl _) _⟩
  clear h
  obtain ⟨px, n, has⟩ := s
  simp only [bsc] at c0 c1 c2 HA ⊢
  go_enter Tryd.func13, Tryd.ntmps13
  go_wp2_with (fail)
  go_region
  all_goals
    go_wp2
    go_ret
    exact ⟨_, rfl, Nat.le_refl _, HA.out.1, HA.out.2⟩
end
end Go.Proofs.YtmaolbibbjngcaaDoor
