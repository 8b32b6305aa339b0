/-
  Package ring's push: a text becomes the newest. Conditions: those of each theorem.
-/
import Derived.Test.YtihagjkdghbkdaaJPro
import Derived.Deep.RegionHeld3
import Derived.BigQuiet
namespace Go.Proofs.Ytihagjkdghbkdaa
open Go.RowKit

/-- a ring's block with the row v, behind a turn of the ring at pb with the row v0 since w -/
structure Pm (w : World) (base pb : Nat) (v0 v : Value) (b st p : Nat) (l : Tl) (W : World) : Prop where
  box : W.heap[pb]? = some (.cells #[.int .i64 (b : Int), v, .int .i64 (st : Int), .int .i64 (p : Int)] 52 (0, 0))
  row : W.ownsRow base 9 1 v l.length (sv l)
  ch : Ch pb v0.ownBlock w W
  nx : Nx w v0.ownBlock v.ownBlock
theorem Pm.drew {w W : World} {base pb b st p : Nat} {v0 v : Value} {l : Tl} (h : Pm w base pb v0 v b st p l W) : Pm w base pb v0 v b st p l W.drew := ⟨h.box, h.row, h.ch, h.nx⟩
theorem Pm.lt {w W : World} {base pb b st p : Nat} {v0 v : Value} {l : Tl} (h : Pm w base pb v0 v b st p l W) : pb < W.heap.size := (Array.getElem?_eq_some_iff.1 h.box).1
theorem Pm.blk {w W : World} {base pb b st p g : Nat} {v0 v : Value} {l : Tl} (h : Pm w base pb v0 v b st p l W) (hg : v.ownBlock = some g) : g ≠ pb ∧ base ≤ g ∧ g < W.heap.size := by
  obtain ⟨⟨cur, hc⟩, h1, h2⟩ := row_blk h.row hg
  refine ⟨fun e => ?_, h1, h2⟩
  have hb := h.box
  rw [e, hb] at hc; injection hc with hc; injection hc with _ ht _; exact absurd ht (by decide)
theorem Pm.below {w W W' : World} {base pb b st p : Nat} {v0 v : Value} {l : Tl} (h : Pm w base pb v0 v b st p l W) (hb : Below W.heap.size W W') : Pm w base pb v0 v b st p l W' :=
  ⟨(hb.block _ h.lt).trans h.box, row_below h.row hb, h.ch.trans h.nx (Ch.below hb), h.nx⟩
/-- the row turned -/
theorem Pm.turned {w W W' : World} {base pb b st p : Nat} {v0 v v' : Value} {l l' : Tl} (h : Pm w base pb v0 v b st p l W) (hr : W'.ownsRow base 9 1 v' l'.length (sv l')) (hg : W.grownBy W' v.ownBlock) (hn : Nx W v.ownBlock v'.ownBlock) :
    W'.heap[pb]? = some (.cells #[.int .i64 (b : Int), v, .int .i64 (st : Int), .int .i64 (p : Int)] 52 (0, 0)) ∧ Pm w base pb v0 v' b st p l' (W'.setCell ⟨pb, 1, none⟩ v') := by
  have hb : W'.heap[pb]? = some (.cells #[.int .i64 (b : Int), v, .int .i64 (st : Int), .int .i64 (p : Int)] 52 (0, 0)) := (hg.block pb h.lt (fun e => (h.blk e.symm).1 rfl)).trans h.box
  have hne : ∀ g, v'.ownBlock = some g → g ≠ pb := fun g e e2 => by
    obtain ⟨⟨cur, hc⟩, _⟩ := row_blk hr e
    rw [e2, hb] at hc; injection hc with hc; injection hc with _ ht _; exact absurd ht (by decide)
  refine ⟨hb, set1 (i := 1) v' hb, row_of_heap hr (fun g e => (gcell W' pb 1 v').block g (row_blk hr e).2.2 (fun e2 => hne g e (Option.some.inj e2))), ?_, h.nx.trans h.ch.2.2.2.1 hn⟩
  exact (h.ch.trans h.nx (Ch.grown hg)).trans (Nx.refl _ _) Ch.cell
theorem Pr.pm {w : World} {base pb : Nat} {v : Value} {r : Rg} (h : Pr w base pb v r) : ∃ p : Nat, (r.st = 2 → p = r.pl) ∧ Pm w base pb v v r.b r.st p r.es w := by
  obtain ⟨p, h1, h2⟩ := h.box
  exact ⟨p, h1, h2, h.row, Ch.refl _ _ _, Nx.refl _ _⟩

set_option maxRecDepth 100000 in
set_option maxHeartbeats 4000000 in
theorem push_any {w : World} {base pb : Nat} {v : Value} {r : Rg} (h : Pr w base pb v r) {t : ByteArray} (ht : t.size ≤ 281474976710656) :
    Calls Try.prog 37 #[.pointer (some ⟨pb, 0, none⟩), .string t] w fun e w' => e = .returned (.tuple #[]) ∧ ∃ v', Pr w' base pb v' (r.push t) ∧ Ch pb v.ownBlock w w' ∧ Nx w v.ownBlock v'.ownBlock := by
  obtain ⟨p, hp, hm⟩ := h.pm
  have hb0 : r.b ≤ 1000 := h.ok.b
  have hl0 : r.es.length ≤ 1000 := by have := h.ok.len; omega
  have HE : Hid (∀ v' W, Pm w base pb v v' r.b r.st p ((t :: r.es).take r.b) W → ∃ v', Pr W base pb v' (r.push t) ∧ Ch pb v.ownBlock w W ∧ Nx w v.ownBlock v'.ownBlock) := fun v' W hW => ⟨v', ⟨⟨p, hp, hW.box⟩, hW.row, h.low, h.ok.push t⟩, hW.ch, hW.nx⟩
  have hbw : base ≤ w.heap.size := by have := h.low; have := h.lt; omega
  obtain ⟨a, c, hv, _⟩ := row_slice h.row
  obtain ⟨b, es, st, pl⟩ := r
  simp only at hb0 hl0 hm HE hv
  obtain ⟨n, hn⟩ : ∃ n, es.length = n := ⟨_, rfl⟩
  rw [hn] at hv hl0
  subst hv
  have C1 : Hid (∀ W, Calls Try.prog 38 #[.string t] W fun e w' => e = .returned (.string t) ∧ Below W.heap.size W w') := fun W => sclone_any t ht W
  have C2 : Hid (∀ W vb, Pm w base pb (.slice a n c) (.slice a n c) b st p es W → W.heap[vb]? = some (.cells #[.string t] 9 (0, 0)) → w.heap.size ≤ vb → Calls Try.prog 40 #[.slice a n c, .int .i64 0, .slice (some ⟨vb, 0, none⟩) 1 1] W fun e w' => ∃ a' c', e = .returned (.slice a' (n + 1) c') ∧ Hid (w'.heap[pb]? = some (.cells #[.int .i64 (b : Int), .slice a n c, .int .i64 (st : Int), .int .i64 (p : Int)] 52 (0, 0)) ∧ Pm w base pb (.slice a n c) (.slice a' (n + 1) c') b st p (t :: es) (w'.setCell ⟨pb, 1, none⟩ (.slice a' (n + 1) c')))) := fun W vb hW hx hvb => by
    refine (ins_any (base := base) (l := es) hW.row (by omega) hx (fun e => ?_) (by have := hW.ch.2.2.2.1; omega)).mono ?_
    · have h1 := (row_blk hW.row e)
      have h2 := (row_blk h.row e).2.2
      omega
    · rintro e w' ⟨v', rfl, h1, h2, h3⟩
      obtain ⟨a', c', rfl, _⟩ := row_slice h1
      refine ⟨a', c', by simp only [List.length_cons, hn], ?_⟩
      have h4 := hW.turned h1 h2 (Nx.or h3)
      simp only [List.length_cons, hn] at h4
      exact h4
  have HM : Hid (Pm w base pb (.slice a n c) (.slice a n c) b st p es w.drew ∧ w.heap.size ≤ w.drew.heap.size) := ⟨hm.drew, Nat.le_refl _⟩
  obtain ⟨⟨c0, c1, c2, c3⟩, f0, f1, f2, f3⟩ := box4 hm.box
  have HA : Hid (∀ (W : World) (o : Obj), pb < W.heap.size → (W.alloc o).cell? ⟨pb, 1, none⟩ = W.cell? ⟨pb, 1, none⟩) := fun W o hl => World.cell?_of_block ((World.grownBy_alloc W o none).block pb hl (by simp))
  have hlt : pb < w.heap.size := hm.lt
  clear hm h hp
  go_enter Try.func37, Try.ntmps37
  go_upto_region 0 with fail
  go_cut [4] (fun _ wc => ∃ a' c', Hid (Pm w base pb (.slice a n c) (.slice a' (n + 1) c') b st p (t :: es) wc))
  case first =>
    go_region_with (first
      | (go_at_call 38; refine (C1.out _).mono ?_; clear C1; rintro e w1 ⟨rfl, hb1⟩; have HM1 : Hid (Pm w base pb (.slice a n c) (.slice a n c) b st p es w1 ∧ w.heap.size ≤ w1.heap.size) := ⟨HM.out.1.below hb1, Nat.le_trans HM.out.2 hb1.size⟩; obtain ⟨⟨d0, d1, d2, d3⟩, -⟩ := box4 HM1.out.1.box; have hl1 := HM1.out.1.lt; have HV : Hid ((w1.alloc (.cells #[.string t] 9)).heap[w1.heap.size]? = some (.cells #[.string t] 9 (0, 0))) := World.alloc_heap_new _ _; have HM2 : Hid (Pm w base pb (.slice a n c) (.slice a n c) b st p es (w1.alloc (.cells #[.string t] 9))) := HM1.out.1.below ((Below.refl _ _).alloc (Nat.le_refl _) _); have e1 := HA.out w1 (.cells #[.string t] 9) hl1; rw [d1] at e1; clear hb1 HM HA)
      | (go_at_call 40; refine (C2.out _ _ HM2.out HV.out HM1.out.2).mono ?_; clear C2; rintro e w3 ⟨a', c', rfl, H3⟩; obtain ⟨⟨g0, g1, g2, g3⟩, i0, i1, i2, i3⟩ := box4 H3.out.1))
    all_goals (go_wp2_with fail; go_meet; exact ⟨_, _, H3.out.2⟩)
  case rest =>
  obtain ⟨a', c', H4⟩ := hcut
  clear C1 C2 HM HA c0 c1 c2 c3 f0 f1 f2 f3
  obtain ⟨⟨c0, c1, c2, c3⟩, f0, f1, f2, f3⟩ := box4 H4.out.box
  by_cases hgt : b < n + 1
  · have hgt' : (b : Int) < (n : Int) + 1 := by omega
    have C3 : Hid (∀ W, Pm w base pb (.slice a n c) (.slice a' (n + 1) c') b st p (t :: es) W → Calls Try.prog 41 #[.slice a' (n + 1) c', .int .i64 (b : Int), .int .i64 ((n : Int) + 1)] W fun e w' => ∃ a2 c2, e = .returned (.slice a2 b c2) ∧ Hid (w'.heap[pb]? = some (.cells #[.int .i64 (b : Int), .slice a' (n + 1) c', .int .i64 (st : Int), .int .i64 (p : Int)] 52 (0, 0)) ∧ Pm w base pb (.slice a n c) (.slice a2 b c2) b st p ((t :: es).take b) (w'.setCell ⟨pb, 1, none⟩ (.slice a2 b c2)))) := fun W hW => by
      have hlen : (t :: es).length = n + 1 := by simp only [List.length_cons]; omega
      have hr := hW.row
      rw [hlen] at hr
      refine (del_any (base := base) (l := t :: es) hlen hr (i := b) (by omega) (by simp)).mono ?_
      rintro e w' ⟨v', rfl, h1, h2, h3⟩
      obtain ⟨a2, c2, rfl, _⟩ := row_slice h1
      have htl : ((t :: es).take b).length = b := by rw [List.length_take, hlen]; omega
      have h4 := hW.turned (v' := .slice a2 b c2) (l' := (t :: es).take b) (by rw [htl]; exact h1) h2 (Nx.or (.inl h3))
      exact ⟨a2, c2, rfl, h4⟩
    go_wp2
    go_quiet (fail)
    go_wp2
    have HP4 : Hid (∀ m, Pm w base pb (.slice a n c) (.slice a' (n + 1) c') b st p (t :: es) (wc.drewN m)) := fun m => ⟨H4.out.box, H4.out.row, H4.out.ch, H4.out.nx⟩
    clear H4
    go_region_with (first
      | (go_at_call 41; refine (C3.out _ (HP4.out _)).mono ?_; clear C3; rintro e w5 ⟨a2, c2, rfl, H5⟩; obtain ⟨⟨g0, g1, g2, g3⟩, i0, i1, i2, i3⟩ := box4 H5.out.1))
    all_goals go_wp2
    all_goals go_end0
    all_goals exact ⟨rfl, HE.out _ _ H5.out.2⟩
  · have hgt' : ¬ (b : Int) < (n : Int) + 1 := by omega
    go_wp2
    go_quiet (fail)
    go_wp2
    go_end0
    refine ⟨rfl, HE.out (.slice a' (n + 1) c') _ ?_⟩
    rw [List.take_of_length_le (by simp only [List.length_cons]; omega)]
    exact ⟨H4.out.box, H4.out.row, H4.out.ch, H4.out.nx⟩
end Go.Proofs.Ytihagjkdghbkdaa
