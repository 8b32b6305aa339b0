/-
  The walk of the law MarksEnds: of any places and deltas all calls of a set end. Conditions: what the law reads is of at most 1048576 values and letters.
-/
import Derived.Test.YtolafffpgkgadaaESnap
import Derived.Test.YtolafffpgkgadaaELay
namespace Go.Proofs.Ytolafffpgkgadaa
open Go.RowKit

/-- a set, since w -/
structure Ec (w : World) (sb : Nat) (mb : Option Nat) (L : Ml) (W : World) : Prop where
  st : St W sb mb L
  g : Gdl L
  bel : Below w.heap.size w W
  sl : w.heap.size ≤ sb
  ml : ∀ b, mb = some b → w.heap.size ≤ b
theorem Ec.below {w W W' : World} {sb : Nat} {mb : Option Nat} {L : Ml} (h : Ec w sb mb L W) (hb : Below W.heap.size W W') : Ec w sb mb L W' := ⟨h.st.below hb, h.g, h.bel.trans (hb.mono h.bel.size), h.sl, h.ml⟩
theorem Ec.low {w W W' : World} {sb : Nat} {mb : Option Nat} {L : Ml} (h : Ec w sb mb L W) (hc : Ch sb mb W W') : Below w.heap.size w W' := hc.low h.bel (Nat.le_refl _) h.sl h.ml
theorem Ec.set {w W W' : World} {sb : Nat} {mb mb' : Option Nat} {L L' : Ml} (h : Ec w sb mb L W) (hs : St W' sb mb' L') (hg : Gdl L') (hc : Ch sb mb W W') (hn : Nx W mb mb') : Ec w sb mb' L' W' :=
  ⟨hs, hg, h.low hc, h.sl, fun b e => by
    rcases hn b e with e | e
    · exact h.ml b e
    · have := h.bel.size; omega⟩
/-- a block of another kind stays while the set is turned -/
theorem Ec.blk {w W W' : World} {sb ob : Nat} {mb : Option Nat} {L : Ml} {bx : Array Value} (h : Ec w sb mb L W) (hc : Ch sb mb W W') (hb : W.heap[ob]? = some (.cells bx 34 (0, 0))) : W'.heap[ob]? = some (.cells bx 34 (0, 0)) := by
  refine (hc.2.2.2.2 ob (Array.getElem?_eq_some_iff.1 hb).1 (fun e => ?_) (fun e => ?_)).trans hb
  · rw [e, h.st.box] at hb; injection hb with hb; injection hb with _ ht _; exact absurd ht (by decide)
  · obtain ⟨es, clock, hm, _⟩ := (h.st.own ob e).2.1; rw [hb] at hm; cases hm
/-- the Snapper, new -/
theorem sn_new (W : World) (x y z : Int) : Sn ((W.alloc (.cells #[.int .i64 x, .int .i64 y, .int .i64 z] 3)).alloc (.cells #[.slice (some ⟨W.heap.size, 0, none⟩) 3 3, .slice none 0 0] 44)) (W.heap.size + 1) (W.heap.size + 1) (some ⟨W.heap.size, 0, none⟩) 3 (.slice none 0 0) [x, y, z] [] := by
  obtain ⟨W1, h1⟩ : ∃ W1, W.alloc (.cells #[.int .i64 x, .int .i64 y, .int .i64 z] 3) = W1 := ⟨_, rfl⟩
  have hs : W1.heap.size = W.heap.size + 1 := by rw [← h1]; simp
  have hb : Below W1.heap.size W1 (W1.alloc (.cells #[.slice (some ⟨W.heap.size, 0, none⟩) 3 3, .slice none 0 0] 44)) := (Below.refl _ W1).alloc (Nat.le_refl _) _
  have hc : W1.heap[W.heap.size]? = some (.cells #[.int .i64 x, .int .i64 y, .int .i64 z] 3 (0, 0)) := by rw [← h1]; exact World.alloc_heap_new W _
  rw [h1]
  refine ⟨by rw [← hs]; exact World.alloc_heap_new W1 _, ⟨_, _, rfl, fun _ => ⟨W.heap.size, 0, rfl, by have := hb.size; omega, fun k v hk => ?_⟩⟩, World.ownsRow_nil _ _ _ _, Nat.le_refl _, fun g o e _ => by cases e; exact .inl (by omega)⟩
  have hblk := (hb.block W.heap.size (by omega)).trans hc
  rcases k with _ | _ | _ | k
  · cases hk; simp [World.cell?, hblk]
  · cases hk; simp [World.cell?, hblk]
  · cases hk; simp [World.cell?, hblk]
  · simp at hk
theorem Ec.snap {w W W' : World} {sb tb : Nat} {mb : Option Nat} {L L' : Ml} (h : Ec w sb mb L W) (h0 : w.heap.size ≤ tb) (hs : St W' sb mb L') (hg : Gdl L') (hc : PCh sb mb tb none W W') : Ec w sb mb L' W' :=
  ⟨hs, hg, ⟨hc.1.trans h.bel.os, hc.2.1.trans h.bel.tape, hc.2.2.1.trans h.bel.output, Nat.le_trans h.bel.size hc.2.2.2.1, fun k hk => (hc.2.2.2.2 k (by have := h.bel.size; omega) (by have := h.sl; omega) (fun e => by have := h.ml k e; omega) (by omega) (by simp)).trans (h.bel.block k hk)⟩, h.sl, h.ml⟩

set_option maxRecDepth 100000 in
set_option maxHeartbeats 2000000 in
theorem walk_of (fa : Option Addr) (fn fc : Nat) (oa : Option Addr) (on oc : Nat) (p : Int) (da : Option Addr) (dn dc : Nat) (w : World) (ms : Ml) (hR : RdK w (.slice fa fn fc) ms) (hb : ms.length ≤ 1048576 ∧ Fit8 ms) (os : List Oq) (hO : RdO w (.slice oa on oc) os) (ho : oqs os ≤ 1048576 ∧ ∀ x ∈ os, x.fit) (hp : i64ok p) (ds : List Dl) (hD : RdD w (.slice da dn dc) ds) (hd : ds.length + dls ds ≤ 1048576 ∧ ∀ x ∈ ds, x.fit) :
    Calls Try.prog 7 #[.slice fa fn fc, .slice oa on oc, .int .i64 p, .slice da dn dc] w fun e w' => e = .returned (.bool true) ∧ Below w.heap.size w w' := by
  have CL := lays_any w
  have hN1 : ms.length = fn := by obtain ⟨_, _, e, _⟩ := hR; cases e; rfl
  have hN2 : os.length = on := by obtain ⟨_, _, e, _⟩ := hO; cases e; rfl
  have hN3 : ds.length = dn := by obtain ⟨_, _, e, _⟩ := hD; cases e; rfl
  have hol := oqs_len os
  have hon : on ≤ 1048576 := by omega
  have CMd : Hid (∀ W, Below w.heap.size w W → Calls Try.prog 31 #[.int .i64 p, .slice da dn dc] W fun e w' => e = .returned (.int .i64 (mvs p ds)) ∧ Below W.heap.size W w') := fun W hb => Moved_any hN3 (by omega) hd.2 (hD.below (Nat.le_refl _) hb) p hp
  have CN : Hid (∀ W, Below w.heap.size w W → Calls Try.prog 9 #[.slice fa fn fc] W fun e w' => ∃ sb mb L, e = .returned (.pointer (some ⟨sb, 0, none⟩)) ∧ Ec w sb mb L w') := fun W hb1 => by
    refine (new_any hN1 (by omega) hb.2 (hR.below (Nat.le_refl _) hb1)).mono ?_
    rintro e w' ⟨rfl, mb, h1, h2, h3⟩
    exact ⟨_, mb, _, rfl, h1, Gdl.nil.ld, hb1.trans (h2.mono hb1.size), hb1.size, fun b e => by have := h3 b e; have := hb1.size; omega⟩
  have CP : Hid (∀ W sb mb L (o : Oq), Ec w sb mb L W → o.fit → Calls Try.prog 27 #[.pointer (some ⟨sb, 0, none⟩), .int .u8 (o.nm : Int), .int .i64 o.pl] W fun e w' => ∃ x mb' L', e = .returned (.int .i64 x) ∧ Ec w sb mb' L' w' ∧ Ch sb mb W w') := fun W sb mb L o h hf => by
    refine (put_st h.st hf.2.1 hf.2.2.1).mono ?_
    rintro e w' ⟨rfl, mb', h1, h2, h3⟩
    exact ⟨_, mb', _, rfl, h.set h1 h.g.put h2 h3.x, h2⟩
  have CM : Hid (∀ W sb mb L a n c (l : List Dl), Ec w sb mb L W → RdD w (.slice a n c) l → (∀ x ∈ l, x.fit) → l.length ≤ 1048576 → Calls Try.prog 20 #[.pointer (some ⟨sb, 0, none⟩), .slice a n c] W fun e w' => ∃ L', e = .returned (.tuple #[]) ∧ Ec w sb mb L' w' ∧ Ch sb mb W w') := fun W sb mb L a n c l h hr hf hl => by
    have hn : l.length = n := by obtain ⟨_, _, e, _⟩ := hr; cases e; rfl
    refine (move_any h.st h.g hn (by omega) hf (fun W' hc => hr.below (Nat.le_refl _) (h.low hc))).mono ?_
    rintro e w' ⟨rfl, h1, h2⟩
    exact ⟨_, rfl, h.set h1 h.g.move h2 (Nx.refl _ _), h2⟩
  have CD : Hid (∀ W sb mb L a n c (l : Ml), Ec w sb mb L W → RdK w (.slice a n c) l → Fit8 l → l.length ≤ 1048576 → Calls Try.prog 18 #[.pointer (some ⟨sb, 0, none⟩), .slice a n c] W fun e w' => ∃ mb' L', e = .returned (.tuple #[]) ∧ Ec w sb mb' L' w' ∧ Ch sb mb W w') := fun W sb mb L a n c l h hr hf hl => by
    have hn : l.length = n := by obtain ⟨_, _, e, _⟩ := hr; cases e; rfl
    refine (load_any h.st hn (by omega) hf (fun W' hc => hr.below (Nat.le_refl _) (h.low hc))).mono ?_
    rintro e w' ⟨rfl, mb', h1, h2, h3⟩
    exact ⟨mb', _, rfl, h.set h1 Gdl.nil.ld h2 h3.x, h2⟩
  have CS : Hid (∀ W sb mb L x, Ec w sb mb L W → i64ok x → Calls Try.prog 15 #[.pointer (some ⟨sb, 0, none⟩), .iface 42 (.pointer (some ⟨W.heap.size + 1, 0, none⟩))] ((W.alloc (.cells #[.int .i64 x, .int .i64 (-1), .int .i64 p] 3)).alloc (.cells #[.slice (some ⟨W.heap.size, 0, none⟩) 3 3, .slice none 0 0] 44)) fun e w' => ∃ z L', e = .returned (.int .i64 z) ∧ Ec w sb mb L' w') := fun W sb mb L x h hx => by
    have hb1 : Below W.heap.size W ((W.alloc (.cells #[.int .i64 x, .int .i64 (-1), .int .i64 p] 3)).alloc (.cells #[.slice (some ⟨W.heap.size, 0, none⟩) 3 3, .slice none 0 0] 44)) := ((Below.refl _ W).alloc (Nat.le_refl _) _).alloc (by simp) _
    have h1 := h.below hb1
    refine (snap_any h1.st h1.g (sn_new W x (-1) p) (by simp) (by simp) (fun y hy => ?_)).mono ?_
    · simp at hy
      rcases hy with rfl | rfl | rfl
      · exact hx
      · unfold i64ok; omega
      · exact hp
    · rintro e w' ⟨rfl, h2, va', _, h3, _⟩
      exact ⟨_, _, rfl, h1.snap (by have := h.bel.size; omega) h2 h1.g.snl h3⟩
  have HO : Hid (∀ W, Below w.heap.size w W → ∀ (k : Nat) q, os[k]? = some q → ∃ g o, oa = some ⟨g, o, none⟩ ∧ ∃ ma mc ea ec, (W.cell? ⟨g, o + k * 5, none⟩ = some (.int .u8 (q.kd : Int)) ∧ W.cell? ⟨g, o + k * 5 + 1, none⟩ = some (.int .u8 (q.nm : Int)) ∧ W.cell? ⟨g, o + k * 5 + 2, none⟩ = some (.int .i64 q.pl)
      ∧ W.cell? ⟨g, o + k * 5 + 3, none⟩ = some (.slice ma q.ms.length mc) ∧ W.cell? ⟨g, o + k * 5 + 4, none⟩ = some (.slice ea q.ds.length ec)) ∧ RdK w (.slice ma q.ms.length mc) q.ms ∧ RdD w (.slice ea q.ds.length ec) q.ds) := fun W hb k q hk => by
    obtain ⟨_, _, e, hr⟩ := hO
    cases e
    obtain ⟨_, g, o, e, hg, hc⟩ := hr (fun e => by rw [e] at hk; cases hk)
    obtain ⟨ma, mc, ea, ec, ⟨c0, c1, c2, c3, c4⟩, r1, r2⟩ := hc k q hk
    have kp : ∀ i v, w.cell? ⟨g, i, none⟩ = some v → W.cell? ⟨g, i, none⟩ = some v := fun i v h => (hb.cell (p := ⟨g, i, none⟩) (by simp; omega)).trans h
    exact ⟨g, o, e, ma, mc, ea, ec, ⟨kp _ _ c0, kp _ _ c1, kp _ _ c2, kp _ _ c3, kp _ _ c4⟩, r1, r2⟩
  have HF : Hid (os.length = on ∧ (∀ x ∈ os, x.fit ∧ x.bulk ≤ 1048576) ∧ RdD w (.slice da dn dc) ds ∧ (∀ x ∈ ds, x.fit) ∧ ds.length ≤ 1048576) := ⟨hN2, fun x hx => ⟨ho.2 x hx, by have := oqs_mem hx; omega⟩, hD, hd.2, by omega⟩
  have CA : Hid (∀ W sb mb L, Ec w sb mb L W → Calls Try.prog 25 #[.pointer (some ⟨sb, 0, none⟩)] W fun e w' => ∃ v, e = .returned v ∧ Below w.heap.size w w') := fun W sb mb L h => by
    refine (All_any h.st h.g).mono ?_
    rintro e w' ⟨v, rfl, _, hb⟩
    exact ⟨v, rfl, h.bel.trans (hb.mono h.bel.size)⟩
  clear hR hO hD hb ho hd hN1 hN2 hN3 hol
  go_enter Try.func7, Try.ntmps7
  go_wp2_with (first
    | (go_at_call 8; refine CL.mono ?_; clear CL; rintro e w1 ⟨rfl, hb1⟩; have HB1 : Hid (Below w.heap.size w w1) := hb1; clear hb1)
    | (go_at_call 31; refine (CMd.out _ HB1.out).mono ?_; clear CMd; rintro e w2 ⟨rfl, hb2⟩; have HB2 : Hid (Below w.heap.size w w2) := HB1.out.trans (hb2.mono HB1.out.size); clear hb2 HB1)
    | (go_at_call 9; refine (CN.out _ HB2.out).mono ?_; clear CN; rintro e w3 ⟨sb, mb, L, rfl, h3⟩; have H3 : Hid (Ec w sb mb L w3) := h3; clear h3 HB2))
  go_loopw [21] (fun t21 wr => ∃ k : Nat, k ≤ on ∧ t21 = .int .i64 k ∧ ∃ mb' L', Hid (Ec w sb mb' L' wr)) (fun t21 _ => on - (intOf t21).toNat)
  case atStart => exact ⟨0, Nat.zero_le _, rfl, mb, L, H3⟩
  case round =>
    obtain ⟨k, hk, rfl, mb', L', HE⟩ := hrel
    clear H3
    by_cases hlt : k < on
    · obtain ⟨q, hq⟩ : ∃ q, os[k]? = some q := ⟨os[k]'(by rw [HF.out.1]; exact hlt), List.getElem?_eq_getElem _⟩
      obtain ⟨g, o, rfl, ma, mc, ea, ec, ⟨c0, c1, c2, c3, c4⟩, hr1, hr2⟩ := HO.out _ HE.out.bel k q hq
      obtain ⟨mn, hmn⟩ : ∃ mn, q.ms.length = mn := ⟨_, rfl⟩
      obtain ⟨en, hen⟩ : ∃ en, q.ds.length = en := ⟨_, rfl⟩
      rw [hmn] at c3 hr1
      rw [hen] at c4 hr2
      have HQ : Hid (q.fit ∧ q.ms.length ≤ 1048576 ∧ q.ds.length ≤ 1048576 ∧ RdK w (.slice ma mn mc) q.ms ∧ RdD w (.slice ea en ec) q.ds) := by
        have h1 := HF.out.2.1 q (List.mem_of_getElem? hq)
        have h2 := h1.2
        unfold Oq.bulk at h2
        exact ⟨h1.1, by omega, by omega, hr1, hr2⟩
      obtain ⟨bx, hbx⟩ : ∃ bx, (#[.int .u8 (q.kd : Int), .int .u8 (q.nm : Int), .int .i64 q.pl, .slice ma mn mc, .slice ea en ec] : Array Value) = bx := ⟨_, rfl⟩
      have HBX : Hid ((#[.int .u8 (q.kd : Int), .int .u8 (q.nm : Int), .int .i64 q.pl, .slice ma mn mc, .slice ea en ec] : Array Value) = bx) := hbx
      have HX : Hid (Ec w sb mb' L' (wr.alloc (.cells bx 34)) ∧ (wr.alloc (.cells bx 34)).heap[wr.heap.size]? = some (.cells bx 34 (0, 0))) := ⟨HE.out.below ((Below.refl _ wr).alloc (Nat.le_refl _) _), World.alloc_heap_new wr _⟩
      have HC : Hid (∀ (W : World) (ob : Nat), W.heap[ob]? = some (.cells bx 34 (0, 0)) → W.cell? ⟨ob, 1, none⟩ = some (.int .u8 (q.nm : Int)) ∧ W.cell? ⟨ob, 2, none⟩ = some (.int .i64 q.pl) ∧ W.cell? ⟨ob, 3, none⟩ = some (.slice ma mn mc) ∧ W.cell? ⟨ob, 4, none⟩ = some (.slice ea en ec)) := fun W ob h => by
        rw [← hbx] at h
        refine ⟨?_, ?_, ?_, ?_⟩ <;> simp [World.cell?, h]
      clear hq hr1 hr2 hmn hen hbx HO
      go_upto_region 8 with fail
      rw [HBX.out]
      obtain ⟨ob, hob⟩ : ∃ ob, wr.heap.size = ob := ⟨_, rfl⟩
      obtain ⟨W1, hW1⟩ : ∃ W1, wr.alloc (.cells bx 34) = W1 := ⟨_, rfl⟩
      rw [hW1] at HX ⊢
      rw [hob] at HX ⊢
      obtain ⟨d1, d2, d3, d4⟩ := HC.out _ _ HX.out.2
      clear HE hW1 hob HBX c0 c1 c2 c3 c4
      go_wp2_with (first
        | (go_at_call 27; refine (CP.out _ _ _ _ q HX.out.1 HQ.out.1).mono ?_; clear CP; rintro e w4 ⟨x4, mb4, L4, rfl, h4, hc4⟩; have H4 : Hid (Ec w sb mb4 L4 w4 ∧ w4.heap[ob]? = some (.cells bx 34 (0, 0))) := ⟨h4, HX.out.1.blk hc4 HX.out.2⟩; obtain ⟨e1, e2, e3, e4⟩ := HC.out _ _ H4.out.2; clear h4 hc4 HX)
        | (go_at_call 20; refine (CM.out _ _ _ _ _ _ _ q.ds H4.out.1 HQ.out.2.2.2.2 HQ.out.1.2.2.2.2 HQ.out.2.2.1).mono ?_; rintro e w5 ⟨L5, rfl, h5, hc5⟩; have H5 : Hid (Ec w sb mb4 L5 w5 ∧ w5.heap[ob]? = some (.cells bx 34 (0, 0))) := ⟨h5, H4.out.1.blk hc5 H4.out.2⟩; obtain ⟨f1, f2, f3, f4⟩ := HC.out _ _ H5.out.2; clear h5 hc5 H4)
        | (go_at_call 18; refine (CD.out _ _ _ _ _ _ _ q.ms H5.out.1 HQ.out.2.2.2.1 HQ.out.1.2.2.2.1 HQ.out.2.1).mono ?_; clear CD; rintro e w6 ⟨mb6, L6, rfl, h6, hc6⟩; have H6 : Hid (Ec w sb mb6 L6 w6 ∧ w6.heap[ob]? = some (.cells bx 34 (0, 0))) := ⟨h6, H5.out.1.blk hc6 H5.out.2⟩; clear h6 hc6 H5)
        | (go_at_call 20; refine (CM.out _ _ _ _ _ _ _ ds H6.out.1 HF.out.2.2.1 HF.out.2.2.2.1 HF.out.2.2.2.2).mono ?_; clear CM; rintro e w7 ⟨L7, rfl, h7, hc7⟩; have H7 : Hid (Ec w sb mb6 L7 w7 ∧ w7.heap[ob]? = some (.cells bx 34 (0, 0))) := ⟨h7, H6.out.1.blk hc7 H6.out.2⟩; obtain ⟨g1, g2, g3, g4⟩ := HC.out _ _ H7.out.2; clear h7 hc7 H6)
        | (go_at_call 15; refine (CS.out _ _ _ _ _ H7.out.1 HQ.out.1.2.2.1).mono ?_; clear CS; rintro e w8 ⟨z8, L8, rfl, h8⟩; have H8 : Hid (Ec w sb mb6 L8 w8) := h8; clear h8 H7))
      exact ⟨⟨k + 1, by omega, by go_num, mb6, L8, H8⟩, by simp [intOf]; omega⟩
    · go_wp2_with (go_at_call 25; refine (CA.out _ _ _ _ HE.out).mono ?_; clear CA; rintro e w4 ⟨v4, rfl, hb4⟩; have HB4 : Hid (Below w.heap.size w w4) := hb4; clear hb4)
      go_ret
      exact ⟨rfl, HB4.out⟩
end Go.Proofs.Ytolafffpgkgadaa
