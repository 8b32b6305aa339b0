/-
  The walk of the law MarksSnaps: a Snapper is asked once for each mark, in their order; each goes where the answer says. Conditions: what the law reads is of at most 1048576 values.
-/
import Derived.Test.YtolafffpgkgadaaERefE
import Derived.Test.YtolafffpgkgadaaELay
namespace Go.Proofs.Ytolafffpgkgadaa
open Go.RowKit

/-- a set and the document's, with the same marks, since w -/
structure Eb (w : World) (sb : Nat) (mb : Option Nat) (rb : Nat) (v : Value) (L : Ml) (W : World) : Prop where
  st : St W sb mb L
  rs : Rs W w.heap.size rb v L
  bel : Below w.heap.size w W
  sl : w.heap.size ≤ sb
  ml : ∀ b, mb = some b → w.heap.size ≤ b
theorem Eb.below {w W W' : World} {sb : Nat} {mb : Option Nat} {rb : Nat} {v : Value} {L : Ml} (h : Eb w sb mb rb v L W) (hb : Below W.heap.size W W') : Eb w sb mb rb v L W' := ⟨h.st.below hb, h.rs.below hb, h.bel.trans (hb.mono h.bel.size), h.sl, h.ml⟩
/-- what lies elsewhere stays while the Snapper is asked -/
theorem pch_blk {W W' : World} {sb tb q : Nat} {mb : Option Nat} {L : Ml} {t : TypeId} {cur cs : Array Value} (hs : St W sb mb L) (ht : W.heap[tb]? = some (.cells cs 44 (0, 0))) (hc : PCh sb mb tb none W W') (hq : W.heap[q]? = some (.cells cur t (0, 0))) (h1 : t ≠ 49) (h2 : t ≠ 44) : W'.heap[q]? = W.heap[q]? := by
  refine hc.2.2.2.2 q (Array.getElem?_eq_some_iff.1 hq).1 (fun e => ?_) (fun e => ?_) (fun e => ?_) (by simp)
  · rw [e, hs.box] at hq; injection hq with hq; injection hq with _ h3 _; exact h1 h3.symm
  · obtain ⟨es, clock, hm, _⟩ := (hs.own q e).2.1; rw [hq] at hm; cases hm
  · rw [e, ht] at hq; injection hq with hq; injection hq with _ h3 _; exact h2 h3.symm

set_option maxRecDepth 100000 in
set_option maxHeartbeats 2000000 in
theorem walk_of (fa : Option Addr) (fn fc : Nat) (ta : Option Addr) (tn tc : Nat) (w : World) (ms : Ml) (hR : RdK w (.slice fa fn fc) ms) (hb : ms.length ≤ 1048576 ∧ Fit8 ms) (ts : List Int) (hT : RdI w (.slice ta tn tc) ts) (ht : ts.length ≤ 1048576 ∧ ∀ x ∈ ts, i64ok x) :
    Calls Try.prog 4 #[.slice fa fn fc, .slice ta tn tc] w fun e w' => e = .returned (.bool true) ∧ Below w.heap.size w w' := by
  have CL := lays_any w
  have hN1 : ms.length = fn := by obtain ⟨_, _, e, _⟩ := hR; cases e; rfl
  have hN2 : ts.length = tn := by obtain ⟨_, _, e, _⟩ := hT; cases e; rfl
  obtain ⟨L, hL⟩ : ∃ L, ld [] ms = L := ⟨_, rfl⟩
  have hgd : Gdl L := hL ▸ Gdl.nil.ld
  obtain ⟨M, hM⟩ : ∃ M, L.length = M := ⟨_, rfl⟩
  have CN : Hid (∀ W, Below w.heap.size w W → Calls Try.prog 9 #[.slice fa fn fc] W fun e w' => ∃ sb mb, e = .returned (.pointer (some ⟨sb, 0, none⟩)) ∧ St w' sb mb L ∧ Below w.heap.size w w' ∧ w.heap.size ≤ sb ∧ ∀ b, mb = some b → w.heap.size ≤ b) := fun W hb1 => by
    refine (new_any hN1 (by omega) hb.2 (hR.below (Nat.le_refl _) hb1)).mono ?_
    rintro e w' ⟨rfl, mb, h1, h2, h3⟩
    exact ⟨_, mb, rfl, hL ▸ h1, hb1.trans (h2.mono hb1.size), hb1.size, fun b e => by have := h3 b e; have := hb1.size; omega⟩
  have CR : Hid (∀ W sb mb, St W sb mb L ∧ Below w.heap.size w W ∧ w.heap.size ≤ sb ∧ (∀ b, mb = some b → w.heap.size ≤ b) → Calls Try.prog 10 #[.slice fa fn fc] W fun e w' => ∃ rb v, e = .returned (.pointer (some ⟨rb, 0, none⟩)) ∧ Eb w sb mb rb v L w') := fun W sb mb h => by
    refine (rnew_any hN1 (by omega) hb.2 (hR.below (Nat.le_refl _) h.2.1) h.2.1.size).mono ?_
    rintro e w' ⟨rfl, v, h1, h2, h3⟩
    exact ⟨_, v, rfl, h.1.below h2, hL ▸ h1, h.2.1.trans (h2.mono h.2.1.size), h.2.2.1, h.2.2.2⟩
  have CG : Hid (∀ W sb mb rb v X, St W sb mb X → Rs W w.heap.size rb v X → Gdl X → Calls Try.prog 11 #[.pointer (some ⟨sb, 0, none⟩), .pointer (some ⟨rb, 0, none⟩)] W fun e w' => e = .returned (.bool true) ∧ Below W.heap.size W w') := fun W sb mb rb v X h1 h2 h3 => agree_any h1 h2 h3
  have CA : Hid (∀ W sb mb rb v, Eb w sb mb rb v L W → Calls Try.prog 16 #[.pointer (some ⟨rb, 0, none⟩)] W fun e W' => ∃ a c, e = .returned (.slice a M c) ∧ RdK W' (.slice a M c) L ∧ (∀ g, (Value.slice a M c).ownBlock = some g → ∃ cur, W'.heap[g]? = some (.cells cur 26 (0, 0))) ∧ Below W.heap.size W W') := fun W sb mb rb v h => by
    refine (rall_any h.rs).mono ?_
    rintro e w' ⟨v, rfl, h1, h2⟩
    have hk := RdK.of_row h1
    rcases h1.2 with ⟨hv, hz⟩ | ⟨g, c, cur, hv, _, hg, _⟩
    · rw [hM] at hz
      subst hv hz
      exact ⟨none, 0, rfl, hk, fun g e => (by cases e), h2⟩
    · rw [hM] at hv
      subst hv
      exact ⟨_, c, rfl, hk, fun g' e => (by cases e; exact ⟨cur, hg⟩), h2⟩
  have CS : Hid (∀ W sb mb rb v a c, Eb w sb mb rb v L W ∧ RdK W (.slice a M c) L ∧ (∀ g, (Value.slice a M c).ownBlock = some g → ∃ cur, W.heap[g]? = some (.cells cur 26 (0, 0))) → Calls Try.prog 15 #[.pointer (some ⟨sb, 0, none⟩), .iface 42 (.pointer (some ⟨W.heap.size, 0, none⟩))] (W.alloc (.cells #[.slice ta tn tc, .slice none 0 0] 44)) fun e w' => e = .returned (.int .i64 (wn ts 0 L : Nat)) ∧ St w' sb mb (snl ts 0 L) ∧ Rs w' w.heap.size rb v L ∧ Below w.heap.size w w' ∧ RdK w' (.slice a M c) L ∧ ∃ va', va' = va' ∧ Sn w' W.heap.size W.heap.size ta tc va' ts (L.map (·.2))) := fun W sb mb rb v a c h => by
    obtain ⟨W1, hW1⟩ : ∃ W1, W.alloc (.cells #[.slice ta tn tc, .slice none 0 0] 44) = W1 := ⟨_, rfl⟩
    have hb1 : Below W.heap.size W W1 := hW1 ▸ (Below.refl _ W).alloc (Nat.le_refl _) _
    have h1 := h.1.below hb1
    have hsz := h.1.bel.size
    have hsn : Sn W1 W.heap.size W.heap.size ta tc (.slice none 0 0) ts [] := by
      refine ⟨by rw [← hW1, hN2]; exact World.alloc_heap_new W _, by rw [hN2]; exact hT.below (Nat.le_refl _) h1.bel, World.ownsRow_nil _ _ _ _, Nat.le_refl _, fun g o e h0 => .inl ?_⟩
      obtain ⟨_, _, e2, hr2⟩ := hT
      cases e2
      obtain ⟨g2, o2, e2, hg2, _⟩ := hr2 h0
      rw [e] at e2
      cases e2
      omega
    rw [hW1]
    refine (snap_any h1.st hgd hsn hb1.size ht.1 ht.2).mono ?_
    rintro e w' ⟨rfl, h2, va', h3, h4, _⟩
    have blk : ∀ (q : Nat) (cur : Array Value) (t : TypeId), W1.heap[q]? = some (Obj.cells cur t (0, 0)) → t ≠ 49 → t ≠ 44 → w'.heap[q]? = W1.heap[q]? := fun q cur t hq a b => pch_blk h1.st hsn.box h4 hq a b
    refine ⟨rfl, h2, h1.rs.of_heap (blk _ _ _ h1.rs.box (by decide) (by decide)) (fun g hg => by obtain ⟨cur, hc, _⟩ := h1.rs.blk hg; exact blk _ _ _ hc (by decide) (by decide)), ⟨h4.1.trans h1.bel.os, h4.2.1.trans h1.bel.tape, h4.2.2.1.trans h1.bel.output, Nat.le_trans h1.bel.size h4.2.2.2.1, fun k hk => (h4.2.2.2.2 k (by have := h1.bel.size; omega) (by have := h1.sl; omega) (fun e => by have := h1.ml k e; omega) (by omega) (by simp [Value.ownBlock])).trans (h1.bel.block k hk)⟩, ?_, va', rfl, h3⟩
    cases a with
    | none =>
      obtain ⟨a', c', e, hr⟩ := h.2.1
      exact ⟨a', c', e, fun h0 => by obtain ⟨g, o, e2, _⟩ := hr h0; obtain ⟨ea, _, _⟩ := Value.slice.inj e; rw [← ea] at e2; cases e2⟩
    | some ad =>
      obtain ⟨g, o, sp⟩ := ad
      obtain ⟨cur, hcur⟩ := h.2.2 g rfl
      have hcur1 := (hb1.block g (Array.getElem?_eq_some_iff.1 hcur).1).trans hcur
      have hr := h.2.1.below (Nat.le_refl _) hb1
      obtain ⟨a', c', e, hr2⟩ := hr
      refine ⟨a', c', e, fun h0 => ?_⟩
      obtain ⟨g2, o2, e2, hg2, hc2⟩ := hr2 h0
      obtain ⟨ea, _, _⟩ := Value.slice.inj e
      rw [← ea] at e2
      cases e2
      have hblk := blk _ _ _ hcur1 (by decide) (by decide)
      refine ⟨g, o, ea.symm, by have := h4.2.2.2.1; omega, fun k x hk => ?_⟩
      exact ⟨(World.cell?_of_block hblk).trans (hc2 k x hk).1, (World.cell?_of_block hblk).trans (hc2 k x hk).2⟩
  have CT : Hid (∀ W rb v, Rs W w.heap.size rb v L → Below w.heap.size w W → Calls Try.prog 17 #[.pointer (some ⟨rb, 0, none⟩), .slice ta tn tc] W fun e w' => e = .returned (.int .i64 (wn ts 0 L : Nat)) ∧ Rs w' w.heap.size rb v (snl ts 0 L) ∧ Ch rb v.ownBlock W w') := fun W rb v h h2 => rsnap_any h hN2 (by omega) ht.2 (fun W' hc => hT.below (Nat.le_refl _) (hc.low h2 (Nat.le_refl _) h.low (fun k e => by obtain ⟨_, _, hb⟩ := h.blk e; exact hb)))
  obtain ⟨z, hz⟩ : ∃ z, wn ts 0 L = z := ⟨_, rfl⟩
  rw [hz] at CS CT
  have hl27 : M ≤ 27 := by
    have h1 : Ris L ∧ Fit8 L := by
      rw [← hL]
      have : ∀ (l X : Ml), Ris X → Fit8 X → Fit8 l → Ris (ld X l) ∧ Fit8 (ld X l) := fun l => by
        induction l with
        | nil => intro X a b _; exact ⟨a, b⟩
        | cons p l ih =>
          intro X a b c
          show Ris (ld (if gd p.1 && decide (0 ≤ p.2) then lay p.1 p.2 X else X) l) ∧ _
          refine ih _ ?_ ?_ (fun q hq => c q (List.mem_cons_of_mem _ hq))
          · split
            · exact a.lay
            · exact a
          · split
            · exact b.lay (c p List.mem_cons_self).1 (c p List.mem_cons_self).2
            · exact b
      exact this ms [] List.Pairwise.nil (fun _ h => by cases h) hb.2
    rw [← hM]
    exact len27 h1.1 hgd
  have HM : Hid (L.length = M ∧ Gdl L) := ⟨hM, hgd⟩
  clear hR hb hT ht hN1 hN2 hL hgd hM hz
  have T1 : True := trivial
  go_enter Try.func4, Try.ntmps4
  go_wp2_with (first
    | (go_at_call 8; refine CL.mono ?_; clear CL; rintro e w1 ⟨rfl, hb1⟩; have HB1 : Hid (Below w.heap.size w w1) := hb1; clear hb1)
    | (go_at_call 9; refine (CN.out _ HB1.out).mono ?_; clear CN; rintro e w2 ⟨sb, mb, rfl, h2⟩; have H2 : Hid (St w2 sb mb L ∧ Below w.heap.size w w2 ∧ w.heap.size ≤ sb ∧ (∀ b, mb = some b → w.heap.size ≤ b)) := h2; clear h2 HB1)
    | (go_at_call 10; refine (CR.out _ _ _ H2.out).mono ?_; clear CR; rintro e w3 ⟨rb, v, rfl, h3⟩; have H3 : Hid (Eb w sb mb rb v L w3) := h3; clear h3 H2)
    | (go_at_call 15; clear T1; refine (snap_nil _ _).mono ?_; rintro e w4 ⟨rfl, hw4⟩; subst hw4)
    | (go_at_call 11; refine (CG.out _ _ _ _ _ L H3.out.st H3.out.rs HM.out.2).mono ?_; rintro e w5 ⟨rfl, hb5⟩; have H5 : Hid (Eb w sb mb rb v L w5) := H3.out.below hb5; clear hb5 H3)
    | (go_at_call 16; refine (CA.out _ _ _ _ _ H5.out).mono ?_; clear CA; rintro e w6 ⟨a6, c6, rfl, hr6, ht6, hb6⟩; have H6 : Hid (Eb w sb mb rb v L w6 ∧ RdK w6 (.slice a6 M c6) L ∧ (∀ g, (Value.slice a6 M c6).ownBlock = some g → ∃ cur, w6.heap[g]? = some (.cells cur 26 (0, 0)))) := ⟨H5.out.below hb6, hr6, ht6⟩; clear hr6 ht6 hb6 H5)
    | (go_at_call 15; refine (CS.out _ _ _ _ _ _ _ H6.out).mono ?_; clear CS; rintro e w7 ⟨rfl, h7a, h7b, h7c, h7d, va, _, h7e⟩; have H7 : Hid (St w7 sb mb (snl ts 0 L) ∧ Rs w7 w.heap.size rb v L ∧ Below w.heap.size w w7 ∧ RdK w7 (.slice a6 M c6) L ∧ Sn w7 w6.heap.size w6.heap.size ta tc va ts (L.map (·.2))) := ⟨h7a, h7b, h7c, h7d, h7e⟩; obtain ⟨va1, va2, hva⟩ : ∃ a c, va = .slice a M c := (by rcases h7e.row.2 with ⟨e, e2⟩ | ⟨g, cap, cur, e, _⟩; exact ⟨none, 0, (by rw [e]; rw [List.length_map, HM.out.1] at e2; rw [e2])⟩; exact ⟨_, _, (by rw [e, List.length_map, HM.out.1])⟩); subst hva; have k1 : w7.cell? ⟨w6.heap.size, 1, none⟩ = some (.slice va1 M va2) := (by simp [World.cell?, h7e.box]); clear h7a h7b h7c h7d h7e H6))
  obtain ⟨tb, htb⟩ : ∃ tb, w6.heap.size = tb := ⟨_, rfl⟩
  rw [htb] at H7 k1 ⊢
  clear htb
  go_loopw [50] (fun t50 wr => ∃ k : Nat, k ≤ M ∧ t50 = .int .i64 k ∧ Hid (Below w7.heap.size w7 wr)) (fun t50 _ => M - (intOf t50).toNat)
  case atStart => exact ⟨0, Nat.zero_le _, rfl, Below.refl _ _⟩
  case round =>
    obtain ⟨k, hk, rfl, HB⟩ := hrel
    clear k1
    by_cases hlt : k < M
    · obtain ⟨p, hp⟩ : ∃ p, L[k]? = some p := ⟨L[k]'(by rw [HM.out.1]; exact hlt), List.getElem?_eq_getElem _⟩
      have hrk := H7.out.2.2.2.1.below (Nat.le_refl _) HB.out
      obtain ⟨_, _, ev, hrd⟩ := hrk
      obtain ⟨ea, en, ec⟩ := Value.slice.inj ev
      obtain ⟨g, o, eg, hg, hcs⟩ := hrd (fun e => by rw [e] at hp; cases hp)
      rw [← ea] at eg
      subst eg
      obtain ⟨y0, y1⟩ := hcs k p hp
      obtain ⟨z0, z1⟩ := new2 wr (.int .u8 (p.1 : Int)) (.int .i64 p.2) 26
      have hbb : Below w7.heap.size w7 (wr.alloc (.cells #[.int .u8 (p.1 : Int), .int .i64 p.2] 26)) := HB.out.alloc HB.out.size _
      have hsn := H7.out.2.2.2.2.below hbb
      have hrow := hsn.row
      rw [List.length_map, HM.out.1] at hrow
      obtain ⟨gv, rfl, k2⟩ : ∃ gv, va1 = some ⟨gv, 0, none⟩ ∧ (wr.alloc (.cells #[.int .u8 (p.1 : Int), .int .i64 p.2] 26)).cell? ⟨gv, k, none⟩ = some (.int .i64 p.2) := by
        rcases id hrow.2 with ⟨_, e2⟩ | ⟨gv, cap, cur, e, _⟩
        · omega
        · cases e
          refine ⟨gv, rfl, ?_⟩
          have := hrow.cellAt k (by omega)
          rw [List.getElem?_map, List.getElem?_map, hp] at this
          exact this
      have k1 : (wr.alloc (.cells #[.int .u8 (p.1 : Int), .int .i64 p.2] 26)).cell? ⟨tb, 1, none⟩ = some (.slice (some ⟨gv, 0, none⟩) M va2) := by simp [World.cell?, hsn.box]
      have HBB : Hid (Below w7.heap.size w7 (wr.alloc (.cells #[.int .u8 (p.1 : Int), .int .i64 p.2] 26))) := hbb
      clear hrd hcs hp ev ea en ec hg hbb hsn hrow
      go_upto_region 14 with fail
      clear y0 y1
      obtain ⟨xb, hxb⟩ : ∃ xb, wr.heap.size = xb := ⟨_, rfl⟩
      obtain ⟨W2, hW2⟩ : ∃ W2, wr.alloc (.cells #[.int .u8 (p.1 : Int), .int .i64 p.2] 26) = W2 := ⟨_, rfl⟩
      rw [hW2] at HBB k1 k2 z0 z1 ⊢
      rw [hxb] at z0 z1 ⊢
      clear hxb hW2 HB
      go_quiet (fail)
      go_wp2
      exact ⟨⟨k + 1, by omega, by go_num, HBB.out.trans (drewN_below _ _ _)⟩, by simp [intOf]; omega⟩
    · have HE : Hid (St wr sb mb (snl ts 0 L) ∧ Rs wr w.heap.size rb v L ∧ Below w.heap.size w wr) := ⟨H7.out.1.below HB.out, H7.out.2.1.below HB.out, H7.out.2.2.1.trans (HB.out.mono H7.out.2.2.1.size)⟩
      clear H7 HB
      go_wp2_with (first
        | (go_at_call 17; refine (CT.out _ _ _ HE.out.2.1 HE.out.2.2).mono ?_; clear CT; rintro e w8 ⟨rfl, hr8, hc8⟩; have H8 : Hid (St w8 sb mb (snl ts 0 L) ∧ Rs w8 w.heap.size rb v (snl ts 0 L) ∧ Below w.heap.size w w8) := ⟨HE.out.1.keptR HE.out.2.1 hc8, hr8, hc8.low HE.out.2.2 (Nat.le_refl _) HE.out.2.1.low (fun k e => by obtain ⟨_, _, hb⟩ := HE.out.2.1.blk e; exact hb)⟩; clear hr8 hc8 HE)
        | (go_at_call 11; refine (CG.out _ _ _ _ _ (snl ts 0 L) H8.out.1 H8.out.2.1 HM.out.2.snl).mono ?_; clear CG; rintro e w9 ⟨rfl, hb9⟩; have H9 : Hid (Below w.heap.size w w9) := H8.out.2.2.trans (hb9.mono H8.out.2.2.size); clear hb9 H8))
      go_ret
      exact ⟨by simp, H9.out⟩
end Go.Proofs.Ytolafffpgkgadaa
