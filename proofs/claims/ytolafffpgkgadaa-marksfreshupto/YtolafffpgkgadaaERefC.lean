/-
  The document's own set of marks, on: Load, New, Put. Conditions: those of each theorem.
-/
import Derived.Test.YtolafffpgkgadaaERefB
namespace Go.Proofs.Ytolafffpgkgadaa
open Go.RowKit

set_option maxRecDepth 100000 in
set_option maxHeartbeats 1000000 in
theorem rload_any {w : World} {base rb : Nat} {v : Value} {L : Ml} (h : Rs w base rb v L) {a : Option Addr} {N cap : Nat} {ms : Ml} (hN : ms.length = N) (hl : N ≤ 140737488351232) (hf : Fit8 ms) (hR : ∀ W', Ch rb none w W' → RdK W' (.slice a N cap) ms) :
    Calls Try.prog 32 #[.pointer (some ⟨rb, 0, none⟩), .slice a N cap] w fun e w' => e = .returned (.tuple #[]) ∧ ∃ v', Rs w' base rb v' (ld [] ms) ∧ Ch rb none w w' ∧ Nx w none v'.ownBlock := by
  have hc := h.cell
  have hz := h.frozen
  have HX : Hid (Rs (w.setCell ⟨rb, 0, none⟩ (.slice none 0 0)) base rb (.slice none 0 0) [] ∧ Ch rb none w (w.setCell ⟨rb, 0, none⟩ (.slice none 0 0))) := by
    have hx := set1 (i := 0) (.slice none 0 0) h.box
    have hg := gcell w rb 0 (.slice none 0 0)
    exact ⟨⟨hx, World.ownsRow_nil _ _ _ _, h.low, List.Pairwise.nil, fun _ h => by cases h⟩, hg.os, hg.tape, hg.output, hg.size, fun k hk hb _ => hg.block k hk (fun e => hb (Option.some.inj e))⟩
  have HR : Hid (∀ W', Ch rb none w W' → RdK W' (.slice a N cap) ms) := hR
  have HF : Hid (ms.length = N ∧ Fit8 ms) := ⟨hN, hf⟩
  clear h hR hN hf
  go_enter Try.func32, Try.ntmps32
  go_wp2
  go_loopw [4] (fun t wr => ∃ k : Nat, k ≤ N ∧ t = .int .i64 k ∧ ∃ v', Hid (Rs wr base rb v' (ld [] (ms.take k)) ∧ Ch rb none w wr ∧ Nx w none v'.ownBlock)) (fun t _ => N - (intOf t).toNat)
  case atStart => exact ⟨0, Nat.zero_le _, rfl, _, HX.out.1, HX.out.2, Nx.none _ _⟩
  case round =>
    obtain ⟨k, hk, rfl, v', HS⟩ := hrel
    clear HX hc hz
    by_cases hlt : k < N
    · obtain ⟨p, hp⟩ : ∃ p, ms[k]? = some p := ⟨ms[k]'(by rw [HF.out.1]; exact hlt), List.getElem?_eq_getElem _⟩
      have hpf := HF.out.2 p (List.mem_of_getElem? hp)
      obtain ⟨a', cap', ev, hrd⟩ := HR.out _ HS.out.2.1
      cases ev
      obtain ⟨g, o, rfl, hg, hcs⟩ := hrd (fun e => by rw [e] at hp; cases hp)
      obtain ⟨y0, y1⟩ := hcs k p hp
      have CG := rgood_any hpf.1 wr
      have CL := rlay_any HS.out.1 hpf.1 hpf.2
      have HT : Hid (ld [] (ms.take (k + 1)) = if gd p.1 && decide (0 ≤ p.2) then lay p.1 p.2 (ld [] (ms.take k)) else ld [] (ms.take k)) := by
        show ld [] (ms.take (k + 1)) = _
        rw [List.take_add_one, hp]
        exact ld_snoc _ _ _
      clear hrd hcs hp hpf
      cases hgd : gd p.1 with
      | false =>
        rw [hgd] at CG
        have HG : Hid (gd p.1 = false) := hgd
        clear hgd CL
        go_wp2_with (go_at_call 22; refine CG.mono ?_; clear CG; rintro e w2 ⟨rfl, rfl⟩)
        refine ⟨⟨k + 1, by omega, by go_num, v', ?_⟩, by simp [intOf]; omega⟩
        have e := HT.out
        rw [HG.out] at e
        simp only [Bool.false_and, Bool.false_eq_true, if_false] at e
        show Rs _ base rb v' (ld [] (ms.take (k + 1))) ∧ _
        rw [e]
        exact HS.out
      | true =>
        rw [hgd] at CG
        have HG : Hid (gd p.1 = true) := hgd
        clear hgd
        by_cases h0 : 0 ≤ p.2
        · have h0' : decide (0 ≤ p.2) = true := decide_eq_true h0
          have e := HT.out
          rw [HG.out, h0'] at e
          simp only [Bool.and_self, if_true] at e
          have HT2 : Hid (ld [] (ms.take (k + 1)) = lay p.1 p.2 (ld [] (ms.take k))) := e
          clear e HT h0'
          go_wp2_with (first
            | (go_at_call 22; refine CG.mono ?_; clear CG; rintro e w2 ⟨rfl, rfl⟩)
            | (go_at_call 46; refine CL.mono ?_; clear CL; rintro e w3 ⟨rfl, v3, hs3, hc3, hn3⟩; have HS3 : Hid (Rs w3 base rb v3 (lay p.1 p.2 (ld [] (ms.take k))) ∧ Ch rb none w w3 ∧ Nx w none v3.ownBlock) := ⟨hs3, HS.out.2.1.transx (Nx.none _ _) hc3, (Nx.none w none).trans HS.out.2.1.2.2.2.1 hn3⟩; clear hs3 hc3 hn3))
          refine ⟨⟨k + 1, by omega, by go_num, v3, ?_⟩, by simp [intOf]; omega⟩
          show Rs _ base rb v3 (ld [] (ms.take (k + 1))) ∧ _
          rw [HT2.out]
          exact HS3.out
        · have h0' : decide (0 ≤ p.2) = false := decide_eq_false h0
          have e := HT.out
          rw [HG.out, h0'] at e
          simp only [Bool.and_false, Bool.false_eq_true, if_false] at e
          have HT2 : Hid (ld [] (ms.take (k + 1)) = ld [] (ms.take k)) := e
          clear e HT h0' CL
          go_wp2_with (first
            | (go_at_call 22; refine CG.mono ?_; clear CG; rintro e w2 ⟨rfl, rfl⟩))
          refine ⟨⟨k + 1, by omega, by go_num, v', ?_⟩, by simp [intOf]; omega⟩
          show Rs _ base rb v' (ld [] (ms.take (k + 1))) ∧ _
          rw [HT2.out]
          exact HS.out
    · go_wp2
      go_end0
      have : k = N := by omega
      subst this
      obtain ⟨r1, r2, r3⟩ := HS.out
      rw [List.take_of_length_le (by rw [HF.out.1]; exact Nat.le_refl _)] at r1
      exact ⟨rfl, v', r1, r2, r3⟩
set_option maxRecDepth 100000 in
/-- a new set of the document's with the marks ms -/
theorem rnew_any {w : World} {a : Option Addr} {N cap : Nat} {ms : Ml} (hN : ms.length = N) (hl : N ≤ 140737488351232) (hf : Fit8 ms) (hR : RdK w (.slice a N cap) ms) {base : Nat} (hb0 : base ≤ w.heap.size) :
    Calls Try.prog 10 #[.slice a N cap] w fun e w' => e = .returned (.pointer (some ⟨w.heap.size, 0, none⟩)) ∧ ∃ v, Rs w' base w.heap.size v (ld [] ms) ∧ Below w.heap.size w w' ∧ Nx w none v.ownBlock := by
  obtain ⟨w0, hw0⟩ : ∃ w0, w0 = w.alloc (.cells #[.slice none 0 0] 69) := ⟨_, rfl⟩
  have h0 : Rs w0 base w.heap.size (.slice none 0 0) [] := ⟨by rw [hw0]; exact World.alloc_heap_new w _, World.ownsRow_nil _ _ _ _, hb0, List.Pairwise.nil, fun _ h => by cases h⟩
  have hb : Below w.heap.size w w0 := by rw [hw0]; exact (Below.refl _ w).alloc (Nat.le_refl _) _
  have CL := rload_any h0 (a := a) (N := N) (cap := cap) hN hl hf (fun W' hc => hR.below (Nat.le_refl _) (hc.low hb (Nat.le_refl _) (Nat.le_refl _) (fun k e => by cases e)))
  have HS : Hid (w.heap.size ≤ w0.heap.size) := hb.size
  clear hR h0
  rw [hw0] at CL
  go_enter Try.func10, Try.ntmps10
  go_wp2_with (go_at_call 32; refine CL.mono ?_; rintro e w2 ⟨rfl, v2, hs2, hc2, hn2⟩)
  go_ret
  subst hw0
  exact ⟨rfl, v2, hs2, hc2.low hb (Nat.le_refl _) (Nat.le_refl _) (fun k e => by cases e), (Nx.none w none).trans HS.out hn2⟩
set_option maxRecDepth 100000 in
theorem rput_any {w : World} {base rb : Nat} {v : Value} {L : Ml} (h : Rs w base rb v L) {n : Nat} {a : Int} (hn : n < 256) (ha : i64ok a) :
    Calls Try.prog 36 #[.pointer (some ⟨rb, 0, none⟩), .int .u8 (n : Int), .int .i64 a] w fun e w' => e = .returned (.int .i64 (putE n a)) ∧ ∃ v', Rs w' base rb v' (putL n a L) ∧ Ch rb none w w' ∧ Nx w v.ownBlock v'.ownBlock := by
  have CG := rgood_any hn w
  cases hg : gd n with
  | false =>
    rw [hg] at CG
    go_enter Try.func36, Try.ntmps36
    go_wp2_with (go_at_call 22; refine CG.mono ?_; rintro e w1 ⟨rfl, rfl⟩)
    go_ret
    exact ⟨by simp [putE, hg], v, by simp [putL, hg]; exact h, Ch.refl _ _ _, Nx.refl _ _⟩
  | true =>
    rw [hg] at CG
    by_cases h0 : a < 0
    · go_enter Try.func36, Try.ntmps36
      go_wp2_with (go_at_call 22; refine CG.mono ?_; rintro e w1 ⟨rfl, rfl⟩)
      go_ret
      exact ⟨by simp [putE, hg, h0], v, by rw [show putL n a L = L by simp [putL, hg]; omega]; exact h, Ch.refl _ _ _, Nx.refl _ _⟩
    · have CL := rlay_any h hn ha
      go_enter Try.func36, Try.ntmps36
      go_wp2_with (first
        | (go_at_call 22; refine CG.mono ?_; clear CG; rintro e w1 ⟨rfl, rfl⟩)
        | (go_at_call 46; refine CL.mono ?_; clear CL; rintro e w3 ⟨rfl, v3, hs3, hc3, hn3⟩))
      go_ret
      have e2 : putL n a L = lay n a L := by simp [putL, hg]; omega
      exact ⟨by simp [putE, hg, h0], v3, by rw [e2]; exact hs3, hc3, fun k hk => .inr ((hn3 k hk).resolve_left (by simp))⟩
end Go.Proofs.Ytolafffpgkgadaa
