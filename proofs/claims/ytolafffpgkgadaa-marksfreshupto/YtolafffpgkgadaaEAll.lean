/-
  Package marks' All and Len of a set that holds a mark: a new list of the marks by their names. Conditions: slices.Sort sorts so many bytes.
-/
import Derived.Test.YtolafffpgkgadaaECol
import Derived.Deep.DeepCutAuto
namespace Go.Proofs.Ytolafffpgkgadaa
open Go.RowKit

def kcl (l : Ml) : List Value := l.flatMap fun p => [.int .u8 (p.1 : Int), .int .i64 p.2]
theorem kcl_snoc (l : Ml) (p : Nat × Int) : kcl (l ++ [p]) = kcl l ++ [.int .u8 (p.1 : Int), .int .i64 p.2] := by simp [kcl]
theorem infoM : (Try.prog.info? 26).map (fun i => (i.zero, i.size, i.bytes)) = some (some (.agg #[.int .u8 0, .int .i64 0]), 2, 16) := by kernel_rfl
theorem kcl_get : ∀ (l : Ml) (k : Nat) (p : Nat × Int), l[k]? = some p → (kcl l)[k * 2]? = some (.int .u8 (p.1 : Int)) ∧ (kcl l)[k * 2 + 1]? = some (.int .i64 p.2)
  | [], _, _, h => by simp at h
  | q :: l, 0, p, h => by
    simp at h
    subst h
    exact ⟨rfl, rfl⟩
  | q :: l, k + 1, p, h => by
    have := kcl_get l k p (by simpa using h)
    have e : kcl (q :: l) = .int .u8 (q.1 : Int) :: .int .i64 q.2 :: kcl l := rfl
    rw [e, show (k + 1) * 2 = k * 2 + 1 + 1 by omega]
    exact ⟨by simpa using this.1, by simpa using this.2⟩
theorem kcl_len : ∀ l : Ml, (kcl l).length = l.length * 2
  | [] => rfl
  | q :: l => by
    have e : kcl (q :: l) = .int .u8 (q.1 : Int) :: .int .i64 q.2 :: kcl l := rfl
    rw [e, List.length_cons, List.length_cons, kcl_len l, List.length_cons]; omega
/-- a row of its own reads -/
theorem RdK.of_row {W : World} {base : Nat} {v : Value} {l : Ml} (h : W.ownsRow base 26 2 v l.length (kcl l)) : RdK W v l := by
  rcases h.2 with ⟨rfl, hz⟩ | ⟨g, cap, cur, rfl, hb, hg, h1, h2, h3, h4⟩
  · obtain rfl : l = [] := List.eq_nil_of_length_eq_zero hz
    exact ⟨none, 0, rfl, fun h => absurd rfl h⟩
  · refine ⟨_, cap, rfl, fun _ => ⟨g, 0, rfl, (Array.getElem?_eq_some_iff.1 hg).1, fun k p hk => ?_⟩⟩
    obtain ⟨q0, q1⟩ := kcl_get l k p hk
    have hkl := (List.getElem?_eq_some_iff.1 hk).1
    rw [← h4] at q0 q1
    rw [List.getElem?_take_of_lt (by omega)] at q0 q1
    unfold World.cell?
    simp only [hg]
    exact ⟨by simpa using q0, by simpa using q1⟩
theorem row_ne {W : World} {base g : Nat} {v : Value} {k : Nat} {xs : List Value} {ys : List Nat} {rest : List Value} (h : W.ownsRow base 26 2 v k xs) (hb : Bx W g ys rest) : v.ownBlock ≠ some g := by
  intro e
  rcases h.2 with ⟨rfl, _⟩ | ⟨g', cap, cur, rfl, _, hg, _⟩
  · cases e
  · cases e
    unfold Bx at hb
    rw [hg] at hb
    injection hb with hb
    injection hb with _ ht _
    exact absurd ht (by decide)

set_option maxRecDepth 100000 in
set_option maxHeartbeats 1000000 in
theorem All_own {w : World} {sb b : Nat} {L : Ml} (h : St w sb (some b) L) (hL : L ≠ []) (hS : SortsTo L.length) :
    Calls Try.prog 25 #[.pointer (some ⟨sb, 0, none⟩)] w fun e W' => ∃ v, e = .returned v ∧ W'.ownsRow w.heap.size 26 2 v L.length (kcl L) ∧ Below w.heap.size w W' := by
  obtain ⟨i0, hi, hz0, hz1, hz2⟩ := info_parts infoM
  have CA := all_any h
  have hown := (h.own b rfl).2
  have hl8 := len8 hown.2.1 hown.2.2
  have hbl := hown.lt
  have CK : Hid (∀ w1, Calls Try.prog 43 #[.map (some b)] w1 fun e w' => e = .returned (.func (.func 52) #[] #[.pointer (some ⟨w1.heap.size, 0, none⟩)]) ∧ w' = w1.alloc (.cells #[.map (some b)] 47)) := fun w1 => callsIn_wide.1 (keys_in 1 _ _)
  have CS : Hid (∀ w1, Below w.heap.size w w1 → Calls Try.prog 42 #[.func (.func 52) #[] #[.pointer (some ⟨w1.heap.size, 0, none⟩)]] (w1.alloc (.cells #[.map (some b)] 47)) fun e W' => ∃ g cap rest, e = .returned (.slice (some ⟨g, 0, none⟩) L.length cap) ∧ w.heap.size ≤ g ∧ Bx W' g (L.map (·.1)) rest ∧ Below w1.heap.size w1 W') := fun w1 hb => by
    have hb1 : Below w1.heap.size w1 (w1.alloc (.cells #[.map (some b)] 47)) := (Below.refl _ w1).alloc (Nat.le_refl _) _
    refine (sorted_any w1.heap.size b L _ (World.alloc_heap_new w1 _) ((hown.of_heap (hb.block b hbl)).of_heap (hb1.block b (by have := hb.size; omega))) hL hS).mono ?_
    rintro e W' ⟨g, cap, rest, h1, h2, h3, h4⟩
    exact ⟨g, cap, rest, h1, by have := hb.size; have := hb1.size; omega, h3, hb1.trans (h4.mono hb1.size)⟩
  have HM : Hid (∀ w1, Below w.heap.size w w1 → Mp w1 b L) := fun w1 hb => hown.of_heap (hb.block b hbl)
  have hlen := hown.1
  obtain ⟨N, hN⟩ : ∃ N, L.length = N := ⟨_, rfl⟩
  have hN8 : N ≤ 256 := by omega
  have hsz : Maps.size (mk L) = N := by rw [size_mk, hN]
  rw [hN] at CS
  rw [hN]
  clear h hown hS hL hl8
  go_enter Try.func25, Try.ntmps25
  go_wp2_with (first
    | (go_at_call 39; refine CA.mono ?_; clear CA; rintro e w1 ⟨rfl, rfl⟩)
    | (at_len; refine wpList_len_own _ rfl _ 47 rfl 5 3 Try.underlying47 _ b _ _ rfl hlen ?_; rw [hsz])
    | (at_make; refine wpList_make_own _ rfl _ _ 22 rfl _ 26 i0 _ 2 Try.underlying22 hi hz0 hz1 .i64 .i64 _ N rfl rfl rfl (by rw [hz2]; omega) (by unfold maxLen; omega) (Nat.le_refl _) ?_; intro w2 hown2 hg2; have HB2 : Hid (Below w1.heap.size w1 w2) := ⟨hg2.os, hg2.tape, hg2.output, hg2.size, fun k hk => hg2.block k hk (by simp)⟩; have HO2 : Hid (w2.ownsRow w1.heap.size 26 2 (.slice (some ⟨w1.heap.size, 0, none⟩) 0 N) 0 []) := hown2; clear hg2 hown2 hlen)
    | (go_at_call 43; refine (CK.out _).mono ?_; clear CK; rintro e w3 ⟨rfl, rfl⟩)
    | (go_at_call 42; refine (CS.out _ HB2.out).mono ?_; clear CS; rintro e w4 ⟨gs, cs, rest, rfl, hgs, hbx, hb4⟩; have HB4 : Hid (Below w1.heap.size w1 w4 ∧ Bx w4 gs (L.map (·.1)) rest ∧ w4.ownsRow w1.heap.size 26 2 (.slice (some ⟨w1.heap.size, 0, none⟩) 0 N) 0 []) := ⟨HB2.out.trans (hb4.mono HB2.out.size), hbx, HO2.out.kept (Bod.grown_of_below hb4) (.inr (by simp [Value.ownBlock]))⟩; clear HB2 HO2 hbx hb4)
    | go_in)
  go_loopw [4, 16] (fun t4 t16 wr => ∃ k : Nat, k ≤ N ∧ t16 = .int .i64 k ∧ Hid (wr.ownsRow w1.heap.size 26 2 t4 k (kcl (L.take k)) ∧ Below w1.heap.size w1 wr ∧ Bx wr gs (L.map (·.1)) rest)) (fun _ t16 _ => N - (intOf t16).toNat)
  case atStart => exact ⟨0, Nat.zero_le _, rfl, by simpa [kcl] using HB4.out.2.2, HB4.out.1, HB4.out.2.1⟩
  case round =>
    obtain ⟨k, hk, rfl, HK⟩ := hrel
    clear HB4
    by_cases hlt : k < N
    · obtain ⟨p, hp⟩ : ∃ p, L[k]? = some p := ⟨L[k]'(by omega), List.getElem?_eq_getElem _⟩
      have hM := HM.out _ HK.out.2.1
      have hp8 := (hM.2.2 p (List.mem_of_getElem? hp)).1
      have hgot := got_of_mem (n := p.1) (a := p.2) hM.2.1 (List.mem_of_getElem? hp)
      obtain ⟨hc, _⟩ := HK.out.2.2.get (i := k) (x := p.1) (by rw [List.getElem?_map, hp]; rfl)
      have hkey := key8 hp8
      have HT : Hid (kcl (L.take (k + 1)) = kcl (L.take k) ++ [.int .u8 (p.1 : Int), .int .i64 p.2]) := by
        show kcl (L.take (k + 1)) = _
        rw [List.take_add_one, hp]
        exact kcl_snoc _ _
      have HG : Hid (got p.1 L = some p.2) := hgot
      clear hp hgot hM
      go_upto_region 6 with fail
      go_wp2_with (first
        | (at_lookup; refine wpList_lookup_own_int _ rfl _ _ 47 rfl 5 3 .i64 law8 Try.underlying47 Try.underlying3 (zero64 _) b _ _ rfl (HM.out _ HK.out.2.1).1 _ _ rfl hkey ?_; intro c hat hwc; obtain rfl : c = p.2 := (by rw [at_mk, HG.out] at hat; simpa using hat.symm); clear hat hwc)
        | (at_builtin; refine wpList_append_own_at _ rfl _ _ 22 rfl w1.heap.size 26 i0 _ 2 16 Try.underlying22 hi hz0 hz1 hz2 rfl (by decide) _ _ _ rfl (HK.out.1.alloc _) ⟨wr.heap.size, 0, none⟩ 1 1 [.int .u8 (p.1 : Int), .int .i64 p.2] rfl rfl (World.news_of_block (World.alloc_heap_new wr _)) (by simp [Value.oneCell']) (by unfold maxLen; omega) (by omega) (by have := HK.out.2.1.size; simp; omega) ?_; intro v' w6 hown' hgrow _ hob; have HN1 : Hid _ := hown'; have HN2 : Hid _ := hgrow; clear hown' hgrow hob))
      have h1 := HN1.out
      have h2 := HN2.out
      obtain ⟨q1, q2, q3⟩ := HK.out
      have hba : Below wr.heap.size wr (wr.alloc (.cells #[.int .u8 (p.1 : Int), .int .i64 p.2] 26)) := (Below.refl _ wr).alloc (Nat.le_refl _) _
      refine ⟨⟨k + 1, by omega, by go_num, by rw [HT.out]; exact h1, (q2.alloc q2.size _).grown h2 (by have := q2.size; simp; omega) (fun j e => ?_), ?_⟩, by simp [intOf]; omega⟩
      · rcases q1.2 with ⟨e0, _⟩ | ⟨g, cap, cur, e0, hb0, _⟩
        · rw [e0] at e; cases e
        · rw [e0] at e; cases e; exact hb0
      · have hlt := (Array.getElem?_eq_some_iff.1 q3).1
        exact (h2.block gs (by simp; omega) (fun e => row_ne q1 q3 e.symm)).trans ((hba.block gs hlt).trans q3)
    · go_wp2
      go_ret
      obtain rfl : k = N := by omega
      obtain ⟨h1, h2, h3⟩ := HK.out
      rw [List.take_of_length_le (by omega)] at h1
      exact ⟨_, rfl, h1, h2⟩
end Go.Proofs.Ytolafffpgkgadaa
