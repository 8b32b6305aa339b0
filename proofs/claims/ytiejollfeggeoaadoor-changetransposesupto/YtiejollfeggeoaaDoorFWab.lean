/-
  Package change's steps by words and wordsAbout. Conditions: the two tables of unicode/utf8 lie as their text lays them; the text can be read.
-/
import Derived.Test.YtiejollfeggeoaaDoorFTim
import Derived.Test.YtiejollfeggeoaaDoorFLin
import Derived.Test.YtiejollfeggeoaaDoorWConD
import Derived.Shelf.Abstract
namespace Go.Proofs.YtiejollfeggeoaaDoor
open Go.RowKit Go.Shelf Bod Wid

theorem held_in {s : ByteArray} {b : Nat} (h : b ≤ s.size) : heldN s (b : Int) = b := by unfold heldN; omega
theorem stp_ahead {w : World} (hT : Tw w) {s : ByteArray} (hs : s.size ≤ 1099511627776) : Stp w s (aheadW (words s) s.size) (.func (.func 46) #[] #[]) :=
  ⟨⟨46, rfl, enters_of Tryd.func46 (by kernel_rfl) rfl, fun W b hW hb => by
    have := ahead_any s b (by unfold maxLen; omega) W (hT.below hW).t
    rw [held_in (cb_le hb)] at this
    exact this⟩, fun b _ => (ahead_ok s b).1⟩
theorem stp_behind {w : World} (hT : Tw w) {s : ByteArray} (hs : s.size ≤ 1099511627776) : Stp w s (behindW (words s)) (.func (.func 47) #[] #[]) :=
  ⟨⟨47, rfl, enters_of Tryd.func47 (by kernel_rfl) rfl, fun W b hW hb => by
    have := behind_any s b (by unfold maxLen; omega) W (hT.below hW).t
    rw [held_in (cb_le hb)] at this
    exact this⟩, fun b _ => (behind_ok s b).1⟩
theorem stp_next {w : World} (hT : Tw w) {s : ByteArray} (hs : s.size ≤ 1099511627776) : Stp w s (nxt s) (.func (.func 32) #[] #[]) :=
  ⟨⟨32, rfl, enters_of Tryd.func32 (by kernel_rfl) rfl, fun W b hW hb => (cnext_any s b (by unfold maxLen; omega) W (hT.below hW).t).mono fun e W' ⟨m, k1, k2, k3⟩ => ⟨by rw [k1, k2.uniq (nxt_is s b)], k3⟩⟩, fun b _ => (nxt_ok s b).1⟩
theorem stp_prev {w : World} (hT : Tw w) {s : ByteArray} (hs : s.size ≤ 1099511627776) : Stp w s (pvC s) (.func (.func 44) #[] #[]) :=
  ⟨⟨44, rfl, enters_of Tryd.func44 (by kernel_rfl) rfl, fun W b hW hb => (cprev_any s b (by unfold maxLen; omega) W (hT.below hW).t (by have := cb_le hb; omega)).mono fun e W' ⟨m, k1, k2, k3⟩ => ⟨by rw [k1, k2.uniq (pvC_is s b)], k3⟩⟩, fun b _ => (pv_ok s b).1⟩
theorem stp_line {w : World} (hT : Tw w) {s : ByteArray} (hs : s.size ≤ 1099511627776) : Stp w s (lnA s) (.func (.func 48) #[] #[]) :=
  ⟨⟨48, rfl, enters_of Tryd.func48 (by kernel_rfl) rfl, fun W b hW hb => lineAhead_any s hs b hb W (hT.below hW)⟩, fun b hb => (lnA_ok hb).1⟩
theorem rowS_down {W : World} {b c n : Nat} {v : Value} {xs : List Value} (h : W.ownsRow b 70 2 v n xs) (hc : c ≤ b) : W.ownsRow c 70 2 v n xs :=
  ⟨h.1, h.2.imp id fun ⟨g, cap, cur, h1, h2, h3⟩ => ⟨g, cap, cur, h1, by omega, h3⟩⟩
/-- the list of words that is being shifted: k of them are -/
structure Sh2 (w : World) (v : Value) (f : Nat) (L : List (Nat × Nat)) (k : Nat) (W : World) : Prop where
  bel : Below w.heap.size w W
  row : W.ownsRow w.heap.size 70 2 v L.length (spc (wsh f (L.take k) ++ L.drop k))
theorem shl_len (f : Nat) (L : List (Nat × Nat)) (k : Nat) : (wsh f (L.take k) ++ L.drop k).length = L.length := by simp [wsh]; omega
theorem shl_at {f : Nat} {L : List (Nat × Nat)} {k : Nat} {p : Nat × Nat} (h : L[k]? = some p) : (wsh f (L.take k) ++ L.drop k)[k]? = some p := by
  have hk := (List.getElem?_eq_some_iff.1 h).1
  have hl : (wsh f (L.take k)).length = k := by simp [wsh]; omega
  rw [List.getElem?_append_right (by omega), hl, Nat.sub_self, List.getElem?_drop, Nat.add_zero]
  exact h
theorem shl_next {f : Nat} {L : List (Nat × Nat)} {k : Nat} {p : Nat × Nat} (h : L[k]? = some p) : ((spc (wsh f (L.take k) ++ L.drop k)).set (k * 2) (.int .i64 ((p.1 + f : Nat) : Int))).set (k * 2 + 1) (.int .i64 ((p.2 + f : Nat) : Int)) = spc (wsh f (L.take (k + 1)) ++ L.drop (k + 1)) := by
  have hk := (List.getElem?_eq_some_iff.1 h).1
  have e1 : L.drop k = p :: L.drop (k + 1) := by
    rw [List.drop_eq_getElem_cons hk]
    congr 1
    exact Option.some.inj ((List.getElem?_eq_getElem hk).symm.trans h)
  have e2 : L.take (k + 1) = L.take k ++ [p] := by rw [List.take_add_one, h]; rfl
  have hl : (spc (wsh f (L.take k))).length = k * 2 := by rw [spc_len]; simp [wsh]; omega
  rw [e1, e2]
  have e3 : spc (wsh f (L.take k) ++ p :: L.drop (k + 1)) = spc (wsh f (L.take k)) ++ (.int .i64 p.1 :: .int .i64 p.2 :: spc (L.drop (k + 1))) := by simp [spc]
  have e4 : spc (wsh f (L.take k ++ [p]) ++ L.drop (k + 1)) = spc (wsh f (L.take k)) ++ (.int .i64 (p.1 + f : Nat) :: .int .i64 (p.2 + f : Nat) :: spc (L.drop (k + 1))) := by simp [spc, wsh]
  rw [e3, e4, List.set_append_right _ _ (by omega), hl, Nat.sub_self, List.set_append_right _ _ (by omega), hl, show k * 2 + 1 - k * 2 = 1 by omega]
  rfl
theorem Sh2.cells {w W : World} {v : Value} {f : Nat} {L : List (Nat × Nat)} {k : Nat} {p : Nat × Nat} (h : Sh2 w v f L k W) (hp : L[k]? = some p) : ∃ g cap, v = .slice (some ⟨g, 0, none⟩) L.length cap ∧ w.heap.size ≤ g ∧ W.cell? ⟨g, k * 2, none⟩ = some (.int .i64 p.1) ∧ W.cell? ⟨g, k * 2 + 1, none⟩ = some (.int .i64 p.2) ∧ W.frozen? ⟨g, k * 2, none⟩ = false ∧ W.frozen? ⟨g, k * 2 + 1, none⟩ = false := by
  have hk := (List.getElem?_eq_some_iff.1 hp).1
  have hr := h.row
  rcases hr.2 with ⟨h0, h1⟩ | ⟨g, cap, cur, hv, hb, hg, _⟩
  · rw [h1] at hk; omega
  · subst hv
    obtain ⟨e0, e1⟩ := spc_get _ _ _ (shl_at (f := f) hp)
    have hl := spc_len (wsh f (L.take k) ++ L.drop k)
    rw [shl_len] at hl
    exact ⟨g, cap, rfl, hb, (hr.cellAt (k * 2) (by omega)).trans e0, (hr.cellAt (k * 2 + 1) (by omega)).trans e1, by simp [World.frozen?, hg], by simp [World.frozen?, hg]⟩
theorem Sh2.next {w W : World} {f : Nat} {L : List (Nat × Nat)} {k g cap : Nat} {p : Nat × Nat} (h : Sh2 w (.slice (some ⟨g, 0, none⟩) L.length cap) f L k W) (hg : w.heap.size ≤ g) (hp : L[k]? = some p) : Sh2 w (.slice (some ⟨g, 0, none⟩) L.length cap) f L (k + 1) ((W.setCell ⟨g, k * 2, none⟩ (.int .i64 (p.1 + f : Nat))).setCell ⟨g, k * 2 + 1, none⟩ (.int .i64 (p.2 + f : Nat))) := by
  refine ⟨(h.bel.setCell (p := ⟨g, k * 2, none⟩) hg _).setCell (p := ⟨g, k * 2 + 1, none⟩) hg _, ?_⟩
  have := row_set (row_set h.row (g := g) rfl (j := k * 2) (.int .i64 (p.1 + f : Nat))) (g := g) rfl (j := k * 2 + 1) (.int .i64 (p.2 + f : Nat))
  rw [shl_next hp] at this
  exact this
set_option maxRecDepth 100000 in
set_option maxHeartbeats 2000000 in
theorem wordsAbout_any (s : ByteArray) (hs : s.size ≤ 1099511627776) (a : Nat) (ha : cbZ s a = true) (w : World) (hT : Tw w) :
    Calls Tryd.prog 78 #[.string s, .int .i64 a] w fun e W' => ∃ v, e = .returned v ∧ W'.ownsRow w.heap.size 70 2 v (words (s.extract (behindW (words s) (behindW (words s) a)) (aheadW (words s) s.size (aheadW (words s) s.size a)))).length (spc (wsh (behindW (words s) (behindW (words s) a)) (words (s.extract (behindW (words s) (behindW (words s) a)) (aheadW (words s) s.size (aheadW (words s) s.size a)))))) ∧ Below w.heap.size w W' := by
  have hal := cb_le ha
  obtain ⟨g1, g2, g3, g4, g5, -⟩ := sel_piece ha
  have S1 := stp_behind hT hs
  have S2 := stp_ahead hT hs
  have er1 : rpt (behindW (words s)) 2 a = behindW (words s) (behindW (words s) a) := rfl
  have er2 : rpt (aheadW (words s) s.size) 2 a = aheadW (words s) s.size (aheadW (words s) s.size a) := rfl
  obtain ⟨f, hf⟩ : ∃ f, behindW (words s) (behindW (words s) a) = f := ⟨_, rfl⟩
  obtain ⟨t, ht⟩ : ∃ t, aheadW (words s) s.size (aheadW (words s) s.size a) = t := ⟨_, rfl⟩
  rw [hf] at g1 g4 er1 ⊢
  rw [ht] at g2 g3 g5 er2 ⊢
  have D1 : Hid (∀ W, Below w.heap.size w W → Calls Tryd.prog 71 #[.int .i64 2, .func (.func 47) #[] #[]] W fun e W' => ∃ b, e = .returned (.func (.func 87) #[] #[.pointer (some ⟨b, 0, none⟩), .pointer (some ⟨b + 1, 0, none⟩)]) ∧ Hid (Tb w 2 (.func (.func 47) #[] #[]) b W')) := fun W hW => (times_any W 2 47).mono fun e W' ⟨b, k1, k2⟩ => ⟨b, k1, below_on hW k2.bel, k2.c, k2.f, k2.lt⟩
  have D2 : Hid (∀ W b, Tb w 2 (.func (.func 47) #[] #[]) b W → Calls Tryd.prog 87 #[.string s, .int .i64 a, .pointer (some ⟨b, 0, none⟩), .pointer (some ⟨b + 1, 0, none⟩)] W fun e W' => e = .returned (.int .i64 f) ∧ Hid (Below w.heap.size w W')) := fun W b hW => by
    have := times1_any S1 hW hs (by omega) a ha
    rw [er1] at this
    exact this.mono fun e W' ⟨k1, k2⟩ => ⟨k1, below_on hW.bel k2⟩
  have D3 : Hid (∀ W, Below w.heap.size w W → Calls Tryd.prog 71 #[.int .i64 2, .func (.func 46) #[] #[]] W fun e W' => ∃ b, e = .returned (.func (.func 87) #[] #[.pointer (some ⟨b, 0, none⟩), .pointer (some ⟨b + 1, 0, none⟩)]) ∧ Hid (Tb w 2 (.func (.func 46) #[] #[]) b W')) := fun W hW => (times_any W 2 46).mono fun e W' ⟨b, k1, k2⟩ => ⟨b, k1, below_on hW k2.bel, k2.c, k2.f, k2.lt⟩
  have D4 : Hid (∀ W b, Tb w 2 (.func (.func 46) #[] #[]) b W → Calls Tryd.prog 87 #[.string s, .int .i64 a, .pointer (some ⟨b, 0, none⟩), .pointer (some ⟨b + 1, 0, none⟩)] W fun e W' => e = .returned (.int .i64 t) ∧ Hid (Below w.heap.size w W')) := fun W b hW => by
    have := times1_any S2 hW hs (by omega) a ha
    rw [er2] at this
    exact this.mono fun e W' ⟨k1, k2⟩ => ⟨k1, below_on hW.bel k2⟩
  have hz := size_extract s f t g3
  obtain ⟨L, hL⟩ : ∃ L, words (s.extract f t) = L := ⟨_, rfl⟩
  have D5 : Hid (∀ W, Below w.heap.size w W → Calls Tryd.prog 15 #[.string (s.extract f t)] W fun e W' => ∃ o cap, e = .returned (.slice o L.length cap) ∧ Hid (Sh2 w (.slice o L.length cap) f L 0 W')) := fun W hW => by
    have hT' := hT.below hW
    have := spans_any (s.extract f t) (by unfold maxLen; omega) (by omega) W hT'.t hT'.lo0 hT'.lo1
    rw [hL] at this
    refine this.mono fun e W' ⟨v, k1, k2, k3⟩ => ?_
    obtain ⟨o, cap, rfl, -⟩ := Rd2.of_row k2
    exact ⟨o, cap, k1, below_on hW k3, by simpa [wsh] using rowS_down k2 hW.size⟩
  have hLb : ∀ p ∈ L, p.1 ≤ 1099511627776 ∧ p.2 ≤ 1099511627776 := fun p hp => by
    rw [← hL] at hp
    have := words_mem hp
    omega
  have hLl : L.length ≤ 1099511627776 := by rw [← hL]; have := words_len (s.extract f t); omega
  rw [hL]
  have HB : Hid (Below w.heap.size w w) := Below.refl _ _
  clear S1 S2 er1 er2 hf ht hL hT ha g4 g5
  have hft : f ≤ t := by omega
  go_enter Tryd.func78, Tryd.ntmps78
  go_upto_region 3 with (first
    | (go_at_call 71; refine (D1.out _ HB.out).mono ?_; clear D1 HB; rintro e w1 ⟨b1, rfl, HT⟩)
    | (go_at_call 87; refine (D2.out _ _ HT.out).mono ?_; clear D2 HT; rintro e w2 ⟨rfl, HB⟩)
    | (go_at_call 71; refine (D3.out _ HB.out).mono ?_; clear D3 HB; rintro e w3 ⟨b2, rfl, HT⟩)
    | (go_at_call 87; refine (D4.out _ _ HT.out).mono ?_; clear D4 HT; rintro e w4 ⟨rfl, HB⟩)
    | (go_at_call 15; refine (D5.out _ HB.out).mono ?_; clear D5 HB; rintro e w5 ⟨o, cap, rfl, HS⟩))
  obtain ⟨N, hN⟩ : ∃ N, L.length = N := ⟨_, rfl⟩
  have HN : Hid (L.length = N) := hN
  rw [hN] at hLl
  have hLl' : (N : Int) ≤ 1099511627776 := by omega
  have HQ : Hid (Sh2 w (.slice o N cap) f L 0 w5) := hN ▸ HS
  rw [hN]
  clear hN HS
  go_wp2
  go_loopw [24] (fun t24 wr => ∃ k : Nat, t24 = .int .i64 k ∧ k ≤ N ∧ Hid (Sh2 w (.slice o N cap) f L k wr)) (fun t24 _ => N - (intOf t24).toNat)
  case atStart => exact ⟨0, rfl, Nat.zero_le _, HQ⟩
  case round =>
    clear HQ
    obtain ⟨k, rfl, hk, HQ⟩ := hrel
    by_cases hlt : k < N
    · have hlt' : (k : Int) < N := by omega
      obtain ⟨p, hp⟩ : ∃ p, L[k]? = some p := ⟨L[k]'(by rw [HN.out]; exact hlt), List.getElem?_eq_getElem _⟩
      obtain ⟨p1, p2⟩ := p
      have hpb := hLb _ (List.mem_of_getElem? hp)
      have hQ : Sh2 w (.slice o L.length cap) f L k wr := by rw [HN.out]; exact HQ.out
      obtain ⟨g, cap', hv, hg, c0, c1, f0, f1⟩ := hQ.cells hp
      cases hv
      have HX : Hid (Sh2 w (.slice (some ⟨g, 0, none⟩) N cap) f L (k + 1) ((wr.setCell ⟨g, k * 2, none⟩ (.int .i64 ((p1 : Int) + f))).setCell ⟨g, k * 2 + 1, none⟩ (.int .i64 ((p2 : Int) + f)))) := by
        have := hQ.next hg hp
        simp only [Int.natCast_add] at this
        rw [HN.out] at this
        exact this
      simp only at hpb c0 c1
      have b1 : (p1 : Int) + f ≤ 2199023255552 ∧ (p2 : Int) + f ≤ 2199023255552 := by omega
      clear hQ hp HQ
      go_wp2
      exact ⟨⟨k + 1, by go_num, by omega, HX⟩, by simp [intOf]; omega⟩
    · have hge : ¬ ((k : Int) < N) := by omega
      obtain rfl : k = N := by omega
      have HE : Hid (wr.ownsRow w.heap.size 70 2 (.slice o k cap) k (spc (wsh f L)) ∧ Below w.heap.size w wr) := by
        have := HQ.out.row
        rw [List.take_of_length_le (by rw [HN.out]; exact Nat.le_refl _), List.drop_of_length_le (by rw [HN.out]; exact Nat.le_refl _), List.append_nil, HN.out] at this
        exact ⟨this, HQ.out.bel⟩
      clear HQ
      go_wp2
      go_ret
      refine ⟨.slice o k cap, rfl, ?_, HE.out.2⟩
      rw [HN.out]
      exact HE.out.1
end Go.Proofs.YtiejollfeggeoaaDoor
