/-
  Package change: words, writing, makers, transpositions. No program is walked in this text; no conditions.
-/
import Derived.Test.YtdggbnkhbmffoaaGreatDoorPkFB
import Derived.Test.YtdggbnkhbmffoaaGreatDoorPkWE
import Derived.Shelf.Abstract
import Derived.Test.YtdggbnkhbmffoaaGreatDoorFSwp
namespace Go.Proofs.YtdggbnkhbmffoaaGreatDoor
open Go.RowKit Go.Shelf Bod Wid

theorem held_in {s : ByteArray} {b : Nat} (h : b ≤ s.size) : heldN s (b : Int) = b := by unfold heldN; omega
theorem stp_ahead {w : World} (hT : Tw w) {s : ByteArray} (hs : s.size ≤ 1099511627776) : Stp w s (aheadW (words s) s.size) (.func (.func 40) #[] #[]) :=
  ⟨⟨40, rfl, enters_of Tryz.func40 (by kernel_rfl) rfl, fun W b hW hb => by
    have := ahead_any s b (by unfold maxLen; omega) W (hT.below hW).t
    rw [held_in (cb_le hb)] at this
    exact this⟩, fun b _ => (ahead_ok s b).1⟩
theorem stp_behind {w : World} (hT : Tw w) {s : ByteArray} (hs : s.size ≤ 1099511627776) : Stp w s (behindW (words s)) (.func (.func 41) #[] #[]) :=
  ⟨⟨41, rfl, enters_of Tryz.func41 (by kernel_rfl) rfl, fun W b hW hb => by
    have := behind_any s b (by unfold maxLen; omega) W (hT.below hW).t
    rw [held_in (cb_le hb)] at this
    exact this⟩, fun b _ => (behind_ok s b).1⟩
theorem stp_next {w : World} (hT : Tw w) {s : ByteArray} (hs : s.size ≤ 1099511627776) : Stp w s (nxt s) (.func (.func 26) #[] #[]) :=
  ⟨⟨26, rfl, enters_of Tryz.func26 (by kernel_rfl) rfl, fun W b hW hb => (cnext_any s b (by unfold maxLen; omega) W (hT.below hW).t).mono fun e W' ⟨m, k1, k2, k3⟩ => ⟨by rw [k1, k2.uniq (nxt_is s b)], k3⟩⟩, fun b _ => (nxt_ok s b).1⟩
theorem stp_prev {w : World} (hT : Tw w) {s : ByteArray} (hs : s.size ≤ 1099511627776) : Stp w s (pvC s) (.func (.func 38) #[] #[]) :=
  ⟨⟨38, rfl, enters_of Tryz.func38 (by kernel_rfl) rfl, fun W b hW hb => (cprev_any s b (by unfold maxLen; omega) W (hT.below hW).t (by have := cb_le hb; omega)).mono fun e W' ⟨m, k1, k2, k3⟩ => ⟨by rw [k1, k2.uniq (pvC_is s b)], k3⟩⟩, fun b _ => (pv_ok s b).1⟩
theorem stp_line {w : World} (hT : Tw w) {s : ByteArray} (hs : s.size ≤ 1099511627776) : Stp w s (lnA s) (.func (.func 42) #[] #[]) :=
  ⟨⟨42, rfl, enters_of Tryz.func42 (by kernel_rfl) rfl, fun W b hW hb => lineAhead_any s hs b hb W (hT.below hW)⟩, fun b hb => (lnA_ok hb).1⟩
theorem rowS_down {W : World} {b c n : Nat} {v : Value} {xs : List Value} (h : W.ownsRow b 53 2 v n xs) (hc : c ≤ b) : W.ownsRow c 53 2 v n xs :=
  ⟨h.1, h.2.imp id fun ⟨g, cap, cur, h1, h2, h3⟩ => ⟨g, cap, cur, h1, by omega, h3⟩⟩
/-- the list of words that is being shifted: k of them are -/
structure Sh2 (w : World) (v : Value) (f : Nat) (L : List (Nat × Nat)) (k : Nat) (W : World) : Prop where
  bel : Below w.heap.size w W
  row : W.ownsRow w.heap.size 53 2 v L.length (spc (wsh f (L.take k) ++ L.drop k))
theorem shl_len (f : Nat) (L : List (Nat × Nat)) (k : Nat) : (wsh f (L.take k) ++ L.drop k).length = L.length := by simp [wsh]; omega
theorem shl_at {f : Nat} {L : List (Nat × Nat)} {k : Nat} {p : Nat × Nat} (h : L[k]? = some p) : (wsh f (L.take k) ++ L.drop k)[k]? = some p := by
  have hk := (List.getElem?_eq_some_iff.1 h).1
  have hl : (wsh f (L.take k)).length = k := by simp [wsh]; omega
  rw [List.getElem?_append_right (by omega), hl, Nat.sub_self, List.getElem?_drop, Nat.add_zero]
  exact h
theorem shl_next {f : Nat} {L : List (Nat × Nat)} {k : Nat} {p : Nat × Nat} (h : L[k]? = some p) : ((spc (wsh f (L.take k) ++ L.drop k)).set (k * 2) (.int .i64 ((p.1 + f : Nat) : Int))).set (k * 2 + 1) (.int .i64 ((p.2 + f : Nat) : Int)) = spc (wsh f (L.take (k + 1)) ++ L.drop (k + 1)) := by
  have hk := (List.getElem?_eq_some_iff.1 h).1
  have e1 : L.drop k = p :: L.drop (k + 1) := by
    rw [List.drop_eq_getElem_cons hk]
    congr 1
    exact Option.some.inj ((List.getElem?_eq_getElem hk).symm.trans h)
  have e2 : L.take (k + 1) = L.take k ++ [p] := by rw [List.take_add_one, h]; rfl
  have hl : (spc (wsh f (L.take k))).length = k * 2 := by rw [spc_len]; simp [wsh]; omega
  rw [e1, e2]
  have e3 : spc (wsh f (L.take k) ++ p :: L.drop (k + 1)) = spc (wsh f (L.take k)) ++ (.int .i64 p.1 :: .int .i64 p.2 :: spc (L.drop (k + 1))) := by simp [spc]
  have e4 : spc (wsh f (L.take k ++ [p]) ++ L.drop (k + 1)) = spc (wsh f (L.take k)) ++ (.int .i64 (p.1 + f : Nat) :: .int .i64 (p.2 + f : Nat) :: spc (L.drop (k + 1))) := by simp [spc, wsh]
  rw [e3, e4, List.set_append_right _ _ (by omega), hl, Nat.sub_self, List.set_append_right _ _ (by omega), hl, show k * 2 + 1 - k * 2 = 1 by omega]
  rfl
theorem Sh2.cells {w W : World} {v : Value} {f : Nat} {L : List (Nat × Nat)} {k : Nat} {p : Nat × Nat} (h : Sh2 w v f L k W) (hp : L[k]? = some p) : ∃ g cap, v = .slice (some ⟨g, 0, none⟩) L.length cap ∧ w.heap.size ≤ g ∧ W.cell? ⟨g, k * 2, none⟩ = some (.int .i64 p.1) ∧ W.cell? ⟨g, k * 2 + 1, none⟩ = some (.int .i64 p.2) ∧ W.frozen? ⟨g, k * 2, none⟩ = false ∧ W.frozen? ⟨g, k * 2 + 1, none⟩ = false := by
  have hk := (List.getElem?_eq_some_iff.1 hp).1
  have hr := h.row
  rcases hr.2 with ⟨h0, h1⟩ | ⟨g, cap, cur, hv, hb, hg, _⟩
  · rw [h1] at hk; omega
  · subst hv
    obtain ⟨e0, e1⟩ := spc_get _ _ _ (shl_at (f := f) hp)
    have hl := spc_len (wsh f (L.take k) ++ L.drop k)
    rw [shl_len] at hl
    exact ⟨g, cap, rfl, hb, (hr.cellAt (k * 2) (by omega)).trans e0, (hr.cellAt (k * 2 + 1) (by omega)).trans e1, by simp [World.frozen?, hg], by simp [World.frozen?, hg]⟩
theorem Sh2.next {w W : World} {f : Nat} {L : List (Nat × Nat)} {k g cap : Nat} {p : Nat × Nat} (h : Sh2 w (.slice (some ⟨g, 0, none⟩) L.length cap) f L k W) (hg : w.heap.size ≤ g) (hp : L[k]? = some p) : Sh2 w (.slice (some ⟨g, 0, none⟩) L.length cap) f L (k + 1) ((W.setCell ⟨g, k * 2, none⟩ (.int .i64 (p.1 + f : Nat))).setCell ⟨g, k * 2 + 1, none⟩ (.int .i64 (p.2 + f : Nat))) := by
  refine ⟨(h.bel.setCell (p := ⟨g, k * 2, none⟩) hg _).setCell (p := ⟨g, k * 2 + 1, none⟩) hg _, ?_⟩
  have := row_set (row_set h.row (g := g) rfl (j := k * 2) (.int .i64 (p.1 + f : Nat))) (g := g) rfl (j := k * 2 + 1) (.int .i64 (p.2 + f : Nat))
  rw [shl_next hp] at this
  exact this
set_option maxRecDepth 100000 in
set_option maxHeartbeats 2000000 in
theorem wordsAbout_any (s : ByteArray) (hs : s.size ≤ 1099511627776) (a : Nat) (ha : cbZ s a = true) (w : World) (hT : Tw w) :
    Calls Tryz.prog 81 #[.string s, .int .i64 a] w fun e W' => ∃ v, e = .returned v ∧ W'.ownsRow w.heap.size 53 2 v (words (s.extract (behindW (words s) (behindW (words s) a)) (aheadW (words s) s.size (aheadW (words s) s.size a)))).length (spc (wsh (behindW (words s) (behindW (words s) a)) (words (s.extract (behindW (words s) (behindW (words s) a)) (aheadW (words s) s.size (aheadW (words s) s.size a)))))) ∧ Below w.heap.size w W' := by
  have hal := cb_le ha
  obtain ⟨g1, g2, g3, g4, g5, -⟩ := sel_piece ha
  have S1 := stp_behind hT hs
  have S2 := stp_ahead hT hs
  have er1 : rpt (behindW (words s)) 2 a = behindW (words s) (behindW (words s) a) := rfl
  have er2 : rpt (aheadW (words s) s.size) 2 a = aheadW (words s) s.size (aheadW (words s) s.size a) := rfl
  obtain ⟨f, hf⟩ : ∃ f, behindW (words s) (behindW (words s) a) = f := ⟨_, rfl⟩
  obtain ⟨t, ht⟩ : ∃ t, aheadW (words s) s.size (aheadW (words s) s.size a) = t := ⟨_, rfl⟩
  rw [hf] at g1 g4 er1 ⊢
  rw [ht] at g2 g3 g5 er2 ⊢
  have D1 : Hid (∀ W, Below w.heap.size w W → Calls Tryz.prog 73 #[.int .i64 2, .func (.func 41) #[] #[]] W fun e W' => ∃ b, e = .returned (.func (.func 102) #[] #[.pointer (some ⟨b, 0, none⟩), .pointer (some ⟨b + 1, 0, none⟩)]) ∧ Hid (Tb w 2 (.func (.func 41) #[] #[]) b W')) := fun W hW => (times_any W 2 41).mono fun e W' ⟨b, k1, k2⟩ => ⟨b, k1, below_on hW k2.bel, k2.c, k2.f, k2.lt⟩
  have D2 : Hid (∀ W b, Tb w 2 (.func (.func 41) #[] #[]) b W → Calls Tryz.prog 102 #[.string s, .int .i64 a, .pointer (some ⟨b, 0, none⟩), .pointer (some ⟨b + 1, 0, none⟩)] W fun e W' => e = .returned (.int .i64 f) ∧ Hid (Below w.heap.size w W')) := fun W b hW => by
    have := times1_any S1 hW hs (by omega) a ha
    rw [er1] at this
    exact this.mono fun e W' ⟨k1, k2⟩ => ⟨k1, below_on hW.bel k2⟩
  have D3 : Hid (∀ W, Below w.heap.size w W → Calls Tryz.prog 73 #[.int .i64 2, .func (.func 40) #[] #[]] W fun e W' => ∃ b, e = .returned (.func (.func 102) #[] #[.pointer (some ⟨b, 0, none⟩), .pointer (some ⟨b + 1, 0, none⟩)]) ∧ Hid (Tb w 2 (.func (.func 40) #[] #[]) b W')) := fun W hW => (times_any W 2 40).mono fun e W' ⟨b, k1, k2⟩ => ⟨b, k1, below_on hW k2.bel, k2.c, k2.f, k2.lt⟩
  have D4 : Hid (∀ W b, Tb w 2 (.func (.func 40) #[] #[]) b W → Calls Tryz.prog 102 #[.string s, .int .i64 a, .pointer (some ⟨b, 0, none⟩), .pointer (some ⟨b + 1, 0, none⟩)] W fun e W' => e = .returned (.int .i64 t) ∧ Hid (Below w.heap.size w W')) := fun W b hW => by
    have := times1_any S2 hW hs (by omega) a ha
    rw [er2] at this
    exact this.mono fun e W' ⟨k1, k2⟩ => ⟨k1, below_on hW.bel k2⟩
  have hz := size_extract s f t g3
  obtain ⟨L, hL⟩ : ∃ L, words (s.extract f t) = L := ⟨_, rfl⟩
  have D5 : Hid (∀ W, Below w.heap.size w W → Calls Tryz.prog 87 #[.string (s.extract f t)] W fun e W' => ∃ o cap, e = .returned (.slice o L.length cap) ∧ Hid (Sh2 w (.slice o L.length cap) f L 0 W')) := fun W hW => by
    have hT' := hT.below hW
    have := spans_any (s.extract f t) (by unfold maxLen; omega) (by omega) W hT'.t hT'.lo0 hT'.lo1
    rw [hL] at this
    refine this.mono fun e W' ⟨v, k1, k2, k3⟩ => ?_
    obtain ⟨o, cap, rfl, -⟩ := Rd2.of_row k2
    exact ⟨o, cap, k1, below_on hW k3, by simpa [wsh] using rowS_down k2 hW.size⟩
  have hLb : ∀ p ∈ L, p.1 ≤ 1099511627776 ∧ p.2 ≤ 1099511627776 := fun p hp => by
    rw [← hL] at hp
    have := words_mem hp
    omega
  have hLl : L.length ≤ 1099511627776 := by rw [← hL]; have := words_len (s.extract f t); omega
  rw [hL]
  have HB : Hid (Below w.heap.size w w) := Below.refl _ _
  clear S1 S2 er1 er2 hf ht hL hT ha g4 g5
  have hft : f ≤ t := by omega
  go_enter Tryz.func81, Tryz.ntmps81
  go_upto_region 3 with (first
    | (go_at_call 73; refine (D1.out _ HB.out).mono ?_; clear D1 HB; rintro e w1 ⟨b1, rfl, HT⟩)
    | (go_at_call 102; refine (D2.out _ _ HT.out).mono ?_; clear D2 HT; rintro e w2 ⟨rfl, HB⟩)
    | (go_at_call 73; refine (D3.out _ HB.out).mono ?_; clear D3 HB; rintro e w3 ⟨b2, rfl, HT⟩)
    | (go_at_call 102; refine (D4.out _ _ HT.out).mono ?_; clear D4 HT; rintro e w4 ⟨rfl, HB⟩)
    | (go_at_call 87; refine (D5.out _ HB.out).mono ?_; clear D5 HB; rintro e w5 ⟨o, cap, rfl, HS⟩))
  obtain ⟨N, hN⟩ : ∃ N, L.length = N := ⟨_, rfl⟩
  have HN : Hid (L.length = N) := hN
  rw [hN] at hLl
  have hLl' : (N : Int) ≤ 1099511627776 := by omega
  have HQ : Hid (Sh2 w (.slice o N cap) f L 0 w5) := hN ▸ HS
  rw [hN]
  clear hN HS
  go_wp2
  go_loopw [24] (fun t24 wr => ∃ k : Nat, t24 = .int .i64 k ∧ k ≤ N ∧ Hid (Sh2 w (.slice o N cap) f L k wr)) (fun t24 _ => N - (intOf t24).toNat)
  case atStart => exact ⟨0, rfl, Nat.zero_le _, HQ⟩
  case round =>
    clear HQ
    obtain ⟨k, rfl, hk, HQ⟩ := hrel
    by_cases hlt : k < N
    · have hlt' : (k : Int) < N := by omega
      obtain ⟨p, hp⟩ : ∃ p, L[k]? = some p := ⟨L[k]'(by rw [HN.out]; exact hlt), List.getElem?_eq_getElem _⟩
      obtain ⟨p1, p2⟩ := p
      have hpb := hLb _ (List.mem_of_getElem? hp)
      have hQ : Sh2 w (.slice o L.length cap) f L k wr := by rw [HN.out]; exact HQ.out
      obtain ⟨g, cap', hv, hg, c0, c1, f0, f1⟩ := hQ.cells hp
      cases hv
      have HX : Hid (Sh2 w (.slice (some ⟨g, 0, none⟩) N cap) f L (k + 1) ((wr.setCell ⟨g, k * 2, none⟩ (.int .i64 ((p1 : Int) + f))).setCell ⟨g, k * 2 + 1, none⟩ (.int .i64 ((p2 : Int) + f)))) := by
        have := hQ.next hg hp
        simp only [Int.natCast_add] at this
        rw [HN.out] at this
        exact this
      simp only at hpb c0 c1
      have b1 : (p1 : Int) + f ≤ 2199023255552 ∧ (p2 : Int) + f ≤ 2199023255552 := by omega
      clear hQ hp HQ
      go_wp2
      exact ⟨⟨k + 1, by go_num, by omega, HX⟩, by simp [intOf]; omega⟩
    · have hge : ¬ ((k : Int) < N) := by omega
      obtain rfl : k = N := by omega
      have HE : Hid (wr.ownsRow w.heap.size 53 2 (.slice o k cap) k (spc (wsh f L)) ∧ Below w.heap.size w wr) := by
        have := HQ.out.row
        rw [List.take_of_length_le (by rw [HN.out]; exact Nat.le_refl _), List.drop_of_length_le (by rw [HN.out]; exact Nat.le_refl _), List.append_nil, HN.out] at this
        exact ⟨this, HQ.out.bel⟩
      clear HQ
      go_wp2
      go_ret
      refine ⟨.slice o k cap, rfl, ?_, HE.out.2⟩
      rw [HN.out]
      exact HE.out.1
end Go.Proofs.YtdggbnkhbmffoaaGreatDoor
namespace Go.Proofs.YtdggbnkhbmffoaaGreatDoor
open Go.RowKit Go.Shelf Go.Sort Bod Wid

/-- a function value that answers a text in a form -/
structure Frm (w : World) (φ : ByteArray → ByteArray) (fv : Value) : Prop where
  ex : ∃ f, fv = .func (.func f) #[] #[] ∧ (∀ args W, (callFunc f args).run Tryz.prog W = .ok (.enter f args) W) ∧
    ∀ W (x : ByteArray), Below w.heap.size w W → x.size ≤ 1099511627776 → Calls Tryz.prog f #[.string x] W fun r W' => r = .returned (.string (φ x)) ∧ Below W.heap.size W W'
  sz : ∀ x, (φ x).size = x.size
theorem frm_up {w : World} (hT : Tw w) : Frm w (frm 26) (.func (.func 49) #[] #[]) :=
  ⟨⟨49, rfl, enters_of Tryz.func49 (by kernel_rfl) rfl, fun W x hW hx => by have hT' := hT.below hW; exact upper_any x (by unfold maxLen; omega) (by omega) W hT'.t hT'.lo0 hT'.lo1⟩, fun x => fm_size gd_up x⟩
theorem frm_low {w : World} (hT : Tw w) : Frm w (frm 27) (.func (.func 50) #[] #[]) :=
  ⟨⟨50, rfl, enters_of Tryz.func50 (by kernel_rfl) rfl, fun W x hW hx => by have hT' := hT.below hW; exact lower_any x (by unfold maxLen; omega) (by omega) W hT'.t hT'.lo0 hT'.lo1⟩, fun x => fm_size gd_low x⟩
theorem frm_cap {w : World} (hT : Tw w) : Frm w (frm 28) (.func (.func 51) #[] #[]) :=
  ⟨⟨51, rfl, enters_of Tryz.func51 (by kernel_rfl) rfl, fun W x hW hx => by have hT' := hT.below hW; exact capital_any x (by unfold maxLen; omega) (by omega) W hT'.t hT'.lo0 hT'.lo1⟩, fun x => fm_size (gd_cap _) x⟩
set_option maxRecDepth 100000 in
set_option maxHeartbeats 2000000 in
theorem wri1_any (hM : Tryz.prog.follows .mixedOrders = true) {w : World} (hT : Tw w) {k : Int} {fv : Value} (h : Frm w (frm k) fv) {s : ByteArray} (hs : s.size ≤ 1099511627776) (a : Nat) (ha : cbZ s a = true) (r : Int) (n : Nat) (hn : n ≤ 1000) (bx : Nat) (hx : w.cell? ⟨bx, 0, none⟩ = some fv) (hbx : bx < w.heap.size) :
    Calls Tryz.prog 82 #[scv s a r n, .pointer (some ⟨bx, 0, none⟩)] w fun e W' => e = .returned (rsv (caseP k s a (rpt (aheadW (words s) s.size) n a))) ∧ Below w.heap.size w W' := by
  have hal := cb_le ha
  have hst := stp_ahead hT hs
  have hrb := cb_le (rpt_inv (P := fun p : Nat => cbZ s p = true) hst.cb n a ha)
  have hra : a ≤ rpt (aheadW (words s) s.size) n a := by
    have := rst_right (k := 16) (s := s) rfl n a ha
    have e : stF 16 s = aheadW (words s) s.size := rfl
    rw [e] at this
    exact this.1
  obtain ⟨R, hR⟩ : ∃ R, rpt (aheadW (words s) s.size) n a = R := ⟨_, rfl⟩
  rw [hR] at hrb hra
  obtain ⟨⟨f, rfl, en, C⟩, hsz⟩ := h
  have HF : Hid (Fd w s a r n bx (.func (.func f) #[] #[]) ((w.alloc (.cells #[.string s, .int .i64 a, .int .i64 r, .int .i64 n] 50)).alloc (.cells #[.int .i64 0, .int .i64 0, .string ⟨#[]⟩, .int .i64 0, .string ⟨#[]⟩, .bool false] 29))) := ⟨fb0 w s a r n, ((fb0 w s a r n).bel.cell (p := ⟨bx, 0, none⟩) hbx).trans hx, hbx⟩
  have C1 : Hid (∀ W, Fd w s a r n bx (.func (.func f) #[] #[]) W → Calls Tryz.prog 73 #[.int .i64 n, .func (.func 40) #[] #[]] W fun e W' => ∃ b, e = .returned (.func (.func 102) #[] #[.pointer (some ⟨b, 0, none⟩), .pointer (some ⟨b + 1, 0, none⟩)]) ∧ Hid (Fd w s a r n bx (.func (.func f) #[] #[]) W' ∧ Tb w n (.func (.func 40) #[] #[]) b W')) := fun W hW => (times_any W n 40).mono fun e W' ⟨b, k1, k2⟩ => ⟨b, k1, hW.below k2.bel, ⟨below_on hW.f.bel k2.bel, k2.c, k2.f, k2.lt⟩⟩
  have C2 : Hid (∀ W b, Fd w s a r n bx (.func (.func f) #[] #[]) W ∧ Tb w n (.func (.func 40) #[] #[]) b W → Calls Tryz.prog 102 #[.string s, .int .i64 a, .pointer (some ⟨b, 0, none⟩), .pointer (some ⟨b + 1, 0, none⟩)] W fun e W' => e = .returned (.int .i64 R) ∧ Hid (Fd w s a r n bx (.func (.func f) #[] #[]) W')) := fun W b hW => by
    have := times1_any hst hW.2 hs hn a ha
    rw [hR] at this
    exact this.mono fun e W' ⟨k1, k2⟩ => ⟨k1, hW.1.below k2⟩
  have hz := size_extract s a R hrb
  have hz2 := hsz (s.extract a R)
  obtain ⟨y, hy⟩ : ∃ y, frm k (s.extract a R) = y := ⟨_, rfl⟩
  rw [hy] at hz2
  have C3 : Hid (∀ W, Below w.heap.size w W → Calls Tryz.prog f #[.string (s.extract a R)] W fun e W' => e = .returned (.string y) ∧ Below W.heap.size W W') := fun W hW => by rw [← hy]; exact C W _ hW (by omega)
  have C4 : Hid (∀ W, Calls Tryz.prog 83 #[.int .i64 a, .int .i64 R, .string y] W fun e W' => e = .returned (.agg #[.int .i64 a, .int .i64 (R - a : Nat), .string y, .int .i64 (a + y.size : Nat), .string ⟨#[]⟩, .bool false]) ∧ Below W.heap.size W W') := fun W => put_any W a R y hra (by omega) (by omega)
  rw [hR]
  unfold scv caseP
  rw [hy]
  obtain ⟨res, hres⟩ : ∃ res, (if R = a then (chz, (8 : Int)) else (⟨a, R - a, y, a + y.size, ⟨#[]⟩, false⟩, 0)) = res := ⟨_, rfl⟩
  rw [hres]
  have HR : Hid ((if R = a then (chz, (8 : Int)) else (⟨a, R - a, y, a + y.size, ⟨#[]⟩, false⟩, 0)) = res) := hres
  clear hres
  have HM : Hid (Tryz.prog.follows .mixedOrders = true) := hM
  have hn1 : ¬ bx = w.heap.size + 1 := by omega
  have hn2 : ¬ w.heap.size + 1 = bx := by omega
  clear hst hR hy C hsz hx hM hT
  go_enter Tryz.func82, Tryz.ntmps82
  go_wp2
  generalize (w.alloc (.cells #[.string s, .int .i64 a, .int .i64 r, .int .i64 n] 50)).alloc (.cells #[.int .i64 0, .int .i64 0, .string ⟨#[]⟩, .int .i64 0, .string ⟨#[]⟩, .bool false] 29) = W0 at HF ⊢
  obtain ⟨c0, c1, c2, c3, c4⟩ := HF.out.get
  have HD : Hid (Fd w s a r n bx (.func (.func f) #[] #[]) W0.drew) := HF.out.below ⟨rfl, rfl, rfl, Nat.le_refl _, fun _ _ => rfl⟩
  clear HF
  go_region_held3 (fun W => W.cell? ⟨w.heap.size, 0, none⟩ = some (.string s) ∧ W.cell? ⟨w.heap.size, 1, none⟩ = some (.int .i64 a) ∧ W.cell? ⟨w.heap.size, 2, none⟩ = some (.int .i64 r) ∧ W.cell? ⟨w.heap.size, 3, none⟩ = some (.int .i64 n) ∧ W.cell? ⟨bx, 0, none⟩ = some (.func (.func f) #[] #[]))
    (first | go_keep | exact HD.out.get)
    (first
      | (go_at_call 73; refine (C1.out _ HD.out).mono ?_; clear C1 HD; rintro e' w1 ⟨b, rfl, H1⟩; have HD : Hid (Fd w s a r n bx (.func (.func f) #[] #[]) w1) := H1.out.1)
      | (go_at_call 102; refine (C2.out _ _ H1.out).mono ?_; clear C2 HD H1; rintro e' w2 ⟨rfl, HD⟩))
  clear c0 c1 c2 c3 c4
  obtain ⟨c0, c1, c2, c3, c4⟩ := HD.out.get
  obtain ⟨-, ⟨f0, f1, f2, f3, f4, f5⟩, ⟨z0, z1, z2, z3, z4, z5⟩⟩ := HD.out.f.get
  by_cases h0 : R = a
  · subst h0
    have HE : Hid (res = (chz, 8)) := by show _ = _; rw [← HR.out, if_pos rfl]
    clear HR
    go_wp2
    obtain ⟨k1, k2, k3, k4, k5, k6, k7⟩ := HD.out.f.fin (.int .i64 0) (.int .i64 0) (.string ⟨#[]⟩) (.int .i64 0) (.string ⟨#[]⟩) (.bool false)
    exact bodyPost_ret (v := rsv (chz, 8)) (by simp [results, Tryz.results82, go_sem, rsv, chc, chz, k2, k3, k4, k5, k6, k7]) rfl ⟨by rw [HE.out], k1⟩
  · have HE : Hid (res = (⟨a, R - a, y, a + y.size, ⟨#[]⟩, false⟩, 0)) := by show _ = _; rw [← HR.out, if_neg h0]
    clear HR
    have h1 : ¬ ((R : Int) = a) := by omega
    have h2 : ((R : Int) == a) = false := by simp; omega
    go_wp2
    have t0 := cell_rgw c0
    have t1 := cell_rgw c1
    have t2 := cell_rgw c4
    have cP := call_rgw (W := w2) (f := f) (args := #[.string (s.extract a R)]) (v := .string y) (fun W hW => C3.out W (below_on HD.out.f.bel hW))
    have cQ := call_rgw (W := w2) (f := 83) (args := #[.int .i64 a, .int .i64 R, .string y]) (v := .agg #[.int .i64 a, .int .i64 (R - a : Nat), .string y, .int .i64 (a + y.size : Nat), .string ⟨#[]⟩, .bool false]) (fun W _ => C4.out W)
    have b1 : (0 : Int) ≤ a ∧ (a : Int) ≤ R ∧ (R : Int) ≤ s.size := by omega
    clear c0 c1 c2 c3 c4 C3 C4 z0 z1 z2 z3 z4 z5 f0 f1 f2 f3 f4 f5
    refine region_then2 HM.out (by kernel_rfl) (by kernel_rfl) (by kernel_rfl) (by kernel_rfl) rfl rfl rfl rfl ?_
    dsimp only [List.dropLast, List.getLast]
    repeat (go_big_quiet_step (first | exact cP _ _ | exact cQ _ _))
    refine wpQuiet_nil ?_
    intro _ hw'
    obtain ⟨⟨dq, osq⟩, hw''⟩ := hw'
    subst hw''
    have HX : Hid (Fb w s a r n (grow (redrawn w2 dq) osq)) := HD.out.f.below (below_regrown w2 dq osq)
    simp only at HX ⊢
    generalize grow (redrawn w2 dq) osq = W1 at HX ⊢
    clear t0 t1 t2 cP cQ HD
    obtain ⟨-, ⟨f0, f1, f2, f3, f4, f5⟩, ⟨z0, z1, z2, z3, z4, z5⟩⟩ := HX.out.get
    refine .inr ⟨(((((W1.setCell ⟨w.heap.size + 1, 0, none⟩ (.int .i64 a)).setCell ⟨w.heap.size + 1, 1, none⟩ (.int .i64 (R - a : Nat))).setCell ⟨w.heap.size + 1, 2, none⟩ (.string y)).setCell ⟨w.heap.size + 1, 3, none⟩ (.int .i64 (a + y.size : Nat))).setCell ⟨w.heap.size + 1, 4, none⟩ (.string ⟨#[]⟩)).setCell ⟨w.heap.size + 1, 5, none⟩ (.bool false), (by go_simp), ?_⟩
    obtain ⟨k1, k2, k3, k4, k5, k6, k7⟩ := HX.out.fin (.int .i64 a) (.int .i64 (R - a : Nat)) (.string y) (.int .i64 (a + y.size : Nat)) (.string ⟨#[]⟩) (.bool false)
    have HK : Hid (Below w.heap.size w ((((((W1.setCell ⟨w.heap.size + 1, 0, none⟩ (.int .i64 a)).setCell ⟨w.heap.size + 1, 1, none⟩ (.int .i64 (R - a : Nat))).setCell ⟨w.heap.size + 1, 2, none⟩ (.string y)).setCell ⟨w.heap.size + 1, 3, none⟩ (.int .i64 (a + y.size : Nat))).setCell ⟨w.heap.size + 1, 4, none⟩ (.string ⟨#[]⟩)).setCell ⟨w.heap.size + 1, 5, none⟩ (.bool false))) := k1
    generalize (((((W1.setCell ⟨w.heap.size + 1, 0, none⟩ (.int .i64 a)).setCell ⟨w.heap.size + 1, 1, none⟩ (.int .i64 (R - a : Nat))).setCell ⟨w.heap.size + 1, 2, none⟩ (.string y)).setCell ⟨w.heap.size + 1, 3, none⟩ (.int .i64 (a + y.size : Nat))).setCell ⟨w.heap.size + 1, 4, none⟩ (.string ⟨#[]⟩)).setCell ⟨w.heap.size + 1, 5, none⟩ (.bool false) = W2 at HK k2 k3 k4 k5 k6 k7 ⊢
    clear k1 z0 z1 z2 z3 z4 z5 f0 f1 f2 f3 f4 f5 HX
    refine .inl ⟨.int .i64 0, W2, (by dsimp only [Act.put]; go_simp), ?_⟩
    dsimp only [Act.put]
    go_wp2
    exact bodyPost_ret (v := rsv (⟨a, R - a, y, a + y.size, ⟨#[]⟩, false⟩, 0)) (by simp [results, Tryz.results82, go_sem, rsv, chc, k2, k3, k4, k5, k6, k7]) rfl ⟨by rw [HE.out], HK.out⟩
end Go.Proofs.YtdggbnkhbmffoaaGreatDoor
namespace Go.Proofs.YtdggbnkhbmffoaaGreatDoor
open Go.RowKit Go.Shelf Bod Wid

theorem killP_le {s : ByteArray} {a t : Nat} : ∃ c e, killP s a t = (c, e) := ⟨_, _, rfl⟩
set_option maxRecDepth 100000 in
set_option maxHeartbeats 1000000 in
theorem killLineStart_any (s : ByteArray) (hs : s.size ≤ 1099511627776) (a : Nat) (ha : cbZ s a = true) (r : Int) (n : Nat) (w : World) :
    Calls Tryz.prog 43 #[scv s a r n] w fun e W' => e = .returned (rsv (killP s a (lnP s a).1)) ∧ Below w.heap.size w W' := by
  have hal := cb_le ha
  have hle := (lnP_pl ha).le
  have HF : Hid (Fb w s a r n ((w.alloc (.cells #[.string s, .int .i64 a, .int .i64 r, .int .i64 n] 50)).alloc (.cells #[.int .i64 0, .int .i64 0, .string ⟨#[]⟩, .int .i64 0, .string ⟨#[]⟩, .bool false] 29))) := fb0 w s a r n
  have C1 := fun W (hW : Fb w s a r n W) => (lineStart_any s hs a ha W).mono fun e W' q => (⟨q.1, hW.below q.2⟩ : e = .returned (.int .i64 (lnP s a).1) ∧ Fb w s a r n W')
  generalize (lnP s a).1 = p at *
  obtain ⟨c, e, hce⟩ : ∃ c e, killP s a p = (c, e) := ⟨_, _, rfl⟩
  obtain ⟨q0, q1, q2, q3, q4, q5⟩ := c
  have C2 : Hid (∀ W, Fb w s a r n W → Calls Tryz.prog 79 #[.string s, .int .i64 a] W fun e W' => e = .returned (.int .i64 p) ∧ Hid (Fb w s a r n W')) := C1
  have C3 : Hid (∀ W, Fb w s a r n W → Calls Tryz.prog 75 #[.agg #[.string s, .int .i64 a, .int .i64 r, .int .i64 n], .int .i64 p] W fun e' W' => e' = .returned (.tuple #[.agg #[.int .i64 q0, .int .i64 q1, .string q2, .int .i64 q3, .string q4, .bool q5], .int .i64 e]) ∧ Hid (Fb w s a r n W')) := fun W hW => by
    have := killTo_any W s a r n p hs hal (by omega)
    rw [hce] at this
    exact this.mono fun e W' ⟨k1, k2⟩ => ⟨k1, hW.below k2⟩
  rw [hce]
  unfold scv
  clear C1 hce
  go_enter Tryz.func43, Tryz.ntmps43
  go_wp2
  generalize (w.alloc (.cells #[.string s, .int .i64 a, .int .i64 r, .int .i64 n] 50)).alloc (.cells #[.int .i64 0, .int .i64 0, .string ⟨#[]⟩, .int .i64 0, .string ⟨#[]⟩, .bool false] 29) = W0 at HF ⊢
  obtain ⟨⟨c0, c1, c2, c3⟩, -⟩ := HF.out.get
  have HD : Hid (Fb w s a r n W0.drew) := HF.out.below ⟨rfl, rfl, rfl, Nat.le_refl _, fun _ _ => rfl⟩
  clear HF
  go_region_held3 (fun W => W.cell? ⟨w.heap.size, 0, none⟩ = some (.string s) ∧ W.cell? ⟨w.heap.size, 1, none⟩ = some (.int .i64 a) ∧ W.cell? ⟨w.heap.size, 2, none⟩ = some (.int .i64 r) ∧ W.cell? ⟨w.heap.size, 3, none⟩ = some (.int .i64 n))
    (first | go_keep | exact HD.out.get.1)
    (first
      | (go_at_call 79; refine (C2.out _ HD.out).mono ?_; clear C2 HD; rintro e' w1 ⟨rfl, HD⟩)
      | (go_at_call 75; refine (C3.out _ HD.out).mono ?_; clear C3 HD; rintro e' w3 ⟨rfl, HD⟩; obtain ⟨⟨y0, y1, y2, y3⟩, ⟨f0, f1, f2, f3, f4, f5⟩, ⟨z0, z1, z2, z3, z4, z5⟩⟩ := HD.out.get))
  go_wp2
  obtain ⟨k1, k2, k3, k4, k5, k6, k7⟩ := HD.out.fin (.int .i64 q0) (.int .i64 q1) (.string q2) (.int .i64 q3) (.string q4) (.bool q5)
  exact bodyPost_ret (v := rsv (⟨q0, q1, q2, q3, q4, q5⟩, e)) (by simp [results, Tryz.results43, go_sem, rsv, chc, k2, k3, k4, k5, k6, k7]) rfl ⟨rfl, k1⟩
/-- the region as a scene has it -/
def rgv : Option Nat → Int
  | none => -1
  | some r => r
def killR (s : ByteArray) (a : Nat) : Option Nat → Chg × Int
  | none => (chz, 7)
  | some r => killP s a r
def copyR (s : ByteArray) (a : Nat) : Option Nat → Chg × Int
  | none => (chz, 7)
  | some r => copyP s a r
set_option maxRecDepth 100000 in
set_option maxHeartbeats 1000000 in
theorem killRegion_any (s : ByteArray) (hs : s.size ≤ 1099511627776) (a : Nat) (ha : a ≤ s.size) (r : Option Nat) (hr : ∀ x, r = some x → x ≤ s.size) (n : Nat) (w : World) :
    Calls Tryz.prog 44 #[scv s a (rgv r) n] w fun e W' => e = .returned (rsv (killR s a r)) ∧ Below w.heap.size w W' := by
  have HF : Hid (Fb w s a (rgv r) n ((w.alloc (.cells #[.string s, .int .i64 a, .int .i64 (rgv r), .int .i64 n] 50)).alloc (.cells #[.int .i64 0, .int .i64 0, .string ⟨#[]⟩, .int .i64 0, .string ⟨#[]⟩, .bool false] 29))) := fb0 w s a (rgv r) n
  unfold scv
  cases r with
  | none =>
    unfold rgv killR
    unfold rgv at HF
    simp only at HF ⊢
    go_enter Tryz.func44, Tryz.ntmps44
    go_wp2
    exact bodyPost_ret (v := rsv (chz, 7)) (by simp [results, Tryz.results44, go_sem, rsv, chc, chz]) rfl ⟨rfl, HF.out.bel⟩
  | some x =>
    have hx := hr x rfl
    unfold killR
    obtain ⟨c, e, hce⟩ : ∃ c e, killP s a x = (c, e) := ⟨_, _, rfl⟩
    obtain ⟨q0, q1, q2, q3, q4, q5⟩ := c
    simp only
    have C3 : Hid (∀ W, Fb w s a x n W → Calls Tryz.prog 75 #[.agg #[.string s, .int .i64 a, .int .i64 x, .int .i64 n], .int .i64 x] W fun e' W' => e' = .returned (.tuple #[.agg #[.int .i64 q0, .int .i64 q1, .string q2, .int .i64 q3, .string q4, .bool q5], .int .i64 e]) ∧ Hid (Fb w s a x n W')) := fun W hW => by
      have := killTo_any W s a x n x hs ha hx
      rw [hce] at this
      exact this.mono fun e W' ⟨k1, k2⟩ => ⟨k1, hW.below k2⟩
    rw [hce]
    unfold rgv at HF ⊢
    simp only at HF ⊢
    have h0 : ¬ ((x : Int) = -1) := by omega
    have h1 : ((x : Int) == -1) = false := by simp <;> omega
    clear hce hr
    go_enter Tryz.func44, Tryz.ntmps44
    go_wp2_with (go_at_call 75; refine (C3.out _ HF.out).mono ?_; clear C3 HF; rintro e' w3 ⟨rfl, HD⟩; obtain ⟨⟨y0, y1, y2, y3⟩, ⟨f0, f1, f2, f3, f4, f5⟩, ⟨z0, z1, z2, z3, z4, z5⟩⟩ := HD.out.get)
    obtain ⟨k1, k2, k3, k4, k5, k6, k7⟩ := HD.out.fin (.int .i64 q0) (.int .i64 q1) (.string q2) (.int .i64 q3) (.string q4) (.bool q5)
    exact bodyPost_ret (v := rsv (⟨q0, q1, q2, q3, q4, q5⟩, e)) (by simp [results, Tryz.results44, go_sem, rsv, chc, k2, k3, k4, k5, k6, k7]) rfl ⟨rfl, k1⟩
set_option maxRecDepth 100000 in
set_option maxHeartbeats 1000000 in
theorem copyRegion_any (s : ByteArray) (hs : s.size ≤ 1099511627776) (a : Nat) (ha : a ≤ s.size) (r : Option Nat) (hr : ∀ x, r = some x → x ≤ s.size) (n : Nat) (w : World) :
    Calls Tryz.prog 45 #[scv s a (rgv r) n] w fun e W' => e = .returned (rsv (copyR s a r)) ∧ Below w.heap.size w W' := by
  have HF : Hid (Fb w s a (rgv r) n ((w.alloc (.cells #[.string s, .int .i64 a, .int .i64 (rgv r), .int .i64 n] 50)).alloc (.cells #[.int .i64 0, .int .i64 0, .string ⟨#[]⟩, .int .i64 0, .string ⟨#[]⟩, .bool false] 29))) := fb0 w s a (rgv r) n
  have hk : (∃ e, killR s a r = (chz, e) ∧ copyR s a r = (chz, e) ∧ e ≠ 0) ∨ ∃ c : Chg, killR s a r = (c, 0) ∧ copyR s a r = (⟨0, 0, ⟨#[]⟩, a, c.kill, false⟩, 0) := by
    cases r with
    | none => exact .inl ⟨7, rfl, rfl, by decide⟩
    | some x =>
      unfold killR copyR killP copyP
      by_cases h : x = a
      · exact .inl ⟨8, by simp [h], by simp [h], by decide⟩
      · exact .inr ⟨_, by simp only; rw [if_neg h], by simp only; rw [if_neg h]⟩
  have C := fun W (hW : Fb w s a (rgv r) n W) => (killRegion_any s hs a ha r hr n W).mono fun e W' q => (⟨q.1, hW.below q.2⟩ : e = .returned (rsv (killR s a r)) ∧ Fb w s a (rgv r) n W')
  generalize rgv r = x at *
  unfold scv at C ⊢
  rcases hk with ⟨e, k1, k2, k3⟩ | ⟨c, k1, k2⟩
  · rw [k1] at C
    rw [k2]
    have C3 : Hid (∀ W, Fb w s a x n W → Calls Tryz.prog 44 #[.agg #[.string s, .int .i64 a, .int .i64 x, .int .i64 n]] W fun e' W' => e' = .returned (.tuple #[.agg #[.int .i64 0, .int .i64 0, .string ⟨#[]⟩, .int .i64 0, .string ⟨#[]⟩, .bool false], .int .i64 e]) ∧ Hid (Fb w s a x n W')) := C
    have h1 : (e == 0) = false := by simp <;> omega
    have h2 : decide (e = 0) = false := by simp <;> omega
    clear C k1 k2 hr
    go_enter Tryz.func45, Tryz.ntmps45
    go_upto_region 2 with (go_at_call 44; refine (C3.out _ HF.out).mono ?_; clear C3 HF; rintro e' w1 ⟨rfl, HF⟩)
    have HG : Hid (Fb w s a x n (w1.alloc (.cells #[.int .i64 0, .int .i64 0, .string ⟨#[]⟩, .int .i64 0, .string ⟨#[]⟩, .bool false] 29))) := HF.out.below ((Below.refl _ w1).alloc (Nat.le_refl _) _)
    generalize w1.alloc (.cells #[.int .i64 0, .int .i64 0, .string ⟨#[]⟩, .int .i64 0, .string ⟨#[]⟩, .bool false] 29) = w2 at HG ⊢
    clear HF
    obtain ⟨-, ⟨f0, f1, f2, f3, f4, f5⟩, ⟨z0, z1, z2, z3, z4, z5⟩⟩ := HG.out.get
    go_wp2
    obtain ⟨k1, k2, k3, k4, k5, k6, k7⟩ := HG.out.fin (.int .i64 0) (.int .i64 0) (.string ⟨#[]⟩) (.int .i64 0) (.string ⟨#[]⟩) (.bool false)
    exact bodyPost_ret (v := rsv (chz, e)) (by simp [results, Tryz.results45, go_sem, rsv, chc, chz, k2, k3, k4, k5, k6, k7]) rfl ⟨rfl, k1⟩
  · rw [k1] at C
    rw [k2]
    obtain ⟨q0, q1, q2, q3, q4, q5⟩ := c
    simp only
    have C3 : Hid (∀ W, Fb w s a x n W → Calls Tryz.prog 44 #[.agg #[.string s, .int .i64 a, .int .i64 x, .int .i64 n]] W fun e' W' => e' = .returned (.tuple #[.agg #[.int .i64 q0, .int .i64 q1, .string q2, .int .i64 q3, .string q4, .bool q5], .int .i64 0]) ∧ Hid (Fb w s a x n W')) := C
    clear C k1 k2 hr
    go_enter Tryz.func45, Tryz.ntmps45
    go_upto_region 2 with (go_at_call 44; refine (C3.out _ HF.out).mono ?_; clear C3 HF; rintro e' w1 ⟨rfl, HF⟩)
    have HG : Hid (Fc w s a x n w1.heap.size ⟨q0, q1, q2, q3, q4, q5⟩ (w1.alloc (.cells #[.int .i64 q0, .int .i64 q1, .string q2, .int .i64 q3, .string q4, .bool q5] 29))) := HF.out.new _
    generalize w1.alloc (.cells #[.int .i64 q0, .int .i64 q1, .string q2, .int .i64 q3, .string q4, .bool q5] 29) = w2 at HG ⊢
    generalize w1.heap.size = b at HG ⊢
    clear HF
    obtain ⟨⟨y0, y1, y2, y3, y4, y5⟩, g4, g5, hl⟩ := HG.out.get
    simp only at y0 y1 y2 y3 y4 y5
    obtain ⟨⟨c0, c1, c2, c3⟩, ⟨f0, f1, f2, f3, f4, f5⟩, ⟨z0, z1, z2, z3, z4, z5⟩⟩ := HG.out.f.get
    go_wp2
    obtain ⟨k1, k2, k3, k4, k5, k6, k7⟩ := HG.out.f.fin (.int .i64 0) (.int .i64 0) (.string ⟨#[]⟩) (.int .i64 a) (.string q4) (.bool false)
    exact bodyPost_ret (v := rsv (⟨0, 0, ⟨#[]⟩, a, q4, false⟩, 0)) (by simp [results, Tryz.results45, go_sem, rsv, chc, k2, k3, k4, k5, k6, k7]) rfl ⟨rfl, k1⟩
end Go.Proofs.YtdggbnkhbmffoaaGreatDoor
namespace Go.Proofs.YtdggbnkhbmffoaaGreatDoor
open Go.RowKit Go.Shelf Bod Wid

/-- .. and the box of a span -/
structure Fs (w : World) (s : ByteArray) (a : Nat) (r : Int) (n : Nat) (b x y : Nat) (W : World) : Prop where
  f : Fb w s a r n W
  bx : W.heap[b]? = some (.cells #[.int .i64 x, .int .i64 y] 53 (0, 0))
theorem Fs.below {w W X : World} {s : ByteArray} {a n b x y : Nat} {r : Int} (h : Fs w s a r n b x y W) (hb : Below W.heap.size W X) : Fs w s a r n b x y X :=
  ⟨h.f.below hb, (hb.block _ (Array.getElem?_eq_some_iff.1 h.bx).1).trans h.bx⟩
theorem Fb.span {w W : World} {s : ByteArray} {a n : Nat} {r : Int} (h : Fb w s a r n W) (x y : Nat) : Fs w s a r n W.heap.size x y (W.alloc (.cells #[.int .i64 x, .int .i64 y] 53)) :=
  ⟨h.below ((Below.refl _ W).alloc (Nat.le_refl _) _), World.alloc_heap_new _ _⟩
/-- .. and a second one -/
structure Fs2 (w : World) (s : ByteArray) (a : Nat) (r : Int) (n : Nat) (b x y c u v : Nat) (W : World) : Prop where
  f : Fs w s a r n b x y W
  cx : W.heap[c]? = some (.cells #[.int .i64 u, .int .i64 v] 53 (0, 0))
theorem Fs.span {w W : World} {s : ByteArray} {a n b x y : Nat} {r : Int} (h : Fs w s a r n b x y W) (u v : Nat) : Fs2 w s a r n b x y W.heap.size u v (W.alloc (.cells #[.int .i64 u, .int .i64 v] 53)) :=
  ⟨h.below ((Below.refl _ W).alloc (Nat.le_refl _) _), World.alloc_heap_new _ _⟩
theorem mid_facts {s : ByteArray} {a : Nat} (ha : cbZ s a = true) (h : ¬ midP s a ≤ (lnP s a).1) : cbZ s (midP s a) = true ∧ midP s a ≤ a ∧ pvC s (midP s a) < midP s a ∧ midP s a < nxt s (midP s a) ∧ nxt s (midP s a) ≤ (lnP s a).2 ∧ (lnP s a).2 ≤ s.size ∧ (lnP s a).1 ≤ pvC s (midP s a) := by
  have hp := lnP_pl ha
  have hle := hp.le
  have hcb := hp.cbs
  have hm : cbZ s (midP s a) = true ∧ midP s a ≤ a ∧ midP s a < (lnP s a).2 := by
    unfold midP at h ⊢
    split
    · rename_i e
      rw [if_pos e] at h
      have := pv_ok s a
      exact ⟨this.1, this.2.1, by have := this.2.2 (by omega); omega⟩
    · exact ⟨ha, Nat.le_refl _, by omega⟩
  have h1 := pv_ok s (midP s a)
  have h2 := nxt_ok s (midP s a)
  have h3 := nxt_is s (midP s a)
  have h4 := pvC_is s (midP s a)
  have h5 := h2.2.2.1 (by omega)
  refine ⟨hm.1, hm.2.1, h1.2.2 (by omega), h5, ?_, hle.2.2, ?_⟩
  · rcases Nat.lt_or_ge (lnP s a).2 (nxt s (midP s a)) with e | e
    · have := h3.no (lnP s a).2 (by omega) (by omega)
      rw [hcb.2] at this; cases this
    · exact e
  · rcases Nat.lt_or_ge (pvC s (midP s a)) (lnP s a).1 with e | e
    · have := h4.no (lnP s a).1 (by omega) (by omega)
      rw [hcb.1] at this; cases this
    · exact e
set_option maxRecDepth 100000 in
set_option maxHeartbeats 2000000 in
theorem transposeChars_any (hM : Tryz.prog.follows .mixedOrders = true) (s : ByteArray) (hs : s.size ≤ 1099511627776) (a : Nat) (ha : cbZ s a = true) (r : Int) (n : Nat) (w : World) (hT : Tw w) :
    Calls Tryz.prog 46 #[scv s a r n] w fun e W' => e = .returned (rsv (charsP s a)) ∧ Below w.heap.size w W' := by
  have hal := cb_le ha
  have hle := (lnP_pl ha).le
  have HF : Hid (Fb w s a r n ((w.alloc (.cells #[.string s, .int .i64 a, .int .i64 r, .int .i64 n] 50)).alloc (.cells #[.int .i64 0, .int .i64 0, .string ⟨#[]⟩, .int .i64 0, .string ⟨#[]⟩, .bool false] 29))) := fb0 w s a r n
  have C1 := fun W (hW : Fb w s a r n W) => (lineEnd_any s hs a ha W (hT.below hW.bel)).mono fun e W' q => (⟨q.1, hW.below q.2⟩ : e = .returned (.int .i64 (lnP s a).2) ∧ Fb w s a r n W')
  have C2 := fun W (hW : Fb w s a r n W) => (lineStart_any s hs a ha W).mono fun e W' q => (⟨q.1, hW.below q.2⟩ : e = .returned (.int .i64 (lnP s a).1) ∧ Fb w s a r n W')
  have C3 := fun (x : Nat) W (hW : Fb w s a r n W) (hx : x ≤ s.size) => (cprev_any s x (by unfold maxLen; omega) W (hT.below hW.bel).t (by omega)).mono fun e W' ⟨m, k1, k2, k3⟩ => (⟨by rw [k1, k2.uniq (pvC_is s x)], hW.below k3⟩ : e = Ending.returned (.int .i64 (pvC s x)) ∧ Fb w s a r n W')
  have C4 := fun (x : Nat) W b u v (hW : Fs w s a r n b u v W) (hx : x ≤ s.size) => (cnext_any s x (by unfold maxLen; omega) W (hT.below hW.f.bel).t).mono fun e W' ⟨m, k1, k2, k3⟩ => (⟨by rw [k1, k2.uniq (nxt_is s x)], hW.below k3⟩ : e = Ending.returned (.int .i64 (nxt s x)) ∧ Fs w s a r n b u v W')
  have C5 := fun W (hW : Fb w s a r n W) => (fun (v x : Nat × Nat) h1 h2 h3 h4 => (swap_any hM W s a r n v x hs h1 h2 h3 h4).mono fun e W' q => (⟨q.1, hW.below q.2⟩ : e = .returned (.agg (chc (swapP s v x))) ∧ Fb w s a r n W'))
  have hmf := mid_facts ha
  unfold charsP
  have hmid : midP s a = if a = (lnP s a).2 then pvC s a else a := rfl
  obtain ⟨m, hm⟩ : ∃ m, midP s a = m := ⟨_, rfl⟩
  have hml : m ≤ a := by
    rw [← hm, hmid]
    have := pv_ok s a
    split <;> omega
  have CPa : Hid (∀ W, Fb w s a r n W → Calls Tryz.prog 38 #[.string s, .int .i64 a] W fun e W' => e = .returned (.int .i64 (pvC s a)) ∧ Hid (Fb w s a r n W')) := fun W hW => C3 a W hW hal
  have CPm : Hid (∀ W, Fb w s a r n W → Calls Tryz.prog 38 #[.string s, .int .i64 m] W fun e W' => e = .returned (.int .i64 (pvC s m)) ∧ Hid (Fb w s a r n W')) := fun W hW => C3 m W hW (by omega)
  have CNm : Hid (∀ W b u v, Fs w s a r n b u v W → Calls Tryz.prog 26 #[.string s, .int .i64 m] W fun e W' => e = .returned (.int .i64 (nxt s m)) ∧ Hid (Fs w s a r n b u v W')) := fun W b u v hW => C4 m W b u v hW (by omega)
  rw [hm] at hmf hmid ⊢
  have hpv : pvC s a ≤ s.size := by have := pv_ok s a; omega
  obtain ⟨pa, hpa⟩ : ∃ x, pvC s a = x := ⟨_, rfl⟩
  obtain ⟨pm, hpm⟩ : ∃ x, pvC s m = x := ⟨_, rfl⟩
  obtain ⟨nm, hnm⟩ : ∃ x, nxt s m = x := ⟨_, rfl⟩
  rw [hpa] at CPa hmid hpv
  rw [hpm] at CPm hmf ⊢
  rw [hnm] at CNm hmf ⊢
  generalize (lnP s a).1 = p at *
  generalize (lnP s a).2 = b at *
  have CE : Hid (∀ W, Fb w s a r n W → Calls Tryz.prog 78 #[.string s, .int .i64 a] W fun e W' => e = .returned (.int .i64 b) ∧ Hid (Fb w s a r n W')) := C1
  have CS : Hid (∀ W, Fb w s a r n W → Calls Tryz.prog 79 #[.string s, .int .i64 a] W fun e W' => e = .returned (.int .i64 p) ∧ Hid (Fb w s a r n W')) := C2
  unfold scv
  by_cases h2 : m ≤ p
  · have h2' : (m : Int) ≤ p := by omega
    rw [if_pos h2]
    clear C1 C2 C3 C4 C5 CPm CNm hmf hpa hpm hnm hm
    by_cases h1 : a = b
    · rw [if_pos h1] at hmid
      subst hmid h1
      go_enter Tryz.func46, Tryz.ntmps46
      go_wp2_with (first | (go_at_call 78; refine (CE.out _ HF.out).mono ?_; clear CE HF; rintro e' w1 ⟨rfl, HF⟩; obtain ⟨⟨y0, y1, y2, y3⟩, -⟩ := HF.out.get) | (go_at_call 38; refine (CPa.out _ HF.out).mono ?_; clear CPa HF y0 y1 y2 y3; rintro e' w2 ⟨rfl, HF⟩; obtain ⟨⟨y0, y1, y2, y3⟩, -⟩ := HF.out.get) | (go_at_call 79; refine (CS.out _ HF.out).mono ?_; clear CS HF y0 y1 y2 y3; rintro e' w3 ⟨rfl, HF⟩; obtain ⟨⟨y0, y1, y2, y3⟩, ⟨f0, f1, f2, f3, f4, f5⟩, ⟨z0, z1, z2, z3, z4, z5⟩⟩ := HF.out.get))
      obtain ⟨k1, k2, k3, k4, k5, k6, k7⟩ := HF.out.fin (.int .i64 0) (.int .i64 0) (.string ⟨#[]⟩) (.int .i64 0) (.string ⟨#[]⟩) (.bool false)
      exact bodyPost_ret (v := rsv (chz, 8)) (by simp [results, Tryz.results46, go_sem, rsv, chc, chz, k2, k3, k4, k5, k6, k7]) rfl ⟨rfl, k1⟩
    · rw [if_neg h1] at hmid
      subst hmid
      have h1' : ¬ ((m : Int) = b) := by omega
      have h1'' : ((m : Int) == b) = false := by simp; omega
      clear CPa
      go_enter Tryz.func46, Tryz.ntmps46
      go_wp2_with (first | (go_at_call 78; refine (CE.out _ HF.out).mono ?_; clear CE HF; rintro e' w1 ⟨rfl, HF⟩; obtain ⟨⟨y0, y1, y2, y3⟩, -⟩ := HF.out.get) | (go_at_call 79; refine (CS.out _ HF.out).mono ?_; clear CS HF y0 y1 y2 y3; rintro e' w3 ⟨rfl, HF⟩; obtain ⟨⟨y0, y1, y2, y3⟩, ⟨f0, f1, f2, f3, f4, f5⟩, ⟨z0, z1, z2, z3, z4, z5⟩⟩ := HF.out.get))
      obtain ⟨k1, k2, k3, k4, k5, k6, k7⟩ := HF.out.fin (.int .i64 0) (.int .i64 0) (.string ⟨#[]⟩) (.int .i64 0) (.string ⟨#[]⟩) (.bool false)
      exact bodyPost_ret (v := rsv (chz, 8)) (by simp [results, Tryz.results46, go_sem, rsv, chc, chz, k2, k3, k4, k5, k6, k7]) rfl ⟨rfl, k1⟩
  · have h2' : ¬ ((m : Int) ≤ p) := by omega
    rw [if_neg h2]
    obtain ⟨m1, m2, m3, m4, m5, m6, m7⟩ := hmf h2
    obtain ⟨x, hx⟩ : ∃ x, swp s (pm, m) (m, nm) = x := ⟨_, rfl⟩
    have CW : Hid (∀ W, Fb w s a r n W → Calls Tryz.prog 80 #[.agg #[.string s, .int .i64 a, .int .i64 r, .int .i64 n], .agg #[.int .i64 pm, .int .i64 m], .agg #[.int .i64 m, .int .i64 nm]] W fun e W' => e = .returned (.agg #[.int .i64 pm, .int .i64 (nm - pm : Nat), .string x, .int .i64 nm, .string ⟨#[]⟩, .bool false]) ∧ Hid (Fb w s a r n W')) := fun W hW => by
      rw [← hx]
      exact C5 W hW (pm, m) (m, nm) (by simp only; omega) (by simp only; omega) (by simp only; omega) (by simp only; omega)
    have hsw : swapP s (pm, m) (m, nm) = ⟨pm, nm - pm, x, nm, ⟨#[]⟩, false⟩ := by rw [← hx]; rfl
    rw [hsw]
    clear C1 C2 C3 C4 C5 hmf hpa hpm hnm hm hx hsw m1 m7
    by_cases h1 : a = b
    · rw [if_pos h1] at hmid
      subst hmid h1
      go_enter Tryz.func46, Tryz.ntmps46
      go_upto_region 6 with (first | (go_at_call 78; refine (CE.out _ HF.out).mono ?_; clear CE HF; rintro e' w1 ⟨rfl, HF⟩; obtain ⟨⟨y0, y1, y2, y3⟩, -⟩ := HF.out.get) | (go_at_call 38; refine (CPa.out _ HF.out).mono ?_; clear CPa HF y0 y1 y2 y3; rintro e' w2 ⟨rfl, HF⟩; obtain ⟨⟨y0, y1, y2, y3⟩, -⟩ := HF.out.get) | (go_at_call 79; refine (CS.out _ HF.out).mono ?_; clear CS HF y0 y1 y2 y3; rintro e' w3 ⟨rfl, HF⟩; obtain ⟨⟨y0, y1, y2, y3⟩, -⟩ := HF.out.get))
      clear h2 h2'
      go_upto_region 7 with (go_at_call 38; refine (CPm.out _ HF.out).mono ?_; clear CPm HF y0 y1 y2 y3; rintro e' w4 ⟨rfl, HF⟩)
      have HG : Hid (Fs w s a r n w4.heap.size pm m (w4.alloc (.cells #[.int .i64 pm, .int .i64 m] 53))) := HF.out.span pm m
      generalize w4.alloc (.cells #[.int .i64 pm, .int .i64 m] 53) = w5 at HG ⊢
      generalize w4.heap.size = b1 at HG ⊢
      clear HF
      obtain ⟨⟨y0, y1, y2, y3⟩, -⟩ := HG.out.f.get
      go_upto_region 8 with (go_at_call 26; refine (CNm.out _ _ _ _ HG.out).mono ?_; clear CNm HG y0 y1 y2 y3; rintro e' w6 ⟨rfl, HG⟩)
      have HK : Hid (Fs2 w s a r n b1 pm m w6.heap.size m nm (w6.alloc (.cells #[.int .i64 m, .int .i64 nm] 53))) := HG.out.span m nm
      generalize w6.alloc (.cells #[.int .i64 m, .int .i64 nm] 53) = w7 at HK ⊢
      generalize w6.heap.size = b2 at HK ⊢
      clear HG
      obtain ⟨⟨y0, y1, y2, y3⟩, -⟩ := HK.out.f.f.get
      obtain ⟨y4, y5⟩ := box2' HK.out.f.bx
      obtain ⟨y6, y7⟩ := box2' HK.out.cx
      go_wp2_with (go_at_call 80; refine (CW.out _ HK.out.f.f).mono ?_; clear CW HK y0 y1 y2 y3 y4 y5 y6 y7; rintro e' w8 ⟨rfl, HD⟩; obtain ⟨-, ⟨f0, f1, f2, f3, f4, f5⟩, ⟨z0, z1, z2, z3, z4, z5⟩⟩ := HD.out.get)
      obtain ⟨k1, k2, k3, k4, k5, k6, k7⟩ := HD.out.fin (.int .i64 pm) (.int .i64 (nm - pm : Nat)) (.string x) (.int .i64 nm) (.string ⟨#[]⟩) (.bool false)
      exact bodyPost_ret (v := rsv (⟨pm, nm - pm, x, nm, ⟨#[]⟩, false⟩, 0)) (by simp [results, Tryz.results46, go_sem, rsv, chc, k2, k3, k4, k5, k6, k7]) rfl ⟨rfl, k1⟩
    · rw [if_neg h1] at hmid
      subst hmid
      have h1' : ¬ ((m : Int) = b) := by omega
      have h1'' : ((m : Int) == b) = false := by simp; omega
      clear CPa
      go_enter Tryz.func46, Tryz.ntmps46
      go_upto_region 6 with (first | (go_at_call 78; refine (CE.out _ HF.out).mono ?_; clear CE HF; rintro e' w1 ⟨rfl, HF⟩; obtain ⟨⟨y0, y1, y2, y3⟩, -⟩ := HF.out.get) | (go_at_call 79; refine (CS.out _ HF.out).mono ?_; clear CS HF y0 y1 y2 y3; rintro e' w3 ⟨rfl, HF⟩; obtain ⟨⟨y0, y1, y2, y3⟩, -⟩ := HF.out.get))
      clear h2 h2'
      go_upto_region 7 with (go_at_call 38; refine (CPm.out _ HF.out).mono ?_; clear CPm HF y0 y1 y2 y3; rintro e' w4 ⟨rfl, HF⟩)
      have HG : Hid (Fs w s m r n w4.heap.size pm m (w4.alloc (.cells #[.int .i64 pm, .int .i64 m] 53))) := HF.out.span pm m
      generalize w4.alloc (.cells #[.int .i64 pm, .int .i64 m] 53) = w5 at HG ⊢
      generalize w4.heap.size = b1 at HG ⊢
      clear HF
      obtain ⟨⟨y0, y1, y2, y3⟩, -⟩ := HG.out.f.get
      go_upto_region 8 with (go_at_call 26; refine (CNm.out _ _ _ _ HG.out).mono ?_; clear CNm HG y0 y1 y2 y3; rintro e' w6 ⟨rfl, HG⟩)
      have HK : Hid (Fs2 w s m r n b1 pm m w6.heap.size m nm (w6.alloc (.cells #[.int .i64 m, .int .i64 nm] 53))) := HG.out.span m nm
      generalize w6.alloc (.cells #[.int .i64 m, .int .i64 nm] 53) = w7 at HK ⊢
      generalize w6.heap.size = b2 at HK ⊢
      clear HG
      obtain ⟨⟨y0, y1, y2, y3⟩, -⟩ := HK.out.f.f.get
      obtain ⟨y4, y5⟩ := box2' HK.out.f.bx
      obtain ⟨y6, y7⟩ := box2' HK.out.cx
      go_wp2_with (go_at_call 80; refine (CW.out _ HK.out.f.f).mono ?_; clear CW HK y0 y1 y2 y3 y4 y5 y6 y7; rintro e' w8 ⟨rfl, HD⟩; obtain ⟨-, ⟨f0, f1, f2, f3, f4, f5⟩, ⟨z0, z1, z2, z3, z4, z5⟩⟩ := HD.out.get)
      obtain ⟨k1, k2, k3, k4, k5, k6, k7⟩ := HD.out.fin (.int .i64 pm) (.int .i64 (nm - pm : Nat)) (.string x) (.int .i64 nm) (.string ⟨#[]⟩) (.bool false)
      exact bodyPost_ret (v := rsv (⟨pm, nm - pm, x, nm, ⟨#[]⟩, false⟩, 0)) (by simp [results, Tryz.results46, go_sem, rsv, chc, k2, k3, k4, k5, k6, k7]) rfl ⟨rfl, k1⟩
end Go.Proofs.YtdggbnkhbmffoaaGreatDoor
namespace Go.Proofs.YtdggbnkhbmffoaaGreatDoor
open Go.RowKit Go.Shelf Go.Sort Bod Wid

theorem wsh_ris {d : Nat} {l : List (Nat × Nat)} (h : Ris l) : Ris (wsh d l) := by
  unfold Ris wsh at *
  rw [List.pairwise_map]
  exact h.imp fun {x y} e => by simp only; omega
theorem wsh_mem {d : Nat} {l : List (Nat × Nat)} (h : ∀ w ∈ l, w.1 < w.2) : ∀ w ∈ wsh d l, w.1 < w.2 := fun w hw => by
  obtain ⟨x, hx, rfl⟩ := List.mem_map.1 hw
  have := h x hx
  simp only; omega
/-- where the search of the second word ends -/
theorem sel_end {l : List (Nat × Nat)} {a i : Nat} (hl : Ris l) (hw : ∀ w ∈ l, w.1 < w.2) (h2 : 2 ≤ l.length) (h1 : 1 ≤ i) (hi : i < l.length) (hp : ∀ (j : Nat) (x : Nat × Nat), 1 ≤ j → j < i → l[j]? = some x → x.1 < a) (he : i = l.length - 1 ∨ ∀ x, l[i]? = some x → ¬ x.1 < a) : i = selI l a := by
  have hb := ris_below hl hw a
  have hbl := below_le l a
  have q1 : i = 1 ∨ i - 1 < belowN l a := by
    by_cases e : i = 1
    · exact .inl e
    · refine .inr ?_
      obtain ⟨x, hx⟩ : ∃ x, l[i - 1]? = some x := ⟨_, List.getElem?_eq_getElem (by omega)⟩
      exact (hb (i - 1) x hx).1 (hp (i - 1) x (by omega) (by omega) hx)
  have q2 : i = l.length - 1 ∨ ¬ i < belowN l a := he.imp id fun e => by
    obtain ⟨x, hx⟩ : ∃ x, l[i]? = some x := ⟨_, List.getElem?_eq_getElem hi⟩
    exact fun q => e x hx ((hb i x hx).2 q)
  unfold selI
  omega
/-- what lies where in transposeWords -/
structure Fw (w : World) (s : ByteArray) (a : Nat) (r : Int) (n : Nat) (v : Value) (M : List (Nat × Nat)) (W : World) : Prop where
  f : Fb w s a r n W
  l : Rd2 W v M
theorem Fw.below {w W X : World} {s : ByteArray} {a n : Nat} {r : Int} {v : Value} {M : List (Nat × Nat)} (h : Fw w s a r n v M W) (hb : Below W.heap.size W X) : Fw w s a r n v M X := ⟨h.f.below hb, h.l.below hb⟩
theorem Fw.cell {w W : World} {s : ByteArray} {a n g N cap : Nat} {r : Int} {M : List (Nat × Nat)} (h : Fw w s a r n (.slice (some ⟨g, 0, none⟩) N cap) M W) {k : Nat} {x : Nat × Nat} (hx : M[k]? = some x) : W.cell? ⟨g, k * 2, none⟩ = some (.int .i64 x.1) ∧ W.cell? ⟨g, k * 2 + 1, none⟩ = some (.int .i64 x.2) := by
  obtain ⟨o, c, e, hc⟩ := h.l
  obtain ⟨g', e', -, hk⟩ := hc (fun e => by rw [e] at hx; simp at hx)
  cases e
  cases e'
  exact hk k x hx
set_option maxRecDepth 100000 in
set_option maxHeartbeats 4000000 in
theorem transposeWords_any (hM : Tryz.prog.follows .mixedOrders = true) (s : ByteArray) (hs : s.size ≤ 1099511627776) (a : Nat) (ha : cbZ s a = true) (r : Int) (n : Nat) (w : World) (hT : Tw w) :
    Calls Tryz.prog 47 #[scv s a r n] w fun e W' => e = .returned (rsv (wordsP s a)) ∧ Below w.heap.size w W' := by
  have hal := cb_le ha
  have HF : Hid (Fb w s a r n ((w.alloc (.cells #[.string s, .int .i64 a, .int .i64 r, .int .i64 n] 50)).alloc (.cells #[.int .i64 0, .int .i64 0, .string ⟨#[]⟩, .int .i64 0, .string ⟨#[]⟩, .bool false] 29))) := fb0 w s a r n
  obtain ⟨g1, g2, g3, g4, g5, g6, g7⟩ := sel_piece ha
  have C1 := fun W (hW : Fb w s a r n W) => wordsAbout_any s hs a ha W (hT.below hW.bel)
  have C5 := fun W (hW : Fb w s a r n W) => (fun (v x : Nat × Nat) h1 h2 h3 h4 => (swap_any hM W s a r n v x hs h1 h2 h3 h4).mono fun e W' q => (⟨q.1, q.2⟩ : e = .returned (.agg (chc (swapP s v x))) ∧ Below W.heap.size W W'))
  obtain ⟨f, hf⟩ : ∃ f, behindW (words s) (behindW (words s) a) = f := ⟨_, rfl⟩
  obtain ⟨t, ht⟩ : ∃ t, aheadW (words s) s.size (aheadW (words s) s.size a) = t := ⟨_, rfl⟩
  rw [hf, ht] at g6 g7 C1
  have hris : Ris (wsh f (words (s.extract f t))) := wsh_ris (words_ris _)
  have hmem : ∀ w ∈ wsh f (words (s.extract f t)), w.1 < w.2 := wsh_mem fun w hw => (words_mem hw).1
  have hwl := wsh_len f (words (s.extract f t))
  obtain ⟨M, hMe⟩ : ∃ M, wsh f (words (s.extract f t)) = M := ⟨_, rfl⟩
  rw [hMe] at g7 hris hmem hwl
  rw [← hwl] at g6 g7
  have hln : M.length ≤ 1099511627776 := by
    rw [hwl]
    have := words_len (s.extract f t)
    have hz : (s.extract f t).size ≤ s.size := by simp; omega
    omega
  obtain ⟨N, hN⟩ : ∃ N, M.length = N := ⟨_, rfl⟩
  have D1 : Hid (∀ W, Fb w s a r n W → Calls Tryz.prog 81 #[.string s, .int .i64 a] W fun e W' => ∃ o cap, e = .returned (.slice o N cap) ∧ Hid (Fw w s a r n (.slice o N cap) M W')) := fun W hW => (C1 W hW).mono fun e W' ⟨v, k1, k2, k3⟩ => by
    rw [hMe, ← hwl] at k2
    have hr := Rd2.of_row k2
    obtain ⟨o, cap, rfl, hc⟩ := hr
    exact ⟨o, cap, by rw [k1, hN], hW.below k3, ⟨o, cap, by rw [hN], hc⟩⟩
  have hN' : (N : Int) ≤ 1099511627776 := by omega
  have HN : Hid (M.length = N) := hN
  unfold wordsP scv
  rw [hN] at g6 g7
  by_cases h2 : N < 2
  · rw [if_pos (g6.1 h2)]
    have h2' : (N : Int) < 2 := by omega
    clear C1 C5 g6 g7 hris hmem hN hMe hwl hln
    go_enter Tryz.func47, Tryz.ntmps47
    go_wp2_with (go_at_call 81; refine (D1.out _ HF.out).mono ?_; clear D1 HF; rintro e' w1 ⟨o, cap, rfl, HW⟩; obtain ⟨-, ⟨f0, f1, f2, f3, f4, f5⟩, ⟨z0, z1, z2, z3, z4, z5⟩⟩ := HW.out.f.get)
    obtain ⟨k1, k2, k3, k4, k5, k6, k7⟩ := HW.out.f.fin (.int .i64 0) (.int .i64 0) (.string ⟨#[]⟩) (.int .i64 0) (.string ⟨#[]⟩) (.bool false)
    exact bodyPost_ret (v := rsv (chz, 8)) (by simp [results, Tryz.results47, go_sem, rsv, chc, chz, k2, k3, k4, k5, k6, k7]) rfl ⟨rfl, k1⟩
  · have hw2 : ¬ (words s).length < 2 := fun e => h2 (g6.2 e)
    rw [if_neg hw2]
    have h2' : ¬ ((N : Int) < 2) := by omega
    obtain ⟨j1, j2, j3⟩ := g7 (by omega)
    obtain ⟨S, hS⟩ : ∃ S, selI M a = S := ⟨_, rfl⟩
    rw [hS] at j1 j2 j3
    have hS1 : 1 ≤ S := by rw [← hS]; unfold selI; omega
    obtain ⟨v, hv⟩ : ∃ v, M[S - 1]? = some v := ⟨_, List.getElem?_eq_getElem (by omega)⟩
    obtain ⟨x, hx⟩ : ∃ x, M[S]? = some x := ⟨_, List.getElem?_eq_getElem (by omega)⟩
    rw [hx] at j2
    rw [hv] at j3
    have e1 : (words s).getD (selI (words s) a) (0, 0) = x := by rw [List.getD_eq_getElem?_getD, ← j2]; rfl
    have e2 : (words s).getD (selI (words s) a - 1) (0, 0) = v := by rw [List.getD_eq_getElem?_getD, ← j3]; rfl
    rw [e1, e2]
    have b1 := words_mem (List.mem_of_getElem? j2.symm)
    have b2 := words_mem (List.mem_of_getElem? j3.symm)
    have b3 : v.2 < x.1 := words_lt j3.symm j2.symm (by unfold selI; omega)
    obtain ⟨v1, v2⟩ := v
    obtain ⟨x1, x2⟩ := x
    simp only at b1 b2 b3
    obtain ⟨y, hy⟩ : ∃ y, swp s (v1, v2) (x1, x2) = y := ⟨_, rfl⟩
    have CW : Hid (∀ W, Fb w s a r n W → Calls Tryz.prog 80 #[.agg #[.string s, .int .i64 a, .int .i64 r, .int .i64 n], .agg #[.int .i64 v1, .int .i64 v2], .agg #[.int .i64 x1, .int .i64 x2]] W fun e W' => e = .returned (.agg #[.int .i64 v1, .int .i64 (x2 - v1 : Nat), .string y, .int .i64 x2, .string ⟨#[]⟩, .bool false]) ∧ Below W.heap.size W W') := fun W hW => by
      rw [← hy]
      exact C5 W hW (v1, v2) (x1, x2) (by simp only; omega) (by simp only; omega) (by simp only; omega) (by simp only; omega)
    have hsw : swapP s (v1, v2) (x1, x2) = ⟨v1, x2 - v1, y, x2, ⟨#[]⟩, false⟩ := by rw [← hy]; rfl
    rw [hsw]
    have HE : Hid (∀ i, 1 ≤ i → i < N → (∀ (j : Nat) (x : Nat × Nat), 1 ≤ j → j < i → M[j]? = some x → x.1 < a) → (i = N - 1 ∨ ∀ x, M[i]? = some x → ¬ x.1 < a) → i = S) := fun i k1 k2 k3 k4 => by
      rw [← hS]
      rw [← hN] at k2 k4 h2
      exact sel_end hris hmem (by omega) k1 k2 k3 k4
    have HV : Hid (M[S - 1]? = some (v1, v2) ∧ M[S]? = some (x1, x2)) := ⟨hv, hx⟩
    have HMx : Hid (Tryz.prog.follows .mixedOrders = true) := hM
    have HMN : Hid (∀ i, i < N → ∃ x, M[i]? = some x) := fun i hi => ⟨_, List.getElem?_eq_getElem (by rw [hN]; exact hi)⟩
    clear C1 C5 g6 g7 hris hmem hN hMe hwl hln hw2 j2 j3 hS e1 e2 hy hsw hv hx hM
    go_enter Tryz.func47, Tryz.ntmps47
    go_upto_region 5 with (go_at_call 81; refine (D1.out _ HF.out).mono ?_; clear D1 HF; rintro e' w1 ⟨o, cap, rfl, HW⟩)
    obtain ⟨g, rfl⟩ : ∃ g, o = some ⟨g, 0, none⟩ := by
      obtain ⟨o', c', e, hc⟩ := HW.out.l
      obtain ⟨g, e', -⟩ := hc (fun e0 => by have := HN.out; rw [e0] at this; simp at this; omega)
      cases e
      exact ⟨g, e'⟩
    go_loopw [5] (fun t5 wr => ∃ i : Nat, t5 = .int .i64 i ∧ 1 ≤ i ∧ i < N ∧ Hid (∀ (j : Nat) (x : Nat × Nat), 1 ≤ j → j < i → M[j]? = some x → x.1 < a) ∧ Hid (Fw w s a r n (.slice (some ⟨g, 0, none⟩) N cap) M wr)) (fun t5 _ => N - (intOf t5).toNat)
    case atStart => exact ⟨1, rfl, Nat.le_refl _, by omega, (fun j x k1 k2 => by omega), HW⟩
    case round =>
      clear HW
      obtain ⟨i, rfl, hi1, hi2, HJ, HW⟩ := hrel
      obtain ⟨⟨c0, c1, c2, c3⟩, -⟩ := HW.out.f.get
      have hw1 : IntKind.i64.wrap ((N : Int) - 1) = (N : Int) - 1 := by rw [IntKind.wrap_i64]; omega
      obtain ⟨⟨u1, u2⟩, hu⟩ := HMN.out i hi2
      obtain ⟨d0, d1⟩ := HW.out.cell hu
      simp only at d0 d1
      have HU : Hid (M[i]? = some (u1, u2)) := hu
      clear hu
      have hii : (0 : Int) ≤ i ∧ (i : Int) < N := by omega
      by_cases q1 : i < N - 1
      · have q1' : (i : Int) < (N : Int) - 1 := by omega
        have q1d : decide ((i : Int) < (N : Int) - 1) = true := decide_eq_true q1'
        by_cases q2 : u1 < a
        · have q2' : (u1 : Int) < a := by omega
          go_wp2
          go_quiet (fail)
          have HX : Hid (Fw w s a r n (.slice (some ⟨g, 0, none⟩) N cap) M (wr.drewN nq)) := HW.out.below ⟨rfl, rfl, rfl, Nat.le_refl _, fun _ _ => rfl⟩
          clear HW
          go_wp2
          exact ⟨⟨i + 1, by go_num, by omega, by omega, (fun j x k1 k2 k3 => by
            by_cases e : j = i
            · subst e; rw [HU.out] at k3; cases k3; exact q2
            · exact HJ.out j x k1 (by omega) k3), HX⟩, by simp [intOf]; omega⟩
        · have q2' : ¬ ((u1 : Int) < a) := by omega
          have HI : Hid (i = S) := HE.out i hi1 hi2 HJ.out (.inr fun x hx => by rw [HU.out] at hx; cases hx; exact q2)
          go_wp2
          go_quiet (fail)
          have HX : Hid (Fw w s a r n (.slice (some ⟨g, 0, none⟩) N cap) M (wr.drewN nq)) := HW.out.below ⟨rfl, rfl, rfl, Nat.le_refl _, fun _ _ => rfl⟩
          obtain rfl := HI.out
          clear HW HI HJ HU HE d0 d1
          obtain ⟨m, hm⟩ : ∃ m, i - 1 = m := ⟨_, rfl⟩
          have hv := HV.out.1
          rw [hm] at hv
          generalize wr.drewN nq = W0 at HX ⊢
          obtain ⟨⟨c0, c1, c2, c3⟩, -⟩ := HX.out.f.get
          obtain ⟨a0, a1⟩ := HX.out.cell hv
          obtain ⟨a2, a3⟩ := HX.out.cell HV.out.2
          simp only at a0 a1 a2 a3
          have t0 := cell_rgw c0
          have t1 := cell_rgw c1
          have t2 := cell_rgw c2
          have t3 := cell_rgw c3
          have t4 := cell_rgw a0
          have t5 := cell_rgw a1
          have t6 := cell_rgw a2
          have t7 := cell_rgw a3
          have s1 : IntKind.i64.wrap ((i : Int) - 1) = (i : Int) - 1 := by rw [IntKind.wrap_i64]; omega
          have s2 : ((i : Int) - 1).toNat = m := by omega
          have s3 : (0 : Int) ≤ (i : Int) - 1 := by omega
          have s4 : (i : Int) - 1 < N := by omega
          have cP := call_rgw (W := W0) (f := 80) (args := #[.agg #[.string s, .int .i64 a, .int .i64 r, .int .i64 n], .agg #[.int .i64 v1, .int .i64 v2], .agg #[.int .i64 x1, .int .i64 x2]]) (v := .agg #[.int .i64 v1, .int .i64 (x2 - v1 : Nat), .string y, .int .i64 x2, .string ⟨#[]⟩, .bool false]) (fun W hW => CW.out W (HX.out.f.below hW))
          clear c0 c1 c2 c3 a0 a1 a2 a3 CW hv HV
          go_wp2
          refine region_then2 HMx.out (by kernel_rfl) (by kernel_rfl) (by kernel_rfl) (by kernel_rfl) rfl rfl rfl rfl ?_
          dsimp only [List.dropLast, List.getLast]
          repeat (go_big_quiet_step (exact cP _ _))
          refine wpQuiet_nil ?_
          intro _ hw'
          obtain ⟨⟨dq, osq⟩, hw''⟩ := hw'
          subst hw''
          have HD : Hid (Fb w s a r n (grow (redrawn W0 dq) osq)) := HX.out.f.below (below_regrown W0 dq osq)
          simp only at HD ⊢
          generalize grow (redrawn W0 dq) osq = W1 at HD ⊢
          clear t0 t1 t2 t3 t4 t5 t6 t7 cP HX
          obtain ⟨-, ⟨f0, f1, f2, f3, f4, f5⟩, ⟨z0, z1, z2, z3, z4, z5⟩⟩ := HD.out.get
          refine .inr ⟨(((((W1.setCell ⟨w.heap.size + 1, 0, none⟩ (.int .i64 v1)).setCell ⟨w.heap.size + 1, 1, none⟩ (.int .i64 (x2 - v1 : Nat))).setCell ⟨w.heap.size + 1, 2, none⟩ (.string y)).setCell ⟨w.heap.size + 1, 3, none⟩ (.int .i64 x2)).setCell ⟨w.heap.size + 1, 4, none⟩ (.string ⟨#[]⟩)).setCell ⟨w.heap.size + 1, 5, none⟩ (.bool false), (by go_simp), ?_⟩
          obtain ⟨k1, k2, k3, k4, k5, k6, k7⟩ := HD.out.fin (.int .i64 v1) (.int .i64 (x2 - v1 : Nat)) (.string y) (.int .i64 x2) (.string ⟨#[]⟩) (.bool false)
          have HK : Hid (Below w.heap.size w ((((((W1.setCell ⟨w.heap.size + 1, 0, none⟩ (.int .i64 v1)).setCell ⟨w.heap.size + 1, 1, none⟩ (.int .i64 (x2 - v1 : Nat))).setCell ⟨w.heap.size + 1, 2, none⟩ (.string y)).setCell ⟨w.heap.size + 1, 3, none⟩ (.int .i64 x2)).setCell ⟨w.heap.size + 1, 4, none⟩ (.string ⟨#[]⟩)).setCell ⟨w.heap.size + 1, 5, none⟩ (.bool false))) := k1
          generalize (((((W1.setCell ⟨w.heap.size + 1, 0, none⟩ (.int .i64 v1)).setCell ⟨w.heap.size + 1, 1, none⟩ (.int .i64 (x2 - v1 : Nat))).setCell ⟨w.heap.size + 1, 2, none⟩ (.string y)).setCell ⟨w.heap.size + 1, 3, none⟩ (.int .i64 x2)).setCell ⟨w.heap.size + 1, 4, none⟩ (.string ⟨#[]⟩)).setCell ⟨w.heap.size + 1, 5, none⟩ (.bool false) = W2 at HK k2 k3 k4 k5 k6 k7 ⊢
          clear k1 z0 z1 z2 z3 z4 z5 f0 f1 f2 f3 f4 f5 HD
          refine .inl ⟨.int .i64 0, W2, (by dsimp only [Act.put]; go_simp), ?_⟩
          dsimp only [Act.put]
          go_wp2
          exact bodyPost_ret (v := rsv (⟨v1, x2 - v1, y, x2, ⟨#[]⟩, false⟩, 0)) (by simp [results, Tryz.results47, go_sem, rsv, chc, k2, k3, k4, k5, k6, k7]) rfl ⟨rfl, HK.out⟩
      · have q1' : ¬ ((i : Int) < (N : Int) - 1) := by omega
        have q1d : decide ((i : Int) < (N : Int) - 1) = false := decide_eq_false q1'
        have HI : Hid (i = S) := HE.out i hi1 hi2 HJ.out (.inl (by omega))
        clear d0 d1
        go_wp2
        go_quiet (fail)
        have HX : Hid (Fw w s a r n (.slice (some ⟨g, 0, none⟩) N cap) M (wr.drewN nq)) := HW.out.below ⟨rfl, rfl, rfl, Nat.le_refl _, fun _ _ => rfl⟩
        obtain rfl := HI.out
        clear HW HI HJ HU HE 
        obtain ⟨m, hm⟩ : ∃ m, i - 1 = m := ⟨_, rfl⟩
        have hv := HV.out.1
        rw [hm] at hv
        generalize wr.drewN nq = W0 at HX ⊢
        obtain ⟨⟨c0, c1, c2, c3⟩, -⟩ := HX.out.f.get
        obtain ⟨a0, a1⟩ := HX.out.cell hv
        obtain ⟨a2, a3⟩ := HX.out.cell HV.out.2
        simp only at a0 a1 a2 a3
        have t0 := cell_rgw c0
        have t1 := cell_rgw c1
        have t2 := cell_rgw c2
        have t3 := cell_rgw c3
        have t4 := cell_rgw a0
        have t5 := cell_rgw a1
        have t6 := cell_rgw a2
        have t7 := cell_rgw a3
        have s1 : IntKind.i64.wrap ((i : Int) - 1) = (i : Int) - 1 := by rw [IntKind.wrap_i64]; omega
        have s2 : ((i : Int) - 1).toNat = m := by omega
        have s3 : (0 : Int) ≤ (i : Int) - 1 := by omega
        have s4 : (i : Int) - 1 < N := by omega
        have cP := call_rgw (W := W0) (f := 80) (args := #[.agg #[.string s, .int .i64 a, .int .i64 r, .int .i64 n], .agg #[.int .i64 v1, .int .i64 v2], .agg #[.int .i64 x1, .int .i64 x2]]) (v := .agg #[.int .i64 v1, .int .i64 (x2 - v1 : Nat), .string y, .int .i64 x2, .string ⟨#[]⟩, .bool false]) (fun W hW => CW.out W (HX.out.f.below hW))
        clear c0 c1 c2 c3 a0 a1 a2 a3 CW hv HV
        go_wp2
        refine region_then2 HMx.out (by kernel_rfl) (by kernel_rfl) (by kernel_rfl) (by kernel_rfl) rfl rfl rfl rfl ?_
        dsimp only [List.dropLast, List.getLast]
        repeat (go_big_quiet_step (exact cP _ _))
        refine wpQuiet_nil ?_
        intro _ hw'
        obtain ⟨⟨dq, osq⟩, hw''⟩ := hw'
        subst hw''
        have HD : Hid (Fb w s a r n (grow (redrawn W0 dq) osq)) := HX.out.f.below (below_regrown W0 dq osq)
        simp only at HD ⊢
        generalize grow (redrawn W0 dq) osq = W1 at HD ⊢
        clear t0 t1 t2 t3 t4 t5 t6 t7 cP HX
        obtain ⟨-, ⟨f0, f1, f2, f3, f4, f5⟩, ⟨z0, z1, z2, z3, z4, z5⟩⟩ := HD.out.get
        refine .inr ⟨(((((W1.setCell ⟨w.heap.size + 1, 0, none⟩ (.int .i64 v1)).setCell ⟨w.heap.size + 1, 1, none⟩ (.int .i64 (x2 - v1 : Nat))).setCell ⟨w.heap.size + 1, 2, none⟩ (.string y)).setCell ⟨w.heap.size + 1, 3, none⟩ (.int .i64 x2)).setCell ⟨w.heap.size + 1, 4, none⟩ (.string ⟨#[]⟩)).setCell ⟨w.heap.size + 1, 5, none⟩ (.bool false), (by go_simp), ?_⟩
        obtain ⟨k1, k2, k3, k4, k5, k6, k7⟩ := HD.out.fin (.int .i64 v1) (.int .i64 (x2 - v1 : Nat)) (.string y) (.int .i64 x2) (.string ⟨#[]⟩) (.bool false)
        have HK : Hid (Below w.heap.size w ((((((W1.setCell ⟨w.heap.size + 1, 0, none⟩ (.int .i64 v1)).setCell ⟨w.heap.size + 1, 1, none⟩ (.int .i64 (x2 - v1 : Nat))).setCell ⟨w.heap.size + 1, 2, none⟩ (.string y)).setCell ⟨w.heap.size + 1, 3, none⟩ (.int .i64 x2)).setCell ⟨w.heap.size + 1, 4, none⟩ (.string ⟨#[]⟩)).setCell ⟨w.heap.size + 1, 5, none⟩ (.bool false))) := k1
        generalize (((((W1.setCell ⟨w.heap.size + 1, 0, none⟩ (.int .i64 v1)).setCell ⟨w.heap.size + 1, 1, none⟩ (.int .i64 (x2 - v1 : Nat))).setCell ⟨w.heap.size + 1, 2, none⟩ (.string y)).setCell ⟨w.heap.size + 1, 3, none⟩ (.int .i64 x2)).setCell ⟨w.heap.size + 1, 4, none⟩ (.string ⟨#[]⟩)).setCell ⟨w.heap.size + 1, 5, none⟩ (.bool false) = W2 at HK k2 k3 k4 k5 k6 k7 ⊢
        clear k1 z0 z1 z2 z3 z4 z5 f0 f1 f2 f3 f4 f5 HD
        refine .inl ⟨.int .i64 0, W2, (by dsimp only [Act.put]; go_simp), ?_⟩
        dsimp only [Act.put]
        go_wp2
        exact bodyPost_ret (v := rsv (⟨v1, x2 - v1, y, x2, ⟨#[]⟩, false⟩, 0)) (by simp [results, Tryz.results47, go_sem, rsv, chc, k2, k3, k4, k5, k6, k7]) rfl ⟨rfl, HK.out⟩
end Go.Proofs.YtdggbnkhbmffoaaGreatDoor
