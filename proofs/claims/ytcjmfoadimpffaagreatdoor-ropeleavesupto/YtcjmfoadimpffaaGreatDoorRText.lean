/-
  Package rope's write, sliced, Text, within and Slice. Conditions: the tree's text holds at most 1099511627776 bytes.
-/
import Derived.Test.YtcjmfoadimpffaaGreatDoorRTog
import Derived.Test.YtcjmfoadimpffaaGreatDoorWBuild
namespace Go.Proofs.YtcjmfoadimpffaaGreatDoor
open Go.RowKit Go.Shelf Bod Wid

theorem wr_of {b hi : Nat} {W W' : World} (h : Below W.heap.size W W') : Wr b hi W W' := ⟨h.os, h.tape, h.output, h.size, fun k _ hk _ _ => (h.block k (Array.getElem?_eq_some_iff.1 hk).1).trans hk⟩
/-- a tree stays where a builder is written to -/
theorem At.wr {b hi : Nat} {cs : Array Value} {w W : World} (hk : w.heap[b]? = some (.cells cs 142 (0, 0))) (h : Wr b hi w W) : ∀ {t : Tr} {v : Value}, At w t v → At W t v
  | .leaf s, v, ⟨c, h1, h2⟩ => ⟨c, h1, h.2.2.2.2 _ _ h2 (fun e => by rw [e, hk] at h2; cases h2) (fun _ vs fz e => by cases e)⟩
  | .knot l r, v, ⟨c, x, y, h1, h2, h3, h4⟩ => ⟨c, x, y, h1, h.2.2.2.2 _ _ h2 (fun e => by rw [e, hk] at h2; cases h2) (fun _ vs fz e => by cases e), At.wr hk h h3, At.wr hk h h4⟩
theorem Bld.below {b hi : Nat} {bs : List Value} {W W' : World} {p v : Value} (h : Bld b hi bs W p v) (hb : Below W.heap.size W W') : Bld b hi bs W' p v :=
  h.kept (row := none) ⟨hb.os, hb.tape, hb.output, hb.size, fun k hk _ => hb.block k hk⟩ (by simp) (by simp)
/-- the bytes between two numbers, which may lie outside -/
def slc (s : ByteArray) (f t : Int) : ByteArray := s.extract (max f 0).toNat (min t s.size).toNat
theorem ext_app (a b : ByteArray) (i j : Nat) : (a ++ b).extract i j = a.extract i (min j a.size) ++ b.extract (i - a.size) (j - a.size) := by
  apply ext_data
  rw [data_extract', data_app, data_app, data_extract', data_extract']
  have hl : a.data.toList.length = a.size := rfl
  rw [List.drop_append, List.take_append, hl, List.length_drop, hl]
  congr 1
  · by_cases h : j ≤ a.size
    · rw [Nat.min_eq_left h]
    · rw [Nat.min_eq_right (by omega), List.take_of_length_le (by rw [List.length_drop, hl]; omega), List.take_of_length_le (by rw [List.length_drop, hl]; omega)]
  · congr 1
    omega
theorem ext_nil {a : ByteArray} {i j : Nat} (h : j ≤ i) : a.extract i j = noB := noB_of (by simp; omega)
theorem slc_nil {s : ByteArray} {f t : Int} (h : min t (s.size : Int) ≤ max f 0) : slc s f t = noB := ext_nil (by omega)
theorem slc_app (a b : ByteArray) (f t : Int) (hf : 0 ≤ f) (ht : t ≤ (a.size + b.size : Nat)) : slc (a ++ b) f t = slc a f t ++ slc b (f - a.size) (t - a.size) := by
  unfold slc
  rw [ext_app, size_app]
  congr 1
  · congr 1
    omega
  · by_cases h : t ≤ (a.size : Int)
    · rw [ext_nil (by omega), ext_nil (by omega)]
    · congr 1 <;> omega
theorem strCells_app (a b : ByteArray) : Lib.strCells (a ++ b) = Lib.strCells a ++ Lib.strCells b := by
  unfold Lib.strCells
  rw [data_app]
  simp
set_option maxRecDepth 100000 in
set_option maxHeartbeats 1000000 in
theorem write_any : ∀ (k : Nat) {t : Tr} {w : World} {v : Value} {b hi : Nat} {bs : List Value} {p q : Value} {f g : Int}, t.lv.length ≤ k → At w t v → t.text.size ≤ B40 → Bld b hi bs w p q → b < hi → hi ≤ w.heap.size → bs.length + t.text.size ≤ 35184372088832 →
    (-35184372088832 ≤ f ∧ f ≤ 35184372088832) → (-35184372088832 ≤ g ∧ g ≤ 35184372088832) →
    Calls Tryz.prog 89 #[.pointer (some ⟨b, 0, none⟩), v, .int .i64 f, .int .i64 g] w fun e W' => e = .returned (.tuple #[]) ∧ (∃ p q, Bld b hi (bs ++ Lib.strCells (slc t.text f g)) W' p q) ∧ Wr b hi w W'
  | 0, t, _, _, _, _, _, _, _, _, _, hk, _, _, _, _, _, _, _, _ => by have := lv_pos t; omega
  | k + 1, t, w, v, b, hi, bs, p, q, f, g, hk, h, hs, hB, hb, hw, hl, hf, hg => by
    unfold B40 at hs
    obtain ⟨T, a, fS, fP, fT, pv, rfl, ⟨m1, m2⟩, ⟨m3, m4⟩, ⟨m5, m6⟩, S1, P1, X1, hpv⟩ := h.nd
    obtain ⟨n, hn⟩ : ∃ n, t.text.size = n := ⟨_, rfl⟩
    obtain ⟨m, hm⟩ : ∃ m, smr t.text = m := ⟨_, rfl⟩
    have y1 := fby (m := m) (n := n) (by rw [← hm, ← hn]; rfl)
    rw [hm] at S1
    obtain ⟨f', hf'⟩ : ∃ f' : Int, max f 0 = f' := ⟨_, rfl⟩
    obtain ⟨g', hg'⟩ : ∃ g' : Int, min g (n : Int) = g' := ⟨_, rfl⟩
    have S2 : Hid (Calls Tryz.prog fS #[.pointer (some a)] w fun e W' => e = .returned (sv m) ∧ Hid (Below w.heap.size w W')) := S1.out w (Below.refl _ w)
    have P2 : Hid (∀ W, Hid (Below w.heap.size w W) → Calls Tryz.prog fP #[.pointer (some a)] W fun e W' => e = .returned pv ∧ Hid (Below w.heap.size w W')) := fun W hW => (P1.out W hW).mono fun e W' ⟨h1, h2⟩ => ⟨h1, Below.on hW h2⟩
    by_cases c : g' ≤ f'
    · have e0 : slc t.text f g = noB := slc_nil (by omega)
      rw [e0]
      have HF : Hid (∀ W, Below w.heap.size w W → Bld b hi (bs ++ Lib.strCells noB) W p q) := fun W hW => by
        rw [show Lib.strCells noB = [] from rfl, List.append_nil]
        exact hB.below hW
      clear h hs hB hb hw hl S1 P1 X1 hpv hn hm e0 P2 hk
      go_enter Tryz.func89, Tryz.ntmps89
      go_wp2_with (go_at_fn fS; refine S2.out.mono ?_; clear S2; rintro e w1 ⟨rfl, h1⟩)
      exact bodyPost_ret (v := .tuple #[]) (by simp [results, Tryz.results89, go_sem]) rfl ⟨rfl, ⟨p, q, HF.out _ h1.out⟩, wr_of h1.out⟩
    · match t, hk, h, hs, hl, hn, hm, hpv, X1 with
      | .leaf s, hk, h, hs, hl, hn, hm, hpv, X1 =>
        have hpv : pv = _ := hpv
        subst hpv
        have hn : s.size = n := hn
        obtain ⟨i, hi1⟩ : ∃ i : Nat, f'.toNat = i := ⟨_, rfl⟩
        obtain ⟨j, hj1⟩ : ∃ j : Nat, g'.toNat = j := ⟨_, rfl⟩
        have e1 : f' = (i : Int) := by omega
        have e2 : g' = (j : Int) := by omega
        subst e1
        subst e2
        have e0 : slc s f g = s.extract i j := by unfold slc; rw [hf', hn, hg']; rfl
        have X2 : Hid (∀ W, Hid (Below w.heap.size w W) → Calls Tryz.prog fT #[.pointer (some a)] W fun e W' => e = .returned (.string s) ∧ Hid (Below w.heap.size w W')) := fun W hW => (X1.out W hW).mono fun e W' ⟨h1, h2⟩ => ⟨h1, Below.on hW h2⟩
        have hl' : bs.length + s.size ≤ 35184372088832 := hl
        have z : (s.extract i j).size ≤ s.size := by rw [size_extract _ _ _ (by omega)]; omega
        have W1 : Hid (∀ W, Hid (Below w.heap.size w W) → Calls Tryz.prog 117 #[.pointer (some ⟨b, 0, none⟩), .string (s.extract i j)] W fun e W' => (∃ u, e = .returned u) ∧ Hid ((∃ p q, Bld b hi (bs ++ Lib.strCells (slc s f g)) W' p q) ∧ Wr b hi w W')) := fun W hW => by
          rw [e0]
          exact (wstr_any _ (hB.below hW) hb (Nat.le_trans hw hW.out.size) (by omega)).mono fun e W' ⟨h1, h2, h3⟩ => ⟨h1, h2, (wr_of hW).trans h3⟩
        have b1 : (i : Int) ≤ j := by omega
        have b2 : j ≤ s.size := by omega
        have b3 : s.size ≤ 1099511627776 := hs
        show Calls _ _ _ _ fun e W' => e = .returned (.tuple #[]) ∧ (∃ p q, Bld b hi (bs ++ Lib.strCells (slc s f g)) W' p q) ∧ Wr b hi w W'
        clear h hs hB hb hw hl S1 P1 X1 hm e0 hl' z hi1 hj1 hk
        go_enter Tryz.func89, Tryz.ntmps89
        go_wp2_with (first | (go_at_fn fS; refine S2.out.mono ?_; clear S2; rintro e w1 ⟨rfl, h1⟩) | (go_at_fn fP; refine (P2.out _ h1).mono ?_; clear P2 h1; rintro e w2 ⟨rfl, h1⟩) | (go_at_fn fT; refine (X2.out _ h1).mono ?_; clear X2 h1; rintro e w3 ⟨rfl, h1⟩) | (go_at_call 117; refine (W1.out _ h1).mono ?_; clear W1 h1; rintro e w4 ⟨⟨u, rfl⟩, h4⟩))
        exact bodyPost_ret (v := .tuple #[]) (by simp [results, Tryz.results89, go_sem]) rfl ⟨rfl, h4.out⟩
      | .knot l r, hk, h, hs, hl, hn, hm, hpv, X1 =>
        have hkl : l.lv.length + r.lv.length ≤ k + 1 := by rw [← List.length_append]; exact hk
        have hk1 := lv_pos l
        have hk2 := lv_pos r
        obtain ⟨x1, x2, rfl, a1, a2⟩ := hpv
        have hn : (l.text ++ r.text).size = n := hn
        have hl' : bs.length + (l.text ++ r.text).size ≤ 35184372088832 := hl
        have hs' : (l.text ++ r.text).size ≤ 1099511627776 := hs
        rw [size_app] at hn hl' hs'
        obtain ⟨U, d, gS, gP, gT, _, rfl, ⟨m7, m8⟩, -, -, S3, -, -, -⟩ := a1.nd
        obtain ⟨nl, hnl⟩ : ∃ n, l.text.size = n := ⟨_, rfl⟩
        obtain ⟨ml, hml⟩ : ∃ m, smr l.text = m := ⟨_, rfl⟩
        have y2 := fby (m := ml) (n := nl) (by rw [← hml, ← hnl]; rfl)
        have S4 : Hid (∀ W, Hid (Below w.heap.size w W) → Calls Tryz.prog gS #[.pointer (some d)] W fun e W' => e = .returned (sv ml) ∧ Hid (Below w.heap.size w W')) := fun W hW => (S3.out W hW).mono fun e W' ⟨h1, h2⟩ => ⟨by rw [h1, hml], Below.on hW h2⟩
        have hbs : ∀ z : ByteArray, (Lib.strCells z).length = z.size := fun z => by simp [Lib.strCells]
        have zl : (slc l.text f' g').size ≤ l.text.size := by unfold slc; rw [size_extract _ _ _ (by omega)]; omega
        have K1 : Hid (∀ W, Hid (Below w.heap.size w W) → Calls Tryz.prog 89 #[.pointer (some ⟨b, 0, none⟩), .iface U (.pointer (some d)), .int .i64 f', .int .i64 g'] W fun e W' => e = .returned (.tuple #[]) ∧ Hid ((∃ p q, Bld b hi (bs ++ Lib.strCells (slc l.text f' g')) W' p q) ∧ Wr b hi w W')) := fun W hW =>
          (write_any k (by omega) (a1.below hW) (by unfold B40; omega) (hB.below hW) hb (Nat.le_trans hw hW.out.size) (by omega) (by omega) (by omega)).mono fun e W' ⟨h1, h2, h3⟩ => ⟨h1, h2, (wr_of hW).trans h3⟩
        have e0 : slc (Tr.knot l r).text f g = slc l.text f' g' ++ slc r.text (f' - nl) (g' - nl) := by
          have : slc (Tr.knot l r).text f g = slc (l.text ++ r.text) f' g' := by
            show slc (l.text ++ r.text) f g = _
            unfold slc
            rw [size_app, hn, hf', hg']
            congr 1 <;> omega
          rw [this, slc_app _ _ _ _ (by omega) (by omega), hnl]
        have K2 : Hid (∀ W, Hid ((∃ p q, Bld b hi (bs ++ Lib.strCells (slc l.text f' g')) W p q) ∧ Wr b hi w W) → Calls Tryz.prog 89 #[.pointer (some ⟨b, 0, none⟩), x2, .int .i64 (f' - nl), .int .i64 (g' - nl)] W fun e W' => e = .returned (.tuple #[]) ∧ Hid ((∃ p q, Bld b hi (bs ++ Lib.strCells (slc (Tr.knot l r).text f g)) W' p q) ∧ Wr b hi w W')) := fun W ⟨⟨p, q, h1⟩, hW⟩ => by
          rw [e0, strCells_app, ← List.append_assoc]
          exact (write_any k (by omega) (a2.wr hB.box hW) (by unfold B40; omega) h1 hb (Nat.le_trans hw hW.2.2.2.1) (by rw [List.length_append, hbs]; omega) (by omega) (by omega)).mono fun e W' ⟨h1, h2, h3⟩ => ⟨h1, h2, hW.trans h3⟩
        have b1 : nl ≤ 1099511627776 := by omega
        generalize (Tr.knot l r).text = TX at K2 ⊢
        have b2 : 0 ≤ f' ∧ f' ≤ 35184372088832 := by omega
        have b3 : g' ≤ 35184372088832 := by omega
        have c' : ¬ g' ≤ f' := c
        clear h hs hB hb hw hl S1 P1 X1 hm e0 hl' hs' S3 zl hbs a1 a2 hml hnl hkl hk1 hk2 hk
        go_enter Tryz.func89, Tryz.ntmps89
        go_wp2_with (first | (go_at_fn fS; refine S2.out.mono ?_; clear S2; rintro e w1 ⟨rfl, h1⟩) | (go_at_fn fP; refine (P2.out _ h1).mono ?_; clear P2 h1; rintro e w2 ⟨rfl, h1⟩) | (go_at_fn gS; refine (S4.out _ h1).mono ?_; clear S4 h1; rintro e w3 ⟨rfl, h1⟩) | (go_at_call 89; refine (K1.out _ h1).mono ?_; clear K1 h1; rintro e w4 ⟨rfl, h1⟩) | (go_at_call 89; refine (K2.out _ h1).mono ?_; clear K2 h1; rintro e w5 ⟨rfl, h1⟩))
        exact bodyPost_end (v := .tuple #[]) (by simp [results, Tryz.results89, go_sem]) rfl ⟨rfl, h1.out⟩
theorem strCells_bytes (s : ByteArray) : Lib.strCells s = Lib.byteCells s.data.toList := by simp [Lib.strCells, Lib.byteCells]
theorem slc_in {s : ByteArray} {i j : Nat} (h : j ≤ s.size) : slc s i j = s.extract i j := by
  unfold slc
  congr 1 <;> omega
set_option maxRecDepth 100000 in
set_option maxHeartbeats 1000000 in
theorem sliced_any {w : World} {t : Tr} {v : Value} {i j : Nat} (h : At w t v) (hs : t.text.size ≤ B40) (hi : i ≤ j) (hj : j ≤ t.text.size) :
    Calls Tryz.prog 48 #[v, .int .i64 i, .int .i64 j] w fun e W' => e = .returned (.string (t.text.extract i j)) ∧ Below w.heap.size w W' := by
  unfold B40 at hs
  obtain ⟨W0, hW0⟩ : ∃ W0, w.alloc (.cells #[.pointer none, .slice none 0 0] 142) = W0 := ⟨_, rfl⟩
  have hb0 : Below w.heap.size w W0 := by rw [← hW0]; exact (Below.refl _ w).alloc (Nat.le_refl _) _
  have hbk : W0.heap[w.heap.size]? = some (.cells #[.pointer none, .slice none 0 0] 142 (0, 0)) := by rw [← hW0]; exact World.alloc_heap_new w _
  obtain ⟨n, hn⟩ : ∃ n, j - i = n := ⟨_, rfl⟩
  have e1 : (j : Int) - i = (n : Int) := by omega
  have C1 : Hid (Calls Tryz.prog 88 #[.pointer (some ⟨w.heap.size, 0, none⟩), .int .i64 n] W0 fun e W' => e = .returned (.tuple #[]) ∧ Hid (At W' t v ∧ (∃ p q, Bld w.heap.size (w.heap.size + 1) [] W' p q) ∧ Below w.heap.size w W' ∧ w.heap.size + 1 ≤ W'.heap.size)) :=
    (Tryz.Builder_Grow_fresh w.heap.size w.heap.size n W0 (Nat.le_refl _) hbk hb0.size (by omega)).mono fun e W' ⟨h1, ⟨_, q, k1, k2, k3⟩, h3⟩ => by
      have hB : Below w.heap.size w W' := hb0.trans h3
      have hz := (Array.getElem?_eq_some_iff.1 k1).1
      refine ⟨h1, h.below hB, ⟨_, q, k1, ?_, .inr rfl⟩, hB, by omega⟩
      refine ⟨k2.1, k2.2.imp id fun ⟨g, cap, cur, c1, c2, c3⟩ => ⟨g, cap, cur, c1, ?_, c3⟩⟩
      have hne : g ≠ w.heap.size := fun e => k3 (by rw [c1, e]; rfl)
      omega
  have C2 : Hid (∀ W, Hid (At W t v ∧ (∃ p q, Bld w.heap.size (w.heap.size + 1) [] W p q) ∧ Below w.heap.size w W ∧ w.heap.size + 1 ≤ W.heap.size) → Calls Tryz.prog 89 #[.pointer (some ⟨w.heap.size, 0, none⟩), v, .int .i64 i, .int .i64 j] W fun e W' => e = .returned (.tuple #[]) ∧ Hid ((∃ p q, Bld w.heap.size (w.heap.size + 1) (Lib.byteCells (t.text.extract i j).data.toList) W' p q) ∧ Below w.heap.size w W')) := fun W ⟨h1, ⟨p, q, h2⟩, h3, h4⟩ =>
    (write_any _ (Nat.le_refl _) h1 (by unfold B40; omega) h2 (by omega) h4 (by simp; omega) (by omega) (by omega)).mono fun e W' ⟨k1, k2, k3⟩ => by
      rw [List.nil_append, slc_in hj, strCells_bytes] at k2
      refine ⟨k1, k2, h3.trans ⟨k3.1, k3.2.1, k3.2.2.1, k3.2.2.2.1, fun k hk => ?_⟩⟩
      obtain ⟨o, ho⟩ : ∃ o, W.heap[k]? = some o := ⟨_, Array.getElem?_eq_getElem (by omega)⟩
      rw [ho]
      exact k3.2.2.2.2 k o ho (by omega) (fun h => by omega)
  have C3 : Hid (∀ W, Hid ((∃ p q, Bld w.heap.size (w.heap.size + 1) (Lib.byteCells (t.text.extract i j).data.toList) W p q) ∧ Below w.heap.size w W) → Calls Tryz.prog 90 #[.pointer (some ⟨w.heap.size, 0, none⟩)] W fun e W' => e = .returned (.string (t.text.extract i j)) ∧ Below w.heap.size w W') := fun W ⟨⟨p, q, h1⟩, h2⟩ => by
    have hbl : Lib.IsBuilder 142 5 w.heap.size w.heap.size (Lib.byteCells (t.text.extract i j).data.toList) W := by
      have row := row_lower h1.row (show w.heap.size ≤ w.heap.size + 1 by omega)
      have hne : q.ownBlock ≠ some w.heap.size := fun e => by have := h1.far e; omega
      have hbox := h1.box
      rcases h1.adr with rfl | rfl
      · exact .inl ⟨Nat.le_refl _, q, hbox, row, hne⟩
      · exact .inr ⟨Nat.le_refl _, q, hbox, row, hne⟩
    exact (Tryz.Builder_String_any w.heap.size w.heap.size _ W hbl h2.size).mono fun e W' ⟨k1, k2⟩ => ⟨by rw [k1], h2.trans k2⟩
  generalize t.text.extract i j = R at C2 C3 ⊢
  have b1 : j ≤ 1099511627776 := by omega
  clear h hs hj hb0 hbk hn
  go_enter Tryz.func48, Tryz.ntmps48
  go_wp2_with (first | (go_at_call 88; refine C1.out.mono ?_; clear C1; rintro e w1 ⟨rfl, h1⟩) | (go_at_call 89; refine (C2.out _ h1).mono ?_; clear C2 h1; rintro e w2 ⟨rfl, h1⟩) | (go_at_call 90; refine (C3.out _ h1).mono ?_; clear C3 h1; rintro e w3 ⟨rfl, h1⟩))
  go_ret
  exact ⟨rfl, h1⟩
/-- a rope's tree, as a walk takes it -/
theorem rtree_nd {w : World} {t : Tr} {v : Value} (h : Rp w t v) : Calls Tryz.prog 44 #[v] w fun e W' => ∃ T a fS, e = .returned (.iface T (.pointer (some a))) ∧ (∀ W, (method 356 T (.pointer (some a)) "Sum").run Tryz.prog W = .ok (fS, .pointer (some a)) W) ∧ (∀ args W, (callFunc fS args).run Tryz.prog W = .ok (.enter fS args) W) ∧ Hid (∀ W, Below W'.heap.size W' W → Calls Tryz.prog fS #[.pointer (some a)] W fun e X => e = .returned (sv (smr t.text)) ∧ Below W.heap.size W X) ∧ Hid (At W' t (.iface T (.pointer (some a))) ∧ Below w.heap.size w W') := (rtree_any h).mono fun e W' ⟨v, h1, h2, h3⟩ => by
  obtain ⟨T, a, fS, _, _, _, rfl, ⟨m1, m2⟩, -, -, S1, -⟩ := h2.nd
  exact ⟨T, a, fS, h1, m1, m2, S1, h2, h3⟩
set_option maxRecDepth 100000 in
set_option maxHeartbeats 1000000 in
theorem rtext_any {w : World} {t : Tr} {v : Value} (h : Rp w t v) (hs : t.text.size ≤ B40) : Calls Tryz.prog 17 #[v] w fun e W' => e = .returned (.string t.text) ∧ Below w.heap.size w W' := by
  obtain ⟨m, hm⟩ : ∃ m, smr t.text = m := ⟨_, rfl⟩
  obtain ⟨n, hn⟩ : ∃ n, t.text.size = n := ⟨_, rfl⟩
  have y1 := fby (m := m) (n := n) (by rw [← hm, ← hn]; rfl)
  have K1 : Hid (Calls Tryz.prog 44 #[v] w fun e W' => ∃ T a fS, e = .returned (.iface T (.pointer (some a))) ∧ (∀ W, (method 356 T (.pointer (some a)) "Sum").run Tryz.prog W = .ok (fS, .pointer (some a)) W) ∧ (∀ args W, (callFunc fS args).run Tryz.prog W = .ok (.enter fS args) W) ∧ Hid (∀ W, Below W'.heap.size W' W → Calls Tryz.prog fS #[.pointer (some a)] W fun e X => e = .returned (sv m) ∧ Below W.heap.size W X) ∧ Hid (At W' t (.iface T (.pointer (some a))) ∧ Below w.heap.size w W')) := by
    rw [← hm]
    exact rtree_nd h
  have K2 : Hid (∀ W v, Hid (At W t v ∧ Below w.heap.size w W) → Calls Tryz.prog 48 #[v, .int .i64 0, .int .i64 n] W fun e W' => e = .returned (.string t.text) ∧ Below w.heap.size w W') := fun W v ⟨h1, hW⟩ =>
    (sliced_any (i := 0) (j := n) h1 hs (Nat.zero_le _) (by omega)).mono fun e W' ⟨k1, k2⟩ => ⟨by rw [k1, ← hn, ext_all], Below.on hW k2⟩
  generalize t.text = R at K2 ⊢
  clear h hm hn hs
  go_enter Tryz.func17, Tryz.ntmps17
  go_wp2_with (first | (go_at_call 44; refine K1.out.mono ?_; clear K1; rintro e w1 ⟨T, a, fS, rfl, m1, m2, S1, h1⟩) | (go_at_fn fS; refine (S1.out _ (Below.refl _ w1)).mono ?_; clear S1; rintro e w2 ⟨rfl, hb2⟩; have H2 : Hid (At w2 t (.iface T (.pointer (some a))) ∧ Below w.heap.size w w2) := ⟨h1.out.1.below hb2, Below.on h1.out.2 hb2⟩; clear h1 hb2) | (go_at_call 48; refine (K2.out _ _ H2).mono ?_; clear K2 H2; rintro e w3 ⟨rfl, h1⟩))
  go_ret
  exact ⟨rfl, h1⟩
/-- are there bytes from f up to g? -/
def wthn (n : Nat) (f g : Int) : Bool := decide (0 ≤ f) && decide (f ≤ g) && decide (g ≤ (n : Int))
set_option maxRecDepth 100000 in
set_option maxHeartbeats 1000000 in
theorem rwithin_any {w : World} {t : Tr} {v : Value} (h : At w t v) (f g : Int) : Calls Tryz.prog 200 #[v, .int .i64 f, .int .i64 g] w fun e W' => e = .returned (.bool (wthn t.text.size f g)) ∧ Below w.heap.size w W' := by
  obtain ⟨m, hm⟩ : ∃ m, smr t.text = m := ⟨_, rfl⟩
  obtain ⟨n, hn⟩ : ∃ n, t.text.size = n := ⟨_, rfl⟩
  have y1 := fby (m := m) (n := n) (by rw [← hm, ← hn]; rfl)
  obtain ⟨T, a, fS, fP, fT, p, rfl, ⟨m1, m2⟩, -, -, S1, -, -, -⟩ := h.nd
  have S2 : Hid (∀ W, Below w.heap.size w W → Calls Tryz.prog fS #[.pointer (some a)] W fun e W' => e = .returned (sv m) ∧ Below w.heap.size w W') := fun W hW => (S1.out W hW).mono fun e W' ⟨h1, h2⟩ => ⟨by rw [h1, hm], Below.on hW h2⟩
  rw [hn]
  unfold wthn
  clear h hm hn S1
  by_cases c1 : 0 ≤ f
  · by_cases c2 : f ≤ g
    · simp only [decide_eq_true c1, decide_eq_true c2, Bool.true_and]
      go_enter Tryz.func200, Tryz.ntmps200
      go_wp2_with (go_at_fn fS; refine (S2.out _ (Below.refl _ w)).mono ?_; clear S2; rintro e w2 ⟨rfl, hb2⟩)
      all_goals go_ret
      all_goals exact ⟨by simp_all, hb2⟩
    · simp only [decide_eq_true c1, decide_eq_false c2, Bool.true_and, Bool.false_and]
      go_enter Tryz.func200, Tryz.ntmps200
      go_wp2
      go_ret
      exact ⟨by simp_all, Below.refl _ w⟩
  · simp only [decide_eq_false c1, Bool.false_and]
    go_enter Tryz.func200, Tryz.ntmps200
    go_wp2
    go_ret
    exact ⟨by simp_all, Below.refl _ w⟩
end Go.Proofs.YtcjmfoadimpffaaGreatDoor
