/-
  What of a tree stays ahead of a change, and behind it: package rope's headOf, tailOf. Conditions: the two tables of unicode/utf8 lie as their text lays them; the text holds at most 1099511627776 bytes.
-/
import Derived.Test.YtcjmfoadimpffaaGreatDoorPkL
namespace Go.Proofs.YtcjmfoadimpffaaGreatDoor
open Go.RowKit Go.Shelf Bod Wid

theorem hdO_le {l r : Tr} {n : Nat} (h : n ≤ l.text.size) : hdO (.knot l r) n = hdO l n := by rw [hdO, if_pos h]
theorem hdO_gt {l r : Tr} {n : Nat} (h : ¬ n ≤ l.text.size) : hdO (.knot l r) n = (lnk l (hdO r (n - l.text.size)).1, (hdO r (n - l.text.size)).2) := by rw [hdO, if_neg h]
theorem tlO_le {l r : Tr} {n : Nat} (h : l.text.size ≤ n) : tlO (.knot l r) n = tlO r (n - l.text.size) := by rw [tlO, if_pos h]
theorem tlO_gt {l r : Tr} {n : Nat} (h : ¬ l.text.size ≤ n) : tlO (.knot l r) n = ((tlO l n).1, lnk (tlO l n).2 r) := by rw [tlO, if_neg h]
/-- what headOf leaves -/
abbrev MkH (w : World) (q : Tr × ByteArray) (e : Ending) (W' : World) : Prop := ∃ v, e = .returned (.tuple #[v, .string q.2]) ∧ At W' q.1 v ∧ Below w.heap.size w W'
abbrev MkT (w : World) (q : ByteArray × Tr) (e : Ending) (W' : World) : Prop := ∃ v, e = .returned (.tuple #[.string q.1, v]) ∧ At W' q.2 v ∧ Below w.heap.size w W'
set_option maxRecDepth 100000 in
set_option maxHeartbeats 1000000 in
theorem headOf_leaf {w : World} {s : ByteArray} {v : Value} {n : Nat} (h : At w (.leaf s) v) (hn : n ≤ s.size) (_hs : s.size ≤ B40) :
    Calls Tryz.prog 85 #[v, .int .i64 n] w (MkH w (.leaf noB, s.extract 0 n)) := by
  unfold B40 at _hs
  obtain ⟨T, a, fS, fP, fT, p, rfl, -, ⟨m1, m2⟩, ⟨m3, m4⟩, -, P1, X1, rfl⟩ := h.nd
  have E1 : Hid (∀ W, Below w.heap.size w W → Calls Tryz.prog 84 #[] W fun e W' => ∃ v, e = .returned v ∧ Hid (At W' (.leaf noB) v ∧ Below w.heap.size w W')) := fun W hW => (eleaf_any W).mono fun e W' ⟨v, h1, h2, h3⟩ => ⟨v, h1, h2, Below.on hW h3⟩
  have X2 : Hid (∀ W u, Hid (At W (.leaf noB) u ∧ Below w.heap.size w W) → Calls Tryz.prog fT #[.pointer (some a)] W fun e W' => e = .returned (.string s) ∧ Hid (At W' (.leaf noB) u ∧ Below w.heap.size w W')) := fun W u ⟨h1, hW⟩ => (X1.out W hW).mono fun e W' ⟨k1, k2⟩ => ⟨k1, h1.below k2, Below.on hW k2⟩
  have b1 : (n : Int) ≤ s.size := by omega
  clear h X1
  go_enter Tryz.func85, Tryz.ntmps85
  go_wp2_with (go_at_fn fP; refine (P1.out _ (Below.refl _ w)).mono ?_; clear P1; rintro e w1 ⟨rfl, hb1⟩; have HB : Hid (Below w.heap.size w w1) := hb1; clear hb1)
  go_region_with (first | (go_at_call 84; refine (E1.out _ HB.out.drew).mono ?_; clear E1; rintro e w2 ⟨v2, rfl, h2⟩) | (go_at_fn fT; refine (X2.out _ _ h2).mono ?_; clear X2; rintro e w3 ⟨rfl, h3⟩))
  all_goals go_wp2
  all_goals exact bodyPost_ret (v := .tuple #[v2, .string (s.extract 0 n)]) (by simp [results, Tryz.results85, go_sem]) rfl ⟨v2, rfl, h3.out⟩
set_option maxRecDepth 100000 in
set_option maxHeartbeats 1000000 in
theorem headOf_any : ∀ {t : Tr} {w : World} {v : Value} {n : Nat}, At w t v → Fine t → Avl t → n ≤ t.text.size → t.text.size ≤ B40 → Ev w →
    Calls Tryz.prog 85 #[v, .int .i64 n] w (MkH w (hdO t n))
  | .leaf s, w, v, n, h, _, _, hn, hs, _ => headOf_leaf h hn hs
  | .knot l r, w, v, n, h, hf, ha, hn, hs, hE => by
    unfold B40 at hs
    have hs' : (l.text ++ r.text).size ≤ 1099511627776 := hs
    have hn' : n ≤ (l.text ++ r.text).size := hn
    rw [size_app] at hs' hn'
    obtain ⟨pl, pr⟩ := hf.knot
    obtain ⟨T, a, fS, fP, fT, p, rfl, -, ⟨m1, m2⟩, -, -, P1, -, x1, x2, rfl, a1, a2⟩ := h.nd
    obtain ⟨U, b, gS, gP, gT, q, rfl, ⟨m3, m4⟩, -, -, S1, -, -, -⟩ := a1.nd
    have S2 : Hid (∀ W, Below w.heap.size w W → Calls Tryz.prog gS #[.pointer (some b)] W fun e W' => e = .returned (sv (smr l.text)) ∧ Below w.heap.size w W') := fun W hW => (S1.out W hW).mono fun e W' ⟨h1, h2⟩ => ⟨h1, Below.on hW h2⟩
    obtain ⟨nl, e1⟩ : ∃ k, l.text.size = k := ⟨_, rfl⟩
    obtain ⟨ml, hml⟩ : ∃ m, smr l.text = m := ⟨_, rfl⟩
    have y1 := fby (m := ml) (n := nl) (by rw [← hml, ← e1]; rfl)
    rw [hml] at S2
    have b1 : n ≤ 1099511627776 := by omega
    have b2 : nl ≤ 1099511627776 := by omega
    by_cases c : n ≤ nl
    · have c' : (n : Int) ≤ nl := by omega
      have K1 : Hid (∀ W, Below w.heap.size w W → Calls Tryz.prog 85 #[.iface U (.pointer (some b)), .int .i64 n] W (MkH w (hdO (.knot l r) n))) := fun W hW => by
        rw [hdO_le (by omega)]
        exact (headOf_any (a1.below hW) (.inr pl) ha.1 (by omega) (by unfold B40; omega) (hE.below hW)).mono fun e W' ⟨v, h1, h2, h3⟩ => ⟨v, h1, h2, Below.on hW h3⟩
      generalize hdO (.knot l r) n = Q at K1 ⊢
      clear h hf ha hn hs hE hs' hn' pl pr S1 a1 a2 e1 hml
      go_enter Tryz.func85, Tryz.ntmps85
      go_wp2_with (first | (go_at_fn fP; refine (P1.out _ (Below.refl _ w)).mono ?_; clear P1; rintro e w1 ⟨rfl, hb1⟩; have HB : Hid (Below w.heap.size w w1) := hb1; clear hb1) | (go_at_fn gS; refine (S2.out _ HB.out).mono ?_; clear S2 HB; rintro e w2 ⟨rfl, hb1⟩; have HB : Hid (Below w.heap.size w w2) := hb1; clear hb1) | (go_at_call 85; refine (K1.out _ HB.out).mono ?_; clear K1; rintro e w3 ⟨v3, rfl, h3⟩))
      exact bodyPost_ret (v := .tuple #[v3, .string Q.2]) (by simp [results, Tryz.results85, go_sem]) rfl ⟨v3, rfl, h3⟩
    · have c' : ¬ (n : Int) ≤ nl := by omega
      obtain ⟨m, hm⟩ : ∃ m : Nat, n - nl = m := ⟨_, rfl⟩
      have e3 : (n : Int) - nl = (m : Int) := by omega
      obtain ⟨q1, q2, q3, -⟩ := hdO_ok (t := r) (n := m) (.inr pr) ha.2.1 (by omega)
      have q4 : (hdO r m).1.text.size ≤ r.text.size := by
        have := congrArg ByteArray.size q3
        rw [size_app, size_extract _ _ _ (by omega)] at this
        omega
      have K1 : Hid (∀ W, Below w.heap.size w W → Calls Tryz.prog 85 #[x2, .int .i64 m] W fun e W' => ∃ v, e = .returned (.tuple #[v, .string (hdO r m).2]) ∧ Hid (At W' (hdO r m).1 v ∧ Below w.heap.size w W')) := fun W hW =>
        (headOf_any (a2.below hW) (.inr pr) ha.2.1 (by omega) (by unfold B40; omega) (hE.below hW)).mono fun e W' ⟨v, h1, h2, h3⟩ => ⟨v, h1, h2, Below.on hW h3⟩
      have K2 : Hid (∀ W v, Hid (At W (hdO r m).1 v ∧ Below w.heap.size w W) → Calls Tryz.prog 87 #[.iface U (.pointer (some b)), v] W (Mk w (hdO (.knot l r) n).1)) := fun W v ⟨h1, hW⟩ => by
        rw [hdO_gt (by omega), e1, hm]
        exact (link_any (a1.below hW) h1 (.inr pl) q1 ha.1 q2 (by unfold B40; omega) (hE.below hW)).mono fun e W' ⟨v, h1, h2, h3⟩ => ⟨v, h1, h2, Below.on hW h3⟩
      have e4 : (hdO (.knot l r) n).2 = (hdO r m).2 := by rw [hdO_gt (by omega), e1, hm]
      generalize hdO r m = R at K1 K2 e4
      obtain ⟨Q1, Q2, hQ⟩ : ∃ Q1 Q2, hdO (.knot l r) n = (Q1, Q2) := ⟨_, _, rfl⟩
      rw [hQ] at K2 e4 ⊢
      have e4 : Q2 = R.2 := e4
      subst e4
      clear h hf ha hn hs hE hs' hn' pl pr S1 a1 a2 e1 hml hm q1 q2 q3 q4 hQ
      go_enter Tryz.func85, Tryz.ntmps85
      go_wp2_with (first | (go_at_fn fP; refine (P1.out _ (Below.refl _ w)).mono ?_; clear P1; rintro e w1 ⟨rfl, hb1⟩; have HB : Hid (Below w.heap.size w w1) := hb1; clear hb1) | (go_at_fn gS; refine (S2.out _ HB.out).mono ?_; clear S2 HB; rintro e w2 ⟨rfl, hb1⟩; have HB : Hid (Below w.heap.size w w2) := hb1; clear hb1) | (go_at_call 85; refine (K1.out _ HB.out).mono ?_; clear K1; rintro e w3 ⟨v3, rfl, h3⟩) | (go_at_call 87; refine (K2.out _ _ h3).mono ?_; clear K2; rintro e w4 ⟨v4, rfl, h4⟩))
      exact bodyPost_ret (v := .tuple #[v4, .string R.2]) (by simp [results, Tryz.results85, go_sem]) rfl ⟨v4, rfl, h4⟩
set_option maxRecDepth 100000 in
set_option maxHeartbeats 1000000 in
theorem tailOf_leaf {w : World} {s : ByteArray} {v : Value} {n : Nat} (h : At w (.leaf s) v) (hn : n ≤ s.size) (_hs : s.size ≤ B40) :
    Calls Tryz.prog 86 #[v, .int .i64 n] w (MkT w (s.extract n s.size, .leaf noB)) := by
  unfold B40 at _hs
  obtain ⟨T, a, fS, fP, fT, p, rfl, -, ⟨m1, m2⟩, ⟨m3, m4⟩, -, P1, X1, rfl⟩ := h.nd
  have X2 : Hid (∀ W, Below w.heap.size w W → Calls Tryz.prog fT #[.pointer (some a)] W fun e W' => e = .returned (.string s) ∧ Below w.heap.size w W') := fun W hW => (X1.out W hW).mono fun e W' ⟨k1, k2⟩ => ⟨k1, Below.on hW k2⟩
  have E1 : Hid (∀ W, Below w.heap.size w W → Calls Tryz.prog 84 #[] W fun e W' => ∃ v, e = .returned v ∧ Hid (At W' (.leaf noB) v ∧ Below w.heap.size w W')) := fun W hW => (eleaf_any W).mono fun e W' ⟨v, h1, h2, h3⟩ => ⟨v, h1, h2, Below.on hW h3⟩
  have b1 : (n : Int) ≤ s.size := by omega
  clear h X1
  go_enter Tryz.func86, Tryz.ntmps86
  go_wp2_with (go_at_fn fP; refine (P1.out _ (Below.refl _ w)).mono ?_; clear P1; rintro e w1 ⟨rfl, hb1⟩; have HB : Hid (Below w.heap.size w w1) := hb1; clear hb1)
  go_region_with (first | (go_at_fn fT; refine (X2.out _ HB.out.drew).mono ?_; clear X2; rintro e w2 ⟨rfl, hb2⟩; have HB2 : Hid (Below w.heap.size w w2) := hb2; clear hb2) | (go_at_call 84; refine (E1.out _ HB2.out).mono ?_; clear E1; rintro e w3 ⟨v3, rfl, h3⟩))
  all_goals go_wp2
  all_goals exact bodyPost_ret (v := .tuple #[.string (s.extract n s.size), v3]) (by simp [results, Tryz.results86, go_sem]) rfl ⟨v3, rfl, h3.out⟩
set_option maxRecDepth 100000 in
set_option maxHeartbeats 1000000 in
theorem tailOf_any : ∀ {t : Tr} {w : World} {v : Value} {n : Nat}, At w t v → Fine t → Avl t → n ≤ t.text.size → t.text.size ≤ B40 → Ev w →
    Calls Tryz.prog 86 #[v, .int .i64 n] w (MkT w (tlO t n))
  | .leaf s, w, v, n, h, _, _, hn, hs, _ => tailOf_leaf h hn hs
  | .knot l r, w, v, n, h, hf, ha, hn, hs, hE => by
    unfold B40 at hs
    have hs' : (l.text ++ r.text).size ≤ 1099511627776 := hs
    have hn' : n ≤ (l.text ++ r.text).size := hn
    rw [size_app] at hs' hn'
    obtain ⟨pl, pr⟩ := hf.knot
    obtain ⟨T, a, fS, fP, fT, p, rfl, -, ⟨m1, m2⟩, -, -, P1, -, x1, x2, rfl, a1, a2⟩ := h.nd
    obtain ⟨U, b, gS, gP, gT, q, rfl, ⟨m3, m4⟩, -, -, S1, -, -, -⟩ := a1.nd
    have S2 : Hid (∀ W, Below w.heap.size w W → Calls Tryz.prog gS #[.pointer (some b)] W fun e W' => e = .returned (sv (smr l.text)) ∧ Below w.heap.size w W') := fun W hW => (S1.out W hW).mono fun e W' ⟨h1, h2⟩ => ⟨h1, Below.on hW h2⟩
    obtain ⟨nl, e1⟩ : ∃ k, l.text.size = k := ⟨_, rfl⟩
    obtain ⟨ml, hml⟩ : ∃ m, smr l.text = m := ⟨_, rfl⟩
    have y1 := fby (m := ml) (n := nl) (by rw [← hml, ← e1]; rfl)
    rw [hml] at S2
    have b1 : n ≤ 1099511627776 := by omega
    have b2 : nl ≤ 1099511627776 := by omega
    by_cases c : nl ≤ n
    · have c' : (nl : Int) ≤ n := by omega
      obtain ⟨m, hm⟩ : ∃ m : Nat, n - nl = m := ⟨_, rfl⟩
      have e3 : (n : Int) - nl = (m : Int) := by omega
      have K1 : Hid (∀ W, Below w.heap.size w W → Calls Tryz.prog 86 #[x2, .int .i64 m] W (MkT w (tlO (.knot l r) n))) := fun W hW => by
        rw [tlO_le (by omega), e1, hm]
        exact (tailOf_any (a2.below hW) (.inr pr) ha.2.1 (by omega) (by unfold B40; omega) (hE.below hW)).mono fun e W' ⟨v, h1, h2, h3⟩ => ⟨v, h1, h2, Below.on hW h3⟩
      generalize tlO (.knot l r) n = Q at K1 ⊢
      clear h hf ha hn hs hE hs' hn' pl pr S1 a1 a2 e1 hml hm
      go_enter Tryz.func86, Tryz.ntmps86
      go_wp2_with (first | (go_at_fn fP; refine (P1.out _ (Below.refl _ w)).mono ?_; clear P1; rintro e w1 ⟨rfl, hb1⟩; have HB : Hid (Below w.heap.size w w1) := hb1; clear hb1) | (go_at_fn gS; refine (S2.out _ HB.out).mono ?_; clear S2 HB; rintro e w2 ⟨rfl, hb1⟩; have HB : Hid (Below w.heap.size w w2) := hb1; clear hb1) | (go_at_call 86; refine (K1.out _ HB.out).mono ?_; clear K1; rintro e w3 ⟨v3, rfl, h3⟩))
      exact bodyPost_ret (v := .tuple #[.string Q.1, v3]) (by simp [results, Tryz.results86, go_sem]) rfl ⟨v3, rfl, h3⟩
    · have c' : ¬ (nl : Int) ≤ n := by omega
      obtain ⟨q1, q2, q3, -⟩ := tlO_ok (t := l) (n := n) (.inr pl) ha.1 (by omega)
      have q4 : (tlO l n).2.text.size ≤ l.text.size := by
        have := congrArg ByteArray.size q3
        rw [size_app, size_extract _ _ _ (by omega)] at this
        omega
      have K1 : Hid (∀ W, Below w.heap.size w W → Calls Tryz.prog 86 #[.iface U (.pointer (some b)), .int .i64 n] W fun e W' => ∃ v, e = .returned (.tuple #[.string (tlO l n).1, v]) ∧ Hid (At W' (tlO l n).2 v ∧ Below w.heap.size w W')) := fun W hW =>
        (tailOf_any (a1.below hW) (.inr pl) ha.1 (by omega) (by unfold B40; omega) (hE.below hW)).mono fun e W' ⟨v, h1, h2, h3⟩ => ⟨v, h1, h2, Below.on hW h3⟩
      have K2 : Hid (∀ W v, Hid (At W (tlO l n).2 v ∧ Below w.heap.size w W) → Calls Tryz.prog 87 #[v, x2] W (Mk w (tlO (.knot l r) n).2)) := fun W v ⟨h1, hW⟩ => by
        rw [tlO_gt (by omega)]
        exact (link_any h1 (a2.below hW) q1 (.inr pr) q2 ha.2.1 (by unfold B40; omega) (hE.below hW)).mono fun e W' ⟨v, h1, h2, h3⟩ => ⟨v, h1, h2, Below.on hW h3⟩
      have e4 : (tlO (.knot l r) n).1 = (tlO l n).1 := by rw [tlO_gt (by omega)]
      generalize tlO l n = R at K1 K2 e4
      obtain ⟨Q1, Q2, hQ⟩ : ∃ Q1 Q2, tlO (.knot l r) n = (Q1, Q2) := ⟨_, _, rfl⟩
      rw [hQ] at K2 e4 ⊢
      have e4 : Q1 = R.1 := e4
      subst e4
      clear h hf ha hn hs hE hs' hn' pl pr S1 a1 a2 e1 hml q1 q2 q3 q4 hQ
      go_enter Tryz.func86, Tryz.ntmps86
      go_wp2_with (first | (go_at_fn fP; refine (P1.out _ (Below.refl _ w)).mono ?_; clear P1; rintro e w1 ⟨rfl, hb1⟩; have HB : Hid (Below w.heap.size w w1) := hb1; clear hb1) | (go_at_fn gS; refine (S2.out _ HB.out).mono ?_; clear S2 HB; rintro e w2 ⟨rfl, hb1⟩; have HB : Hid (Below w.heap.size w w2) := hb1; clear hb1) | (go_at_call 86; refine (K1.out _ HB.out).mono ?_; clear K1; rintro e w3 ⟨v3, rfl, h3⟩) | (go_at_call 87; refine (K2.out _ _ h3).mono ?_; clear K2; rintro e w4 ⟨v4, rfl, h4⟩))
      exact bodyPost_ret (v := .tuple #[.string R.1, v4]) (by simp [results, Tryz.results86, go_sem]) rfl ⟨v4, rfl, h4⟩
end Go.Proofs.YtcjmfoadimpffaaGreatDoor
