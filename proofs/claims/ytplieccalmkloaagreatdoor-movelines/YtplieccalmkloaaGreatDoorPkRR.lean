/-
  How package rope cuts, lays together, replaces and measures. Conditions: those of each theorem.
-/
import Derived.Test.YtplieccalmkloaaGreatDoorPkL
import Derived.Test.YtplieccalmkloaaGreatDoorCPlaces
import Derived.Test.YtplieccalmkloaaGreatDoorWBuild
namespace Go.Proofs.YtplieccalmkloaaGreatDoor
open Go.RowKit Go.Shelf Bod Wid

theorem hdO_le {l r : Tr} {n : Nat} (h : n ≤ l.text.size) : hdO (.knot l r) n = hdO l n := by rw [hdO, if_pos h]
theorem hdO_gt {l r : Tr} {n : Nat} (h : ¬ n ≤ l.text.size) : hdO (.knot l r) n = (lnk l (hdO r (n - l.text.size)).1, (hdO r (n - l.text.size)).2) := by rw [hdO, if_neg h]
theorem tlO_le {l r : Tr} {n : Nat} (h : l.text.size ≤ n) : tlO (.knot l r) n = tlO r (n - l.text.size) := by rw [tlO, if_pos h]
theorem tlO_gt {l r : Tr} {n : Nat} (h : ¬ l.text.size ≤ n) : tlO (.knot l r) n = ((tlO l n).1, lnk (tlO l n).2 r) := by rw [tlO, if_neg h]
/-- what headOf leaves -/
abbrev MkH (w : World) (q : Tr × ByteArray) (e : Ending) (W' : World) : Prop := ∃ v, e = .returned (.tuple #[v, .string q.2]) ∧ At W' q.1 v ∧ Below w.heap.size w W'
abbrev MkT (w : World) (q : ByteArray × Tr) (e : Ending) (W' : World) : Prop := ∃ v, e = .returned (.tuple #[.string q.1, v]) ∧ At W' q.2 v ∧ Below w.heap.size w W'
set_option maxRecDepth 100000 in
set_option maxHeartbeats 1000000 in
theorem headOf_leaf {w : World} {s : ByteArray} {v : Value} {n : Nat} (h : At w (.leaf s) v) (hn : n ≤ s.size) (_hs : s.size ≤ B40) :
    Calls Tryz.prog 211 #[v, .int .i64 n] w (MkH w (.leaf noB, s.extract 0 n)) := by
  unfold B40 at _hs
  obtain ⟨T, a, fS, fP, fT, p, rfl, -, ⟨m1, m2⟩, ⟨m3, m4⟩, -, P1, X1, rfl⟩ := h.nd
  have E1 : Hid (∀ W, Below w.heap.size w W → Calls Tryz.prog 143 #[] W fun e W' => ∃ v, e = .returned v ∧ Hid (At W' (.leaf noB) v ∧ Below w.heap.size w W')) := fun W hW => (eleaf_any W).mono fun e W' ⟨v, h1, h2, h3⟩ => ⟨v, h1, h2, Below.on hW h3⟩
  have X2 : Hid (∀ W u, Hid (At W (.leaf noB) u ∧ Below w.heap.size w W) → Calls Tryz.prog fT #[.pointer (some a)] W fun e W' => e = .returned (.string s) ∧ Hid (At W' (.leaf noB) u ∧ Below w.heap.size w W')) := fun W u ⟨h1, hW⟩ => (X1.out W hW).mono fun e W' ⟨k1, k2⟩ => ⟨k1, h1.below k2, Below.on hW k2⟩
  have b1 : (n : Int) ≤ s.size := by omega
  clear h X1
  go_enter Tryz.func211, Tryz.ntmps211
  go_wp2_with (go_at_fn fP; refine (P1.out _ (Below.refl _ w)).mono ?_; clear P1; rintro e w1 ⟨rfl, hb1⟩; have HB : Hid (Below w.heap.size w w1) := hb1; clear hb1)
  go_region_with (first | (go_at_call 143; refine (E1.out _ HB.out.drew).mono ?_; clear E1; rintro e w2 ⟨v2, rfl, h2⟩) | (go_at_fn fT; refine (X2.out _ _ h2).mono ?_; clear X2; rintro e w3 ⟨rfl, h3⟩))
  all_goals go_wp2
  all_goals exact bodyPost_ret (v := .tuple #[v2, .string (s.extract 0 n)]) (by simp [results, Tryz.results211, go_sem]) rfl ⟨v2, rfl, h3.out⟩
set_option maxRecDepth 100000 in
set_option maxHeartbeats 1000000 in
theorem headOf_any : ∀ {t : Tr} {w : World} {v : Value} {n : Nat}, At w t v → Fine t → Avl t → n ≤ t.text.size → t.text.size ≤ B40 → Ev w →
    Calls Tryz.prog 211 #[v, .int .i64 n] w (MkH w (hdO t n))
  | .leaf s, w, v, n, h, _, _, hn, hs, _ => headOf_leaf h hn hs
  | .knot l r, w, v, n, h, hf, ha, hn, hs, hE => by
    unfold B40 at hs
    have hs' : (l.text ++ r.text).size ≤ 1099511627776 := hs
    have hn' : n ≤ (l.text ++ r.text).size := hn
    rw [size_app] at hs' hn'
    obtain ⟨pl, pr⟩ := hf.knot
    obtain ⟨T, a, fS, fP, fT, p, rfl, -, ⟨m1, m2⟩, -, -, P1, -, x1, x2, rfl, a1, a2⟩ := h.nd
    obtain ⟨U, b, gS, gP, gT, q, rfl, ⟨m3, m4⟩, -, -, S1, -, -, -⟩ := a1.nd
    have S2 : Hid (∀ W, Below w.heap.size w W → Calls Tryz.prog gS #[.pointer (some b)] W fun e W' => e = .returned (sv (smr l.text)) ∧ Below w.heap.size w W') := fun W hW => (S1.out W hW).mono fun e W' ⟨h1, h2⟩ => ⟨h1, Below.on hW h2⟩
    obtain ⟨nl, e1⟩ : ∃ k, l.text.size = k := ⟨_, rfl⟩
    obtain ⟨ml, hml⟩ : ∃ m, smr l.text = m := ⟨_, rfl⟩
    have y1 := fby (m := ml) (n := nl) (by rw [← hml, ← e1]; rfl)
    rw [hml] at S2
    have b1 : n ≤ 1099511627776 := by omega
    have b2 : nl ≤ 1099511627776 := by omega
    by_cases c : n ≤ nl
    · have c' : (n : Int) ≤ nl := by omega
      have K1 : Hid (∀ W, Below w.heap.size w W → Calls Tryz.prog 211 #[.iface U (.pointer (some b)), .int .i64 n] W (MkH w (hdO (.knot l r) n))) := fun W hW => by
        rw [hdO_le (by omega)]
        exact (headOf_any (a1.below hW) (.inr pl) ha.1 (by omega) (by unfold B40; omega) (hE.below hW)).mono fun e W' ⟨v, h1, h2, h3⟩ => ⟨v, h1, h2, Below.on hW h3⟩
      generalize hdO (.knot l r) n = Q at K1 ⊢
      clear h hf ha hn hs hE hs' hn' pl pr S1 a1 a2 e1 hml
      go_enter Tryz.func211, Tryz.ntmps211
      go_wp2_with (first | (go_at_fn fP; refine (P1.out _ (Below.refl _ w)).mono ?_; clear P1; rintro e w1 ⟨rfl, hb1⟩; have HB : Hid (Below w.heap.size w w1) := hb1; clear hb1) | (go_at_fn gS; refine (S2.out _ HB.out).mono ?_; clear S2 HB; rintro e w2 ⟨rfl, hb1⟩; have HB : Hid (Below w.heap.size w w2) := hb1; clear hb1) | (go_at_call 211; refine (K1.out _ HB.out).mono ?_; clear K1; rintro e w3 ⟨v3, rfl, h3⟩))
      exact bodyPost_ret (v := .tuple #[v3, .string Q.2]) (by simp [results, Tryz.results211, go_sem]) rfl ⟨v3, rfl, h3⟩
    · have c' : ¬ (n : Int) ≤ nl := by omega
      obtain ⟨m, hm⟩ : ∃ m : Nat, n - nl = m := ⟨_, rfl⟩
      have e3 : (n : Int) - nl = (m : Int) := by omega
      obtain ⟨q1, q2, q3, -⟩ := hdO_ok (t := r) (n := m) (.inr pr) ha.2.1 (by omega)
      have q4 : (hdO r m).1.text.size ≤ r.text.size := by
        have := congrArg ByteArray.size q3
        rw [size_app, size_extract _ _ _ (by omega)] at this
        omega
      have K1 : Hid (∀ W, Below w.heap.size w W → Calls Tryz.prog 211 #[x2, .int .i64 m] W fun e W' => ∃ v, e = .returned (.tuple #[v, .string (hdO r m).2]) ∧ Hid (At W' (hdO r m).1 v ∧ Below w.heap.size w W')) := fun W hW =>
        (headOf_any (a2.below hW) (.inr pr) ha.2.1 (by omega) (by unfold B40; omega) (hE.below hW)).mono fun e W' ⟨v, h1, h2, h3⟩ => ⟨v, h1, h2, Below.on hW h3⟩
      have K2 : Hid (∀ W v, Hid (At W (hdO r m).1 v ∧ Below w.heap.size w W) → Calls Tryz.prog 213 #[.iface U (.pointer (some b)), v] W (Mk w (hdO (.knot l r) n).1)) := fun W v ⟨h1, hW⟩ => by
        rw [hdO_gt (by omega), e1, hm]
        exact (link_any (a1.below hW) h1 (.inr pl) q1 ha.1 q2 (by unfold B40; omega) (hE.below hW)).mono fun e W' ⟨v, h1, h2, h3⟩ => ⟨v, h1, h2, Below.on hW h3⟩
      have e4 : (hdO (.knot l r) n).2 = (hdO r m).2 := by rw [hdO_gt (by omega), e1, hm]
      generalize hdO r m = R at K1 K2 e4
      obtain ⟨Q1, Q2, hQ⟩ : ∃ Q1 Q2, hdO (.knot l r) n = (Q1, Q2) := ⟨_, _, rfl⟩
      rw [hQ] at K2 e4 ⊢
      have e4 : Q2 = R.2 := e4
      subst e4
      clear h hf ha hn hs hE hs' hn' pl pr S1 a1 a2 e1 hml hm q1 q2 q3 q4 hQ
      go_enter Tryz.func211, Tryz.ntmps211
      go_wp2_with (first | (go_at_fn fP; refine (P1.out _ (Below.refl _ w)).mono ?_; clear P1; rintro e w1 ⟨rfl, hb1⟩; have HB : Hid (Below w.heap.size w w1) := hb1; clear hb1) | (go_at_fn gS; refine (S2.out _ HB.out).mono ?_; clear S2 HB; rintro e w2 ⟨rfl, hb1⟩; have HB : Hid (Below w.heap.size w w2) := hb1; clear hb1) | (go_at_call 211; refine (K1.out _ HB.out).mono ?_; clear K1; rintro e w3 ⟨v3, rfl, h3⟩) | (go_at_call 213; refine (K2.out _ _ h3).mono ?_; clear K2; rintro e w4 ⟨v4, rfl, h4⟩))
      exact bodyPost_ret (v := .tuple #[v4, .string R.2]) (by simp [results, Tryz.results211, go_sem]) rfl ⟨v4, rfl, h4⟩
set_option maxRecDepth 100000 in
set_option maxHeartbeats 1000000 in
theorem tailOf_leaf {w : World} {s : ByteArray} {v : Value} {n : Nat} (h : At w (.leaf s) v) (hn : n ≤ s.size) (_hs : s.size ≤ B40) :
    Calls Tryz.prog 212 #[v, .int .i64 n] w (MkT w (s.extract n s.size, .leaf noB)) := by
  unfold B40 at _hs
  obtain ⟨T, a, fS, fP, fT, p, rfl, -, ⟨m1, m2⟩, ⟨m3, m4⟩, -, P1, X1, rfl⟩ := h.nd
  have X2 : Hid (∀ W, Below w.heap.size w W → Calls Tryz.prog fT #[.pointer (some a)] W fun e W' => e = .returned (.string s) ∧ Below w.heap.size w W') := fun W hW => (X1.out W hW).mono fun e W' ⟨k1, k2⟩ => ⟨k1, Below.on hW k2⟩
  have E1 : Hid (∀ W, Below w.heap.size w W → Calls Tryz.prog 143 #[] W fun e W' => ∃ v, e = .returned v ∧ Hid (At W' (.leaf noB) v ∧ Below w.heap.size w W')) := fun W hW => (eleaf_any W).mono fun e W' ⟨v, h1, h2, h3⟩ => ⟨v, h1, h2, Below.on hW h3⟩
  have b1 : (n : Int) ≤ s.size := by omega
  clear h X1
  go_enter Tryz.func212, Tryz.ntmps212
  go_wp2_with (go_at_fn fP; refine (P1.out _ (Below.refl _ w)).mono ?_; clear P1; rintro e w1 ⟨rfl, hb1⟩; have HB : Hid (Below w.heap.size w w1) := hb1; clear hb1)
  go_region_with (first | (go_at_fn fT; refine (X2.out _ HB.out.drew).mono ?_; clear X2; rintro e w2 ⟨rfl, hb2⟩; have HB2 : Hid (Below w.heap.size w w2) := hb2; clear hb2) | (go_at_call 143; refine (E1.out _ HB2.out).mono ?_; clear E1; rintro e w3 ⟨v3, rfl, h3⟩))
  all_goals go_wp2
  all_goals exact bodyPost_ret (v := .tuple #[.string (s.extract n s.size), v3]) (by simp [results, Tryz.results212, go_sem]) rfl ⟨v3, rfl, h3.out⟩
set_option maxRecDepth 100000 in
set_option maxHeartbeats 1000000 in
theorem tailOf_any : ∀ {t : Tr} {w : World} {v : Value} {n : Nat}, At w t v → Fine t → Avl t → n ≤ t.text.size → t.text.size ≤ B40 → Ev w →
    Calls Tryz.prog 212 #[v, .int .i64 n] w (MkT w (tlO t n))
  | .leaf s, w, v, n, h, _, _, hn, hs, _ => tailOf_leaf h hn hs
  | .knot l r, w, v, n, h, hf, ha, hn, hs, hE => by
    unfold B40 at hs
    have hs' : (l.text ++ r.text).size ≤ 1099511627776 := hs
    have hn' : n ≤ (l.text ++ r.text).size := hn
    rw [size_app] at hs' hn'
    obtain ⟨pl, pr⟩ := hf.knot
    obtain ⟨T, a, fS, fP, fT, p, rfl, -, ⟨m1, m2⟩, -, -, P1, -, x1, x2, rfl, a1, a2⟩ := h.nd
    obtain ⟨U, b, gS, gP, gT, q, rfl, ⟨m3, m4⟩, -, -, S1, -, -, -⟩ := a1.nd
    have S2 : Hid (∀ W, Below w.heap.size w W → Calls Tryz.prog gS #[.pointer (some b)] W fun e W' => e = .returned (sv (smr l.text)) ∧ Below w.heap.size w W') := fun W hW => (S1.out W hW).mono fun e W' ⟨h1, h2⟩ => ⟨h1, Below.on hW h2⟩
    obtain ⟨nl, e1⟩ : ∃ k, l.text.size = k := ⟨_, rfl⟩
    obtain ⟨ml, hml⟩ : ∃ m, smr l.text = m := ⟨_, rfl⟩
    have y1 := fby (m := ml) (n := nl) (by rw [← hml, ← e1]; rfl)
    rw [hml] at S2
    have b1 : n ≤ 1099511627776 := by omega
    have b2 : nl ≤ 1099511627776 := by omega
    by_cases c : nl ≤ n
    · have c' : (nl : Int) ≤ n := by omega
      obtain ⟨m, hm⟩ : ∃ m : Nat, n - nl = m := ⟨_, rfl⟩
      have e3 : (n : Int) - nl = (m : Int) := by omega
      have K1 : Hid (∀ W, Below w.heap.size w W → Calls Tryz.prog 212 #[x2, .int .i64 m] W (MkT w (tlO (.knot l r) n))) := fun W hW => by
        rw [tlO_le (by omega), e1, hm]
        exact (tailOf_any (a2.below hW) (.inr pr) ha.2.1 (by omega) (by unfold B40; omega) (hE.below hW)).mono fun e W' ⟨v, h1, h2, h3⟩ => ⟨v, h1, h2, Below.on hW h3⟩
      generalize tlO (.knot l r) n = Q at K1 ⊢
      clear h hf ha hn hs hE hs' hn' pl pr S1 a1 a2 e1 hml hm
      go_enter Tryz.func212, Tryz.ntmps212
      go_wp2_with (first | (go_at_fn fP; refine (P1.out _ (Below.refl _ w)).mono ?_; clear P1; rintro e w1 ⟨rfl, hb1⟩; have HB : Hid (Below w.heap.size w w1) := hb1; clear hb1) | (go_at_fn gS; refine (S2.out _ HB.out).mono ?_; clear S2 HB; rintro e w2 ⟨rfl, hb1⟩; have HB : Hid (Below w.heap.size w w2) := hb1; clear hb1) | (go_at_call 212; refine (K1.out _ HB.out).mono ?_; clear K1; rintro e w3 ⟨v3, rfl, h3⟩))
      exact bodyPost_ret (v := .tuple #[.string Q.1, v3]) (by simp [results, Tryz.results212, go_sem]) rfl ⟨v3, rfl, h3⟩
    · have c' : ¬ (nl : Int) ≤ n := by omega
      obtain ⟨q1, q2, q3, -⟩ := tlO_ok (t := l) (n := n) (.inr pl) ha.1 (by omega)
      have q4 : (tlO l n).2.text.size ≤ l.text.size := by
        have := congrArg ByteArray.size q3
        rw [size_app, size_extract _ _ _ (by omega)] at this
        omega
      have K1 : Hid (∀ W, Below w.heap.size w W → Calls Tryz.prog 212 #[.iface U (.pointer (some b)), .int .i64 n] W fun e W' => ∃ v, e = .returned (.tuple #[.string (tlO l n).1, v]) ∧ Hid (At W' (tlO l n).2 v ∧ Below w.heap.size w W')) := fun W hW =>
        (tailOf_any (a1.below hW) (.inr pl) ha.1 (by omega) (by unfold B40; omega) (hE.below hW)).mono fun e W' ⟨v, h1, h2, h3⟩ => ⟨v, h1, h2, Below.on hW h3⟩
      have K2 : Hid (∀ W v, Hid (At W (tlO l n).2 v ∧ Below w.heap.size w W) → Calls Tryz.prog 213 #[v, x2] W (Mk w (tlO (.knot l r) n).2)) := fun W v ⟨h1, hW⟩ => by
        rw [tlO_gt (by omega)]
        exact (link_any h1 (a2.below hW) q1 (.inr pr) q2 ha.2.1 (by unfold B40; omega) (hE.below hW)).mono fun e W' ⟨v, h1, h2, h3⟩ => ⟨v, h1, h2, Below.on hW h3⟩
      have e4 : (tlO (.knot l r) n).1 = (tlO l n).1 := by rw [tlO_gt (by omega)]
      generalize tlO l n = R at K1 K2 e4
      obtain ⟨Q1, Q2, hQ⟩ : ∃ Q1 Q2, tlO (.knot l r) n = (Q1, Q2) := ⟨_, _, rfl⟩
      rw [hQ] at K2 e4 ⊢
      have e4 : Q1 = R.1 := e4
      subst e4
      clear h hf ha hn hs hE hs' hn' pl pr S1 a1 a2 e1 hml q1 q2 q3 q4 hQ
      go_enter Tryz.func212, Tryz.ntmps212
      go_wp2_with (first | (go_at_fn fP; refine (P1.out _ (Below.refl _ w)).mono ?_; clear P1; rintro e w1 ⟨rfl, hb1⟩; have HB : Hid (Below w.heap.size w w1) := hb1; clear hb1) | (go_at_fn gS; refine (S2.out _ HB.out).mono ?_; clear S2 HB; rintro e w2 ⟨rfl, hb1⟩; have HB : Hid (Below w.heap.size w w2) := hb1; clear hb1) | (go_at_call 212; refine (K1.out _ HB.out).mono ?_; clear K1; rintro e w3 ⟨v3, rfl, h3⟩) | (go_at_call 213; refine (K2.out _ _ h3).mono ?_; clear K2; rintro e w4 ⟨v4, rfl, h4⟩))
      exact bodyPost_ret (v := .tuple #[.string R.1, v4]) (by simp [results, Tryz.results212, go_sem]) rfl ⟨v4, rfl, h4⟩
end Go.Proofs.YtplieccalmkloaaGreatDoor
namespace Go.Proofs.YtplieccalmkloaaGreatDoor
open Go.RowKit Go.Shelf Bod Wid

theorem hdO_sz {t : Tr} {n : Nat} (hf : Fine t) (ha : Avl t) (hn : n ≤ t.text.size) : (hdO t n).1.text.size + (hdO t n).2.size = n := by
  have := congrArg ByteArray.size (hdO_ok hf ha hn).2.2.1
  rw [size_app, size_extract _ _ _ hn] at this
  omega
theorem tlO_sz {t : Tr} {n : Nat} (hf : Fine t) (ha : Avl t) (hn : n ≤ t.text.size) : (tlO t n).1.size + (tlO t n).2.text.size = t.text.size - n := by
  have := congrArg ByteArray.size (tlO_ok hf ha hn).2.2.1
  rw [size_app, size_extract _ _ _ (Nat.le_refl _)] at this
  omega
set_option maxRecDepth 100000 in
set_option maxHeartbeats 1000000 in
theorem before_any {t : Tr} {w : World} {v : Value} {n : Nat} (h : At w t v) (hf : Fine t) (ha : Avl t) (hn : n ≤ t.text.size) (hs : t.text.size ≤ B40) (hE : Ev w) :
    Calls Tryz.prog 207 #[v, .int .i64 n] w (MkH w (bef t n)) := by
  unfold B40 at hs
  have z := hdO_sz hf ha hn
  obtain ⟨q1, q2, -, -⟩ := hdO_ok hf ha hn
  have K1 : Hid (Calls Tryz.prog 211 #[v, .int .i64 n] w fun e W' => ∃ v, e = .returned (.tuple #[v, .string (hdO t n).2]) ∧ Hid (At W' (hdO t n).1 v ∧ Below w.heap.size w W')) :=
    (headOf_any h hf ha hn hs hE).mono fun e W' ⟨v, h1, h2, h3⟩ => ⟨v, h1, h2, h3⟩
  by_cases c : 32 ≤ (hdO t n).2.size
  · have e1 : bef t n = hdO t n := if_pos c
    rw [e1]
    generalize hdO t n = A at *
    have c' : (32 : Int) ≤ A.2.size := by omega
    clear h hf ha hn hE q1 q2 e1
    go_enter Tryz.func207, Tryz.ntmps207
    go_wp2_with (go_at_call 211; refine K1.out.mono ?_; clear K1; rintro e w1 ⟨v1, rfl, h1⟩)
    exact bodyPost_ret (v := .tuple #[v1, .string A.2]) (by simp [results, Tryz.results207, go_sem]) rfl ⟨v1, rfl, h1.out⟩
  · have e1 : bef t n = ((hdO (hdO t n).1 (hdO t n).1.text.size).1, (hdO (hdO t n).1 (hdO t n).1.text.size).2 ++ (hdO t n).2) := if_neg c
    rw [e1]
    generalize hdO t n = A at *
    have z2 := hdO_sz q1 q2 (Nat.le_refl A.1.text.size)
    obtain ⟨nl, e2⟩ : ∃ k, A.1.text.size = k := ⟨_, rfl⟩
    obtain ⟨ml, hml⟩ : ∃ m, smr A.1.text = m := ⟨_, rfl⟩
    have y1 := fby (m := ml) (n := nl) (by rw [← hml, ← e2]; rfl)
    have K2 : Hid (∀ W v, Hid (At W A.1 v ∧ Below w.heap.size w W) → Calls Tryz.prog 211 #[v, .int .i64 nl] W (MkH w (hdO A.1 nl))) := fun W v ⟨h1, hW⟩ =>
      (headOf_any h1 q1 q2 (by omega) (by unfold B40; omega) (hE.below hW)).mono fun e W' ⟨v, h1, h2, h3⟩ => ⟨v, h1, h2, Below.on hW h3⟩
    rw [e2] at z2 ⊢
    have HM : Hid (smr A.1.text = ml) := hml
    generalize hdO A.1 nl = R at *
    have c' : ¬ (32 : Int) ≤ A.2.size := by omega
    have b1 : A.2.size ≤ 1099511627776 := by omega
    have b2 : R.2.size ≤ 1099511627776 := by omega
    clear h hf ha hn hE q1 q2 e1 z z2 hml e2 hs
    go_enter Tryz.func207, Tryz.ntmps207
    go_wp2_with (first | (go_at_call 211; refine K1.out.mono ?_; clear K1; rintro e w1 ⟨v1, rfl, h1⟩; obtain ⟨T, a, fS, fP, fT, p, rfl, ⟨m1, m2⟩, -, -, S1, -, -, -⟩ := h1.out.1.nd; rw [HM.out] at S1; have S2 : Hid (Calls Tryz.prog fS #[.pointer (some a)] w1 fun e W' => e = .returned (sv ml) ∧ Hid (At W' A.1 (.iface T (.pointer (some a))) ∧ Below w.heap.size w W')) := (S1.out w1 (Below.refl _ w1)).mono (fun e W' ⟨k1, k2⟩ => ⟨k1, h1.out.1.below k2, Below.on h1.out.2 k2⟩); clear S1 h1) | (go_at_fn fS; refine S2.out.mono ?_; clear S2; rintro e w2 ⟨rfl, h2⟩) | (go_at_call 211; refine (K2.out _ _ h2).mono ?_; clear K2; rintro e w3 ⟨v3, rfl, h3⟩))
    exact bodyPost_ret (v := .tuple #[v3, .string (R.2 ++ A.2)]) (by simp [results, Tryz.results207, go_sem]) rfl ⟨v3, rfl, h3⟩
set_option maxRecDepth 100000 in
set_option maxHeartbeats 1000000 in
theorem after_any {t : Tr} {w : World} {v : Value} {n : Nat} (h : At w t v) (hf : Fine t) (ha : Avl t) (hn : n ≤ t.text.size) (hs : t.text.size ≤ B40) (hE : Ev w) :
    Calls Tryz.prog 208 #[v, .int .i64 n] w (MkT w (aft t n)) := by
  unfold B40 at hs
  have z := tlO_sz hf ha hn
  obtain ⟨q1, q2, -, -⟩ := tlO_ok hf ha hn
  have K1 : Hid (Calls Tryz.prog 212 #[v, .int .i64 n] w fun e W' => ∃ v, e = .returned (.tuple #[.string (tlO t n).1, v]) ∧ Hid (At W' (tlO t n).2 v ∧ Below w.heap.size w W')) :=
    (tailOf_any h hf ha hn hs hE).mono fun e W' ⟨v, h1, h2, h3⟩ => ⟨v, h1, h2, h3⟩
  by_cases c : 32 ≤ (tlO t n).1.size
  · have e1 : aft t n = tlO t n := if_pos c
    rw [e1]
    generalize tlO t n = A at *
    have c' : (32 : Int) ≤ A.1.size := by omega
    clear h hf ha hn hE q1 q2 e1
    go_enter Tryz.func208, Tryz.ntmps208
    go_wp2_with (go_at_call 212; refine K1.out.mono ?_; clear K1; rintro e w1 ⟨v1, rfl, h1⟩)
    exact bodyPost_ret (v := .tuple #[.string A.1, v1]) (by simp [results, Tryz.results208, go_sem]) rfl ⟨v1, rfl, h1.out⟩
  · have e1 : aft t n = ((tlO t n).1 ++ (tlO (tlO t n).2 0).1, (tlO (tlO t n).2 0).2) := if_neg c
    rw [e1]
    generalize tlO t n = A at *
    have z2 := tlO_sz q1 q2 (Nat.zero_le A.2.text.size)
    have K2 : Hid (∀ W v, Hid (At W A.2 v ∧ Below w.heap.size w W) → Calls Tryz.prog 212 #[v, .int .i64 0] W (MkT w (tlO A.2 0))) := fun W v ⟨h1, hW⟩ =>
      (tailOf_any (n := 0) h1 q1 q2 (by omega) (by unfold B40; omega) (hE.below hW)).mono fun e W' ⟨v, h1, h2, h3⟩ => ⟨v, h1, h2, Below.on hW h3⟩
    generalize tlO A.2 0 = R at *
    have c' : ¬ (32 : Int) ≤ A.1.size := by omega
    have b1 : A.1.size ≤ 1099511627776 := by omega
    have b2 : R.1.size ≤ 1099511627776 := by omega
    clear h hf ha hn hE q1 q2 e1 z z2 hs
    go_enter Tryz.func208, Tryz.ntmps208
    go_wp2_with (first | (go_at_call 212; refine K1.out.mono ?_; clear K1; rintro e w1 ⟨v1, rfl, h1⟩) | (go_at_call 212; refine (K2.out _ _ h1).mono ?_; clear K2; rintro e w3 ⟨v3, rfl, h3⟩))
    exact bodyPost_ret (v := .tuple #[.string (A.1 ++ R.1), v3]) (by simp [results, Tryz.results208, go_sem]) rfl ⟨v3, rfl, h3⟩
set_option maxRecDepth 100000 in
set_option maxHeartbeats 1000000 in
theorem firstEnd_any (s : ByteArray) (hs : s.size ≤ B40) (w : World) (hE : Ev w) :
    Calls Tryz.prog 140 #[.string s] w fun e W' => e = .returned (.int .i64 (fe s)) ∧ Below w.heap.size w W' := by
  unfold B40 at hs
  by_cases c1 : s.size ≤ 64
  · have e1 : fe s = s.size := if_pos c1
    rw [e1]
    have c1' : (s.size : Int) ≤ 64 := by omega
    clear hE e1
    go_enter Tryz.func140, Tryz.ntmps140
    go_wp2
    go_ret
    exact ⟨rfl, Below.refl _ w⟩
  obtain ⟨far, hfar⟩ : ∃ k, s.size - 32 = k := ⟨_, rfl⟩
  obtain ⟨full, hfull⟩ : ∃ k, min 64 far = k := ⟨_, rfl⟩
  obtain ⟨p, hp⟩ : ∃ p, pvC s (full + 1) = p := ⟨_, rfl⟩
  obtain ⟨q, hq⟩ : ∃ q, nxC s full = q := ⟨_, rfl⟩
  have f1 : (s.size : Int) - 32 = (far : Int) := by omega
  have f2 : min (64 : Int) (far : Int) = (full : Int) := by omega
  have f3 : full ≤ 64 := by omega
  have c1' : ¬ (s.size : Int) ≤ 64 := by omega
  have hp0 := pvC_is s (full + 1)
  have hq0 := nxC_is (s := s) (i := full) (by omega)
  rw [hp] at hp0
  rw [hq] at hq0
  have C1 : Hid (Calls Tryz.prog 90 #[.string s, .int .i64 ((full : Int) + 1)] w fun e W' => e = .returned (.int .i64 p) ∧ Below w.heap.size w W') :=
    (cprev_any s ((full : Int) + 1) (by unfold maxLen; omega) w hE.t (by omega)).mono fun e W' ⟨m, h1, h2, h3⟩ => ⟨by rw [h1, h2.uniq hp0], h3⟩
  have C2 : Hid (∀ W, Below w.heap.size w W → Calls Tryz.prog 12 #[.string s, .int .i64 full] W fun e W' => e = .returned (.int .i64 q) ∧ Below w.heap.size w W') := fun W hW =>
    (cnext_any s full (by unfold maxLen; omega) W (hE.below hW).t).mono fun e W' ⟨m, h1, h2, h3⟩ => ⟨by rw [h1, h2.uniq hq0], Below.on hW h3⟩
  have e1 : fe s = if 32 ≤ p then p else if q ≤ far then q else s.size := by
    unfold fe
    rw [if_neg c1, hfar, hfull, hp, hq]
  rw [e1]
  have b1 : far ≤ 1099511627776 := by omega
  clear hE e1 hp0 hq0 hp hq hfull hfar
  by_cases c2 : 32 ≤ p
  · rw [if_pos c2]
    have c2' : (32 : Int) ≤ p := by omega
    go_enter Tryz.func140, Tryz.ntmps140
    go_wp2_with (go_at_call 90; refine C1.out.mono ?_; clear C1; rintro e w1 ⟨rfl, hb1⟩)
    go_ret
    exact ⟨rfl, hb1⟩
  · rw [if_neg c2]
    have c2' : ¬ (32 : Int) ≤ p := by omega
    by_cases c3 : q ≤ far
    · rw [if_pos c3]
      have c3' : (q : Int) ≤ far := by omega
      go_enter Tryz.func140, Tryz.ntmps140
      go_wp2_with (first | (go_at_call 90; refine C1.out.mono ?_; clear C1; rintro e w1 ⟨rfl, hb1⟩; have HB : Hid (Below w.heap.size w w1) := hb1; clear hb1) | (go_at_call 12; refine (C2.out _ HB.out).mono ?_; clear C2; rintro e w2 ⟨rfl, hb2⟩))
      go_ret
      exact ⟨rfl, hb2⟩
    · rw [if_neg c3]
      have c3' : ¬ (q : Int) ≤ far := by omega
      go_enter Tryz.func140, Tryz.ntmps140
      go_wp2_with (first | (go_at_call 90; refine C1.out.mono ?_; clear C1; rintro e w1 ⟨rfl, hb1⟩; have HB : Hid (Below w.heap.size w w1) := hb1; clear hb1) | (go_at_call 12; refine (C2.out _ HB.out).mono ?_; clear C2; rintro e w2 ⟨rfl, hb2⟩))
      go_ret
      exact ⟨rfl, hb2⟩
end Go.Proofs.YtplieccalmkloaaGreatDoor
namespace Go.Proofs.YtplieccalmkloaaGreatDoor
open Go.RowKit Go.Shelf Bod Wid

theorem row_belowN {base e size n : Nat} {v : Value} {xs : List Value} {W W' : World} (h : W.ownsRow base e size v n xs) (hb : Below W.heap.size W W') : W'.ownsRow base e size v n xs :=
  h.kept (row := none) ⟨hb.os, hb.tape, hb.output, hb.size, fun k hk _ => hb.block k hk⟩ (by cases hv : v.ownBlock with
    | none => exact .inl rfl
    | some _ => exact .inr (by simp))

/-- a slice of trees -/
def RdT (W : World) (v : Value) (ts : List Tr) : Prop :=
  ∃ g o cap, v = .slice (some ⟨g, o, none⟩) ts.length cap ∧ ts.length ≤ cap ∧ g < W.heap.size ∧ ∀ k t, ts[k]? = some t → ∃ x, W.cell? ⟨g, o + k, none⟩ = some x ∧ At W t x
theorem RdT.below {w W : World} {v : Value} {ts : List Tr} (h : RdT w v ts) (hb : Below w.heap.size w W) : RdT W v ts := by
  obtain ⟨g, o, cap, h1, h2, h3, h4⟩ := h
  refine ⟨g, o, cap, h1, h2, Nat.lt_of_lt_of_le h3 hb.size, fun k t hk => ?_⟩
  obtain ⟨x, hx, hA⟩ := h4 k t hk
  exact ⟨x, (hb.cell (p := ⟨g, _, none⟩) h3).trans hx, hA.below hb⟩
theorem RdT.take {w : World} {g o len cap k : Nat} {ts : List Tr} (h : RdT w (.slice (some ⟨g, o, none⟩) len cap) ts) (hk : k ≤ ts.length) : RdT w (.slice (some ⟨g, o, none⟩) k cap) (ts.take k) := by
  obtain ⟨g', o', cap', h1, h2, h3, h4⟩ := h
  cases h1
  refine ⟨g, o, cap, by rw [List.length_take, Nat.min_eq_left hk], by rw [List.length_take]; omega, h3, fun j t hj => h4 j t ?_⟩
  rw [List.getElem?_take] at hj
  split at hj
  · exact hj
  · cases hj
theorem RdT.drop {w : World} {g o len cap k : Nat} {ts : List Tr} (h : RdT w (.slice (some ⟨g, o, none⟩) len cap) ts) (hk : k ≤ ts.length) : RdT w (.slice (some ⟨g, o + k, none⟩) (len - k) (cap - k)) (ts.drop k) := by
  obtain ⟨g', o', cap', h1, h2, h3, h4⟩ := h
  cases h1
  refine ⟨g, o + k, cap - k, by rw [List.length_drop], by rw [List.length_drop]; omega, h3, fun j t hj => ?_⟩
  rw [List.getElem?_drop] at hj
  obtain ⟨x, hx, hA⟩ := h4 _ _ hj
  exact ⟨x, by rw [Nat.add_assoc]; exact hx, hA⟩
set_option maxRecDepth 100000 in
set_option maxHeartbeats 1000000 in
theorem tol_any : ∀ (n : Nat) {ls : List ByteArray} {v : Value} {w : World}, ls.length ≤ n → ls ≠ [] → (ls.length ≤ 1 ∨ ∀ x ∈ ls, 0 < x.size) → RdT w v (ls.map .leaf) → (jo ls).size ≤ B40 → Ev w →
    Calls Tryz.prog 142 #[v] w (Mk w (Go.Proofs.YtplieccalmkloaaGreatDoor.tol ls))
  | 0, ls, v, w, hn, hne, _, _, _, _ => absurd (List.length_eq_zero_iff.1 (by omega)) hne
  | n + 1, ls, v, w, hn, hne, hp, hr, hs, hE => by
    have hr0 := hr
    obtain ⟨g, o, cap, rfl, hc, hg, hx⟩ := hr
    have hlp := List.length_pos_iff.2 hne
    rw [List.length_map] at hc hr0 ⊢
    obtain ⟨N, hN⟩ : ∃ N, ls.length = N := ⟨_, rfl⟩
    obtain ⟨half, hh⟩ : ∃ k, N / 2 = k := ⟨_, rfl⟩
    have hq : (N : Int) / 2 = (half : Int) := by omega
    rw [hN] at hc hr0 hlp ⊢
    by_cases c : half = 0
    · obtain ⟨x0, rfl⟩ : ∃ x, ls = [x] := by
        match ls, hN with
        | [x], _ => exact ⟨x, rfl⟩
        | [], hN => simp at hN; omega
        | x :: y :: l, hN => simp at hN; omega
      rw [tol_one]
      obtain ⟨x, hx0, hA⟩ := hx 0 (.leaf x0) rfl
      have hx1 : w.cell? ⟨g, o, none⟩ = some x := hx0
      have HA : Hid (At w (.leaf x0) x) := hA
      subst c
      have hN1 : N = 1 := by simpa using hN.symm
      subst hN1
      have hc' : 1 ≤ cap := hc
      clear hx hx0 hA hr0 hE hs hn hp hne hN
      go_enter Tryz.func142, Tryz.ntmps142
      go_wp2
      go_ret
      exact ⟨_, rfl, HA.out, Below.refl _ w⟩
    · have e1 : Go.Proofs.YtplieccalmkloaaGreatDoor.tol ls = .knot (Go.Proofs.YtplieccalmkloaaGreatDoor.tol (ls.take half)) (Go.Proofs.YtplieccalmkloaaGreatDoor.tol (ls.drop half)) := by
        rw [tol_two (by rw [hN, hh]; exact c), hN, hh]
      have hp' : ∀ x ∈ ls, 0 < x.size := hp.resolve_left (by omega)
      have htk := tol_lv _ (Nat.le_refl (ls.take half).length) (by rw [ne_eq, ← List.length_eq_zero_iff, List.length_take]; omega)
      have hdr := tol_lv _ (Nat.le_refl (ls.drop half).length) (by rw [ne_eq, ← List.length_eq_zero_iff, List.length_drop]; omega)
      have pt : Pos (Go.Proofs.YtplieccalmkloaaGreatDoor.tol (ls.take half)) := fun x hx => by rw [htk] at hx; exact hp' x (List.mem_of_mem_take hx)
      have pd : Pos (Go.Proofs.YtplieccalmkloaaGreatDoor.tol (ls.drop half)) := fun x hx => by rw [hdr] at hx; exact hp' x (List.mem_of_mem_drop hx)
      have hsz : (jo (ls.take half)).size + (jo (ls.drop half)).size ≤ B40 := by rw [← jo_size, List.take_append_drop]; exact hs
      have K1 : Hid (∀ W, Below w.heap.size w W → Calls Tryz.prog 142 #[.slice (some ⟨g, o, none⟩) half cap] W fun e W' => ∃ v, e = .returned v ∧ Hid (At W' (Go.Proofs.YtplieccalmkloaaGreatDoor.tol (ls.take half)) v ∧ Below w.heap.size w W')) := fun W hW => by
        have hq := hr0.take (k := half) (by rw [List.length_map]; omega)
        rw [← List.map_take] at hq
        exact (tol_any n (by rw [List.length_take]; omega) (by rw [ne_eq, ← List.length_eq_zero_iff, List.length_take]; omega) (.inr fun x hx => hp' x (List.mem_of_mem_take hx)) (hq.below hW) (by omega) (hE.below hW)).mono fun e W' ⟨v, h1, h2, h3⟩ => ⟨v, h1, h2, Below.on hW h3⟩
      have K2 : Hid (∀ W u, Hid (At W (Go.Proofs.YtplieccalmkloaaGreatDoor.tol (ls.take half)) u ∧ Below w.heap.size w W) → Calls Tryz.prog 142 #[.slice (some ⟨g, o + half, none⟩) (N - half) (cap - half)] W fun e W' => ∃ v, e = .returned v ∧ Hid (At W' (Go.Proofs.YtplieccalmkloaaGreatDoor.tol (ls.take half)) u ∧ At W' (Go.Proofs.YtplieccalmkloaaGreatDoor.tol (ls.drop half)) v ∧ Below w.heap.size w W')) := fun W u ⟨h1, hW⟩ => by
        have hq := hr0.drop (k := half) (by rw [List.length_map]; omega)
        rw [← List.map_drop] at hq
        exact (tol_any n (by rw [List.length_drop]; omega) (by rw [ne_eq, ← List.length_eq_zero_iff, List.length_drop]; omega) (.inr fun x hx => hp' x (List.mem_of_mem_drop hx)) (hq.below hW) (by omega) (hE.below hW)).mono fun e W' ⟨v, k1, k2, k3⟩ => ⟨v, k1, h1.below k3, k2, Below.on hW k3⟩
      have K3 : Hid (∀ W u v, Hid (At W (Go.Proofs.YtplieccalmkloaaGreatDoor.tol (ls.take half)) u ∧ At W (Go.Proofs.YtplieccalmkloaaGreatDoor.tol (ls.drop half)) v ∧ Below w.heap.size w W) → Calls Tryz.prog 155 #[u, v] W (Mk w (Go.Proofs.YtplieccalmkloaaGreatDoor.tol ls))) := fun W u v ⟨h1, h2, hW⟩ => by
        rw [e1]
        exact (kn hE hW h1 h2 pt pd (by rw [text_lv, text_lv, htk, hdr]; exact hsz)).mono fun e W' ⟨v, k1, k2, k3⟩ => ⟨v, k1, k2, Below.on hW k3⟩
      generalize Go.Proofs.YtplieccalmkloaaGreatDoor.tol ls = tT at K3 ⊢
      generalize Go.Proofs.YtplieccalmkloaaGreatDoor.tol (ls.take half) = tA at K1 K2 K3
      generalize Go.Proofs.YtplieccalmkloaaGreatDoor.tol (ls.drop half) = tB at K2 K3
      have hjl := jo_len ls hp'
      have c0 : ¬ (half : Int) = 0 := by omega
      have bN : N ≤ 1099511627776 := by unfold B40 at hs; omega
      have bh : half ≤ 1099511627776 := by omega
      have c1 : half ≤ cap := by omega
      have c2 : half ≤ N := by omega
      have c3 : half < N := by omega
      clear hx hr0 hE hs hn hp hp' hne e1 htk hdr hsz hN hh hlp hg hjl pt pd
      go_enter Tryz.func142, Tryz.ntmps142
      go_wp2
      go_region_with (first | (go_at_call 142; refine (K1.out _ (Below.refl _ w).drew).mono ?_; clear K1; rintro e w1 ⟨v1, rfl, h1⟩) | (go_at_call 142; refine (K2.out _ _ h1).mono ?_; clear K2; rintro e w2 ⟨v2, rfl, h2⟩) | (go_at_call 155; refine (K3.out _ _ _ h2).mono ?_; clear K3; rintro e w3 ⟨v3, rfl, h3⟩))
      all_goals go_wp2
      all_goals exact bodyPost_ret (v := v3) (by simp [results, Tryz.results142, go_sem]) rfl ⟨v3, rfl, h3⟩
theorem infoTR : (Tryz.prog.info? 168).map (fun i => (i.zero, i.size, i.bytes)) = some (some .nilIface, 1, 16) := by kernel_rfl
/-- leaves in a list -/
def LfA (w : World) (pre : List ByteArray) (xs : List Value) : Prop := xs.length = pre.length ∧ ∀ (k : Nat) s, pre[k]? = some s → ∃ x, xs[k]? = some x ∧ At w (.leaf s) x
theorem LfA.below {w W : World} {pre : List ByteArray} {xs : List Value} (h : LfA w pre xs) (hb : Below w.heap.size w W) : LfA W pre xs :=
  ⟨h.1, fun k s hk => by obtain ⟨x, h1, h2⟩ := h.2 k s hk; exact ⟨x, h1, h2.below hb⟩⟩
theorem row_block {W : World} {base e size n : Nat} {v : Value} {xs : List Value} (h : W.ownsRow base e size v n xs) {g : Nat} (hg : v.ownBlock = some g) : ∃ vs, W.heap[g]? = some (.cells vs e (0, 0)) := by
  rcases h.2 with ⟨h0, _⟩ | ⟨g', cap', cur, hv, _, hgb, _⟩
  · rw [h0] at hg; cases hg
  · rw [hv] at hg; cases hg; exact ⟨_, hgb⟩
theorem leaf_grown {W W' : World} {base size n : Nat} {v x : Value} {xs : List Value} {s : ByteArray} (h : At W (.leaf s) x) (hr : W.ownsRow base 168 size v n xs) (hg : W.grownBy W' v.ownBlock) : At W' (.leaf s) x := by
  obtain ⟨b, h1, h2⟩ := h
  refine ⟨b, h1, (hg.block b (Array.getElem?_eq_some_iff.1 h2).1 fun e => ?_).trans h2⟩
  obtain ⟨vs, hv⟩ := row_block hr e.symm
  rw [hv] at h2
  cases h2
theorem LfA.snoc {W W' : World} {base n : Nat} {v x : Value} {pre : List ByteArray} {xs : List Value} {s : ByteArray} (h : LfA W pre xs) (hx : At W (.leaf s) x) (hr : W.ownsRow base 168 1 v n xs) (hg : W.grownBy W' v.ownBlock) : LfA W' (pre ++ [s]) (xs ++ [x]) := by
  refine ⟨by simp [h.1], fun k u hk => ?_⟩
  by_cases hk' : k < pre.length
  · rw [List.getElem?_append_left hk'] at hk
    obtain ⟨y, h1, h2⟩ := h.2 k u hk
    exact ⟨y, by rw [List.getElem?_append_left (by rw [h.1]; exact hk')]; exact h1, leaf_grown h2 hr hg⟩
  · rw [List.getElem?_append_right (by omega)] at hk
    have hk0 : k - pre.length = 0 := by
      have := (List.getElem?_eq_some_iff.1 hk).1
      simp at this
      omega
    rw [hk0] at hk
    cases hk
    exact ⟨x, by rw [List.getElem?_append_right (by rw [h.1]; omega), h.1, hk0]; rfl, leaf_grown hx hr hg⟩
theorem cuts_len (s : ByteArray) : (cuts s).length ≤ s.size + 1 := by
  by_cases h : 0 < s.size
  · obtain ⟨c1, -, -, c4⟩ := cuts_ok _ (Nat.le_refl s.size)
    have := jo_len _ (c4 h)
    rw [c1] at this
    omega
  · rw [cuts_end (by have := fe_le s; omega)]; simp
theorem lfv_one {w : World} {s : ByteArray} {x : Value} (h : At w (.leaf s) x) : ∀ u ∈ [x], u.oneCell' = true := by
  obtain ⟨b, rfl, _⟩ := h
  intro u hu
  rw [List.mem_singleton.1 hu]
  rfl
theorem one_new (w : World) (a : Value) (t : TypeId) : ∀ j u, [a][j]? = some u → (w.alloc (.cells #[a] t)).cell? ((⟨w.heap.size, 0, none⟩ : Addr).add j) = some u := by
  intro j u hj
  match j, hj with
  | 0, hj => simp at hj; subst hj; simp [Addr.add]
  | j + 1, hj => simp at hj
/-- the leaves so far -/
structure TL (w : World) (s r : ByteArray) (pre : List ByteArray) (v : Value) (W : World) (xs : List Value) : Prop where
  cut : cuts s = pre ++ cuts r
  lf : LfA W pre xs
  row : W.ownsRow w.heap.size 168 1 v pre.length xs
  bel : Below w.heap.size w W
theorem TL.below {w : World} {s r : ByteArray} {pre : List ByteArray} {v : Value} {W W' : World} {xs : List Value} (h : TL w s r pre v W xs) (hb : Below W.heap.size W W') : TL w s r pre v W' xs :=
  ⟨h.cut, h.lf.below hb, row_belowN h.row hb, Below.on h.bel hb⟩
theorem TL.len {w : World} {s r : ByteArray} {pre : List ByteArray} {v : Value} {W : World} {xs : List Value} (h : TL w s r pre v W xs) : pre.length ≤ s.size + 1 := by
  have := cuts_len s
  rw [h.cut] at this
  simp at this
  omega
theorem rdt_of {W : World} {base g n cap : Nat} {pre : List ByteArray} {xs : List Value} (h : LfA W pre xs) (hn : pre.length = n) (hr : W.ownsRow base 168 1 (.slice (some ⟨g, 0, none⟩) n cap) n xs) : RdT W (.slice (some ⟨g, 0, none⟩) n cap) (pre.map .leaf) := by
  have hc : n ≤ cap := by
    rcases hr.2 with ⟨h0, _⟩ | ⟨g', cap', cur, hv, _, _, h1, _⟩
    · cases h0
    · cases hv; exact h1
  refine ⟨g, 0, cap, by rw [List.length_map, hn], by rw [List.length_map, hn]; exact hc, (hr.lt g rfl).2, fun k t hk => ?_⟩
  rw [List.getElem?_map] at hk
  obtain ⟨s, hs, rfl⟩ := Option.map_eq_some_iff.1 hk
  obtain ⟨x, h1, h2⟩ := h.2 k s hs
  have hk : k < n := by have := (List.getElem?_eq_some_iff.1 hs).1; omega
  exact ⟨x, by rw [Nat.zero_add, hr.cellAt k (by omega)]; exact h1, h2⟩
set_option maxRecDepth 100000 in
set_option maxHeartbeats 1000000 in
theorem treeOf_any (s : ByteArray) (hs : s.size ≤ B40) (w : World) (hE : Ev w) : Calls Tryz.prog 130 #[.string s] w (Mk w (tof s)) := by
  unfold B40 at hs
  obtain ⟨i0, hi, hz0, hz1, hz2⟩ := info_parts infoTR
  have CF : Hid (∀ r : ByteArray, r.size ≤ s.size → ∀ W, Below w.heap.size w W → Calls Tryz.prog 140 #[.string r] W fun e W' => e = .returned (.int .i64 (fe r)) ∧ Below W.heap.size W W') := fun r hr W hW => firstEnd_any r (by unfold B40; omega) W (hE.below hW)
  have CL : Hid (∀ r : ByteArray, r.size ≤ s.size → ∀ W, Below w.heap.size w W → Calls Tryz.prog 141 #[.string r] W fun e W' => ∃ b, e = .returned (.iface 187 (.pointer (some ⟨b, 0, none⟩))) ∧ At W' (.leaf r) (lfv b) ∧ Below W.heap.size W W') := fun r hr W hW => (leafOf_any r (by omega) W (hE.below hW)).mono fun e W' ⟨v, h1, ⟨b, h2, h4⟩, h3⟩ => ⟨b, by rw [h1, h2]; rfl, ⟨b, rfl, h4⟩, h3⟩
  have CT : Hid (∀ v W, RdT W v ((cuts s).map .leaf) → Below w.heap.size w W → Calls Tryz.prog 142 #[v] W (Mk w (tof s))) := fun v W h hW => by
    obtain ⟨c1, c2, -, c4⟩ := cuts_ok _ (Nat.le_refl s.size)
    refine (tol_any _ (Nat.le_refl _) c2 ?_ h (by rw [c1]; unfold B40; omega) (hE.below hW)).mono fun e W' ⟨v, h1, h2, h3⟩ => ⟨v, h1, h2, Below.on hW h3⟩
    by_cases h0 : 0 < s.size
    · exact .inr (c4 h0)
    · left; rw [cuts_end (by have := fe_le s; omega)]; simp
  have CF0 : Hid (Calls Tryz.prog 140 #[.string s] w fun e W' => e = .returned (.int .i64 (fe s)) ∧ TL w s s [] (.slice none 0 0) W' []) :=
    (CF.out s (Nat.le_refl _) w (Below.refl _ w)).mono fun e W' ⟨h1, h2⟩ => ⟨h1, rfl, ⟨rfl, fun k u hk => by simp at hk⟩, World.ownsRow_nil _ _ _ _, h2⟩
  clear hE
  go_enter Tryz.func130, Tryz.ntmps130
  go_wp2_with (go_at_call 140; refine CF0.out.mono ?_; clear CF0; rintro e w1 ⟨rfl, ht⟩)
  go_loopw [0, 3, 4] (fun t0 t3 t4 wr => ∃ r : ByteArray, t0 = .string r ∧ t4 = .int .i64 (fe r) ∧ r.size ≤ s.size ∧ Hid (∃ pre xs, TL w s r pre t3 wr xs)) (fun t0 _ _ _ => match t0 with | .string r => r.size | _ => 0)
  case atStart => exact ⟨s, rfl, rfl, Nat.le_refl _, [], [], ht⟩
  case round =>
    clear ht
    obtain ⟨r, rfl, rfl, hr, HT⟩ := hrel
    obtain ⟨pre, xs, ht⟩ := HT.out
    clear HT
    have hln := ht.len
    have HTL : Hid _ := ht
    have hbw := ht.bel.size
    clear ht
    obtain ⟨N, hN⟩ : ∃ N, pre.length = N := ⟨_, rfl⟩
    rw [hN] at hln
    by_cases c : fe r < r.size
    · have hfe : 0 < fe r := by rcases fe_ok r with k | k <;> omega
      obtain ⟨n, hn⟩ : ∃ n, fe r = n := ⟨_, rfl⟩
      rw [hn] at c hfe
      have hcut := cuts_on (s := r) (by omega)
      rw [hn] at hcut ⊢
      obtain ⟨x, hx⟩ : ∃ x, r.extract 0 n = x := ⟨_, rfl⟩
      obtain ⟨r', hr'⟩ : ∃ r', r.extract n r.size = r' := ⟨_, rfl⟩
      have z1 : x.size ≤ s.size := by rw [← hx, size_extract _ _ _ (by omega)]; omega
      have z2 : r'.size < r.size := by rw [← hr', size_extract _ _ _ (Nat.le_refl _)]; omega
      have z3 : r'.size ≤ s.size := by omega
      rw [hx, hr'] at hcut
      have b1 : r.size ≤ 1099511627776 := by omega
      have C1 : Hid (∀ t3, TL w s r pre t3 wr xs → Calls Tryz.prog 141 #[.string x] wr fun e W' => ∃ b, e = .returned (.iface 187 (.pointer (some ⟨b, 0, none⟩))) ∧ Hid (At W' (.leaf x) (lfv b) ∧ TL w s r pre t3 W' xs)) := fun t3 ht => (CL.out x z1 wr ht.bel).mono fun e W' ⟨v, h1, h2, h3⟩ => ⟨v, h1, h2, ht.below h3⟩
      have C2 : Hid (∀ W, Below w.heap.size w W → Calls Tryz.prog 140 #[.string r'] W fun e W' => e = .returned (.int .i64 (fe r')) ∧ Below W.heap.size W W') := fun W h => CF.out r' z3 W h
      have HN : Hid (pre.length = N) := hN
      have HC : Hid (cuts r = x :: cuts r') := hcut
      clear CF CL CT hcut hN
      go_wp2_with (first | (go_at_call 141; refine (C1.out _ HTL.out).mono ?_; clear C1 HTL; rintro e w2 ⟨b2, rfl, H2⟩; have HR : Hid ((w2.alloc (.cells #[(.iface 187 (.pointer (some ⟨b2, 0, none⟩)))] 168)).ownsRow w.heap.size 168 1 _ N xs) := (HN.out ▸ H2.out.2.row.alloc _); have hb2 := H2.out.2.bel.size) | (at_builtin; refine wpList_append_own _ rfl _ _ 184 rfl w.heap.size 168 i0 _ 1 16 Tryz.underlying184 hi hz0 hz1 hz2 rfl (by decide) _ N _ rfl HR.out ⟨w2.heap.size, 0, none⟩ 1 1 [(.iface 187 (.pointer (some ⟨b2, 0, none⟩)))] rfl rfl (one_new _ _ _) (lfv_one H2.out.1) (by unfold maxLen; omega) (by omega) (by simp; omega) ?_; intro v3 w3 hrow3 hg3 _; have HB3 : Hid (Below w.heap.size w w3) := ((H2.out.2.bel.alloc hb2 _).grown hg3 (by simp; omega) (fun j e => (HR.out.lt j e).1)); have HL3 : Hid (LfA w3 (pre ++ [x]) (xs ++ [(.iface 187 (.pointer (some ⟨b2, 0, none⟩)))])) := ((H2.out.2.lf.below ((Below.refl _ w2).alloc (Nat.le_refl _) _)).snoc (H2.out.1.below ((Below.refl _ w2).alloc (Nat.le_refl _) _)) HR.out hg3); have HR3 : Hid (w3.ownsRow w.heap.size 168 1 v3 (N + 1) (xs ++ [(.iface 187 (.pointer (some ⟨b2, 0, none⟩)))])) := hrow3; have HCC : Hid (cuts s = pre ++ cuts r) := H2.out.2.cut; clear hrow3 hg3 HR H2) | (go_at_call 140; refine (C2.out _ HB3.out).mono ?_; clear C2; rintro e w4 ⟨rfl, hb4⟩))
      refine ⟨⟨r', rfl, rfl, z3, pre ++ [x], xs ++ [(.iface 187 (.pointer (some ⟨b2, 0, none⟩)))], ?_, HL3.out.below hb4, ?_, Below.on HB3.out hb4⟩, by simpa using z2⟩
      · rw [HCC.out, HC.out]; simp
      · rw [List.length_append, HN.out]; exact row_belowN HR3.out hb4
    · have hcut := cuts_end c
      have C1 : Hid (∀ t3, TL w s r pre t3 wr xs → Calls Tryz.prog 141 #[.string r] wr fun e W' => ∃ b, e = .returned (.iface 187 (.pointer (some ⟨b, 0, none⟩))) ∧ Hid (At W' (.leaf r) (lfv b) ∧ TL w s r pre t3 W' xs)) := fun t3 ht => (CL.out r hr wr ht.bel).mono fun e W' ⟨v, h1, h2, h3⟩ => ⟨v, h1, h2, ht.below h3⟩
      have HN : Hid (pre.length = N) := hN
      have HC : Hid (cuts r = [r]) := hcut
      clear CF CL hcut hN
      go_wp2_with (first | (go_at_call 141; refine (C1.out _ HTL.out).mono ?_; clear C1 HTL; rintro e w2 ⟨b2, rfl, H2⟩; have HR : Hid ((w2.alloc (.cells #[(.iface 187 (.pointer (some ⟨b2, 0, none⟩)))] 168)).ownsRow w.heap.size 168 1 _ N xs) := (HN.out ▸ H2.out.2.row.alloc _); have hb2 := H2.out.2.bel.size) | (at_builtin; refine wpList_append_own _ rfl _ _ 184 rfl w.heap.size 168 i0 _ 1 16 Tryz.underlying184 hi hz0 hz1 hz2 rfl (by decide) _ N _ rfl HR.out ⟨w2.heap.size, 0, none⟩ 1 1 [(.iface 187 (.pointer (some ⟨b2, 0, none⟩)))] rfl rfl (one_new _ _ _) (lfv_one H2.out.1) (by unfold maxLen; omega) (by omega) (by simp; omega) ?_; intro v3 w3 hrow3 hg3 _; have HB3 : Hid (Below w.heap.size w w3) := ((H2.out.2.bel.alloc hb2 _).grown hg3 (by simp; omega) (fun j e => (HR.out.lt j e).1)); have HL3 : Hid (LfA w3 (pre ++ [r]) (xs ++ [(.iface 187 (.pointer (some ⟨b2, 0, none⟩)))])) := ((H2.out.2.lf.below ((Below.refl _ w2).alloc (Nat.le_refl _) _)).snoc (H2.out.1.below ((Below.refl _ w2).alloc (Nat.le_refl _) _)) HR.out hg3); have HCC : Hid (cuts s = pre ++ [r]) := (by show cuts s = _; rw [H2.out.2.cut, HC.out]); obtain ⟨g3, cap3, rfl⟩ := ownsRow_succ hrow3; have HRD : Hid (RdT w3 (.slice (some ⟨g3, 0, none⟩) (N + 1) cap3) ((cuts s).map .leaf)) := (by show RdT _ _ _; rw [HCC.out]; exact rdt_of HL3.out (by simp [HN.out]) hrow3); clear hrow3 hg3 HR H2) | (go_at_call 142; refine (CT.out _ _ HRD.out HB3.out).mono ?_; clear CT; rintro e w4 ⟨v4, rfl, h4⟩))
      go_ret
      exact ⟨_, rfl, h4⟩
end Go.Proofs.YtplieccalmkloaaGreatDoor
namespace Go.Proofs.YtplieccalmkloaaGreatDoor
open Go.RowKit Go.Shelf Bod Wid

set_option maxRecDepth 100000 in
set_option maxHeartbeats 1000000 in
theorem laid_any {w : World} {l r : Tr} {s : ByteArray} {x y : Value} (hl : At w l x) (hr : At w r y) (fl : Fine l) (fr : Fine r) (al : Avl l) (ar : Avl r) (hs : l.text.size + s.size + r.text.size ≤ B40) (hE : Ev w) :
    Calls Tryz.prog 209 #[x, .string s, y] w (Mk w (lay l s r)) := by
  obtain ⟨t1, t2, t3, -, -⟩ := tof_ok s
  obtain ⟨f1, f2, -⟩ := lnk_fine fl t1 al t2
  have f3 := lnk_text fl t1 al t2
  rw [t3] at f3
  have z := congrArg ByteArray.size f3
  rw [size_app] at z
  have K1 : Hid (Calls Tryz.prog 130 #[.string s] w fun e W' => ∃ v, e = .returned v ∧ Hid (At W' (tof s) v ∧ Below w.heap.size w W')) := (treeOf_any s (by omega) w hE).mono fun e W' ⟨v, h1, h2, h3⟩ => ⟨v, h1, h2, h3⟩
  have K2 : Hid (∀ W v, Hid (At W (tof s) v ∧ Below w.heap.size w W) → Calls Tryz.prog 213 #[x, v] W fun e W' => ∃ v, e = .returned v ∧ Hid (At W' (lnk l (tof s)) v ∧ Below w.heap.size w W')) := fun W v ⟨h1, hW⟩ =>
    (link_any (hl.below hW) h1 fl t1 al t2 (by rw [t3]; omega) (hE.below hW)).mono fun e W' ⟨v, h1, h2, h3⟩ => ⟨v, h1, h2, Below.on hW h3⟩
  have K3 : Hid (∀ W v, Hid (At W (lnk l (tof s)) v ∧ Below w.heap.size w W) → Calls Tryz.prog 213 #[v, y] W (Mk w (lay l s r))) := fun W v ⟨h1, hW⟩ =>
    (link_any h1 (hr.below hW) f1 fr f2 ar (by omega) (hE.below hW)).mono fun e W' ⟨v, h1, h2, h3⟩ => ⟨v, h1, h2, Below.on hW h3⟩
  generalize lay l s r = L at K3 ⊢
  clear hl hr fl fr al ar hs hE t1 t2 t3 f1 f2 f3 z
  go_enter Tryz.func209, Tryz.ntmps209
  go_wp2_with (first | (go_at_call 130; refine K1.out.mono ?_; clear K1; rintro e w1 ⟨v1, rfl, h1⟩) | (go_at_call 213; refine (K2.out _ _ h1).mono ?_; clear K2; rintro e w2 ⟨v2, rfl, h2⟩) | (go_at_call 213; refine (K3.out _ _ h2).mono ?_; clear K3; rintro e w3 ⟨v3, rfl, h3⟩))
  go_ret
  exact ⟨_, rfl, h3⟩
/-- v is a rope with the tree t -/
def Rp (w : World) (t : Tr) (v : Value) : Prop :=
  (v = .pointer none ∧ t = .leaf noB) ∨ ∃ b x, v = .pointer (some ⟨b, 0, none⟩) ∧ w.heap[b]? = some (.cells #[x] 171 (0, 0)) ∧ ((x = .nilIface ∧ t = .leaf noB) ∨ At w t x)
theorem Rp.below {w W : World} {t : Tr} {v : Value} (h : Rp w t v) (hb : Below w.heap.size w W) : Rp W t v := by
  rcases h with h | ⟨b, x, h1, h2, h3⟩
  · exact .inl h
  · exact .inr ⟨b, x, h1, (hb.block _ (Array.getElem?_eq_some_iff.1 h2).1).trans h2, h3.imp id (fun h => h.below hb)⟩
theorem eq_nil (T : TypeId) (p : Value) (W : World) : (binOp .eql 168 (.iface T p) .nilIface).run Tryz.prog W = .ok (.bool false) W := by kernel_rfl
set_option maxRecDepth 100000 in
set_option maxHeartbeats 1000000 in
theorem rtree_any {w : World} {t : Tr} {v : Value} (h : Rp w t v) : Calls Tryz.prog 131 #[v] w (Mk w t) := by
  have K1 : Hid (Calls Tryz.prog 143 #[] w (Mk w (.leaf noB))) := eleaf_any w
  rcases h with ⟨rfl, rfl⟩ | ⟨b, x, rfl, h2, ⟨rfl, rfl⟩ | h3⟩
  · go_enter Tryz.func131, Tryz.ntmps131
    go_wp2_with (go_at_call 143; refine K1.out.mono ?_; clear K1; rintro e w1 ⟨v1, rfl, h1⟩)
    go_ret
    exact ⟨_, rfl, h1⟩
  · have c0 : w.cell? ⟨b, 0, none⟩ = some .nilIface := by unfold World.cell?; rw [h2]; rfl
    have hb := (Array.getElem?_eq_some_iff.1 h2).1
    clear h2
    go_enter Tryz.func131, Tryz.ntmps131
    go_wp2_with (go_at_call 143; refine K1.out.mono ?_; clear K1; rintro e w1 ⟨v1, rfl, h1⟩)
    go_ret
    exact ⟨_, rfl, h1⟩
  · have HA : Hid (At w t x) := h3
    obtain ⟨T, a, fS, fP, fT, p, rfl, -, -, -, -, -, -, -⟩ := h3.nd
    have c0 : w.cell? ⟨b, 0, none⟩ = some (.iface T (.pointer (some a))) := by unfold World.cell?; rw [h2]; rfl
    have hb := (Array.getElem?_eq_some_iff.1 h2).1
    have he := fun W => eq_nil T (.pointer (some a)) W
    clear h2 h3 K1
    go_enter Tryz.func131, Tryz.ntmps131
    go_wp2
    go_ret
    exact ⟨_, rfl, HA.out, Below.refl _ w⟩
/-- what a call that makes a rope leaves -/
abbrev MkR (w : World) (t : Tr) (e : Ending) (W' : World) : Prop := ∃ b x, e = .returned (.pointer (some ⟨b, 0, none⟩)) ∧ W'.heap[b]? = some (.cells #[x] 171 (0, 0)) ∧ At W' t x ∧ Below w.heap.size w W'
set_option maxRecDepth 100000 in
set_option maxHeartbeats 1000000 in
theorem rnew_any (s : ByteArray) (hs : s.size ≤ B40) (w : World) (hE : Ev w) : Calls Tryz.prog 106 #[.string s] w (MkR w (tof s)) := by
  have K1 : Hid (Calls Tryz.prog 130 #[.string s] w fun e W' => ∃ T p, e = .returned (.iface T p) ∧ Hid (At W' (tof s) (.iface T p) ∧ Below w.heap.size w W')) := (treeOf_any s hs w hE).mono fun e W' ⟨v, h1, h2, h3⟩ => by
    obtain ⟨T, a, _, _, _, _, rfl, -⟩ := h2.nd
    exact ⟨T, _, h1, h2, h3⟩
  clear hE
  go_enter Tryz.func106, Tryz.ntmps106
  go_wp2_with (go_at_call 130; refine K1.out.mono ?_; clear K1; rintro e w1 ⟨T, p, rfl, h1⟩)
  go_ret
  have hb := (Below.refl _ w1).alloc (Nat.le_refl _) (.cells #[.iface T p] 171)
  exact ⟨_, _, rfl, World.alloc_heap_new w1 _, h1.out.1.below hb, Below.on h1.out.2 hb⟩
set_option maxRecDepth 100000 in
set_option maxHeartbeats 1000000 in
theorem rlen_any {w : World} {t : Tr} {v : Value} (h : Rp w t v) : Calls Tryz.prog 201 #[v] w fun e W' => e = .returned (.int .i64 t.text.size) ∧ Below w.heap.size w W' := by
  obtain ⟨m, hm⟩ : ∃ m, smr t.text = m := ⟨_, rfl⟩
  obtain ⟨n, hn⟩ : ∃ n, t.text.size = n := ⟨_, rfl⟩
  have y1 := fby (m := m) (n := n) (by rw [← hm, ← hn]; rfl)
  have K1 : Hid (Calls Tryz.prog 131 #[v] w fun e W' => ∃ T a fS, e = .returned (.iface T (.pointer (some a))) ∧ (∀ W, (method 334 T (.pointer (some a)) "Sum").run Tryz.prog W = .ok (fS, .pointer (some a)) W) ∧ (∀ args W, (callFunc fS args).run Tryz.prog W = .ok (.enter fS args) W) ∧ Hid (Calls Tryz.prog fS #[.pointer (some a)] W' fun e X => e = .returned (sv m) ∧ Below w.heap.size w X)) := (rtree_any h).mono fun e W' ⟨v, h1, h2, h3⟩ => by
    obtain ⟨T, a, fS, _, _, _, rfl, ⟨m1, m2⟩, -, -, S1, -⟩ := h2.nd
    exact ⟨T, a, fS, h1, m1, m2, (S1.out _ (Below.refl _ _)).mono fun e X ⟨k1, k2⟩ => ⟨by rw [k1, hm], Below.on h3 k2⟩⟩
  rw [hn]
  clear h hm hn
  go_enter Tryz.func201, Tryz.ntmps201
  go_wp2_with (first | (go_at_call 131; refine K1.out.mono ?_; clear K1; rintro e w1 ⟨T, a, fS, rfl, m1, m2, S1⟩) | (go_at_fn fS; refine S1.out.mono ?_; clear S1; rintro e w2 ⟨rfl, hb2⟩))
  go_ret
  exact ⟨rfl, hb2⟩
theorem bef_sz {t : Tr} {n : Nat} (h : Good t) (hn : n ≤ t.text.size) : (bef t n).1.text.size + (bef t n).2.size = n := by
  have := congrArg ByteArray.size (bef_ok h hn).2.2.1
  rw [size_app, size_extract _ _ _ hn] at this
  omega
theorem aft_sz {t : Tr} {n : Nat} (h : Good t) (hn : n ≤ t.text.size) : (aft t n).1.size + (aft t n).2.text.size = t.text.size - n := by
  have := congrArg ByteArray.size (aft_ok h hn).2.2.1
  rw [size_app, size_extract _ _ _ (Nat.le_refl _)] at this
  omega
/-- a slice of ropes -/
def RdP (W : World) (v : Value) (ts : List Tr) : Prop :=
  ∃ a cap, v = .slice a ts.length cap ∧ ts.length ≤ cap ∧ (ts ≠ [] → ∃ g o, a = some ⟨g, o, none⟩ ∧ g < W.heap.size ∧ ∀ k t, ts[k]? = some t → ∃ x, W.cell? ⟨g, o + k, none⟩ = some x ∧ Rp W t x)
theorem RdP.below {w W : World} {v : Value} {ts : List Tr} (h : RdP w v ts) (hb : Below w.heap.size w W) : RdP W v ts := by
  obtain ⟨a, cap, h1, h2, h3⟩ := h
  refine ⟨a, cap, h1, h2, fun hne => ?_⟩
  obtain ⟨g, o, e, h4, h5⟩ := h3 hne
  refine ⟨g, o, e, Nat.lt_of_lt_of_le h4 hb.size, fun k t hk => ?_⟩
  obtain ⟨x, hx, hA⟩ := h5 k t hk
  exact ⟨x, (hb.cell (p := ⟨g, _, none⟩) h4).trans hx, hA.below hb⟩
theorem RdP.take {w : World} {g o len cap k : Nat} {ts : List Tr} (h : RdP w (.slice (some ⟨g, o, none⟩) len cap) ts) (hk : k ≤ ts.length) : RdP w (.slice (some ⟨g, o, none⟩) k cap) (ts.take k) := by
  obtain ⟨a, cap', h1, h2, h3⟩ := h
  cases h1
  refine ⟨_, cap, by rw [List.length_take, Nat.min_eq_left hk], by rw [List.length_take]; omega, fun hne => ?_⟩
  obtain ⟨g', o', e, h4, h5⟩ := h3 (fun e => hne (by rw [e]; simp))
  cases e
  refine ⟨g, o, rfl, h4, fun j t hj => h5 j t ?_⟩
  rw [List.getElem?_take] at hj
  split at hj
  · exact hj
  · cases hj
theorem RdP.drop {w : World} {g o len cap k : Nat} {ts : List Tr} (h : RdP w (.slice (some ⟨g, o, none⟩) len cap) ts) (hk : k ≤ ts.length) : RdP w (.slice (some ⟨g, o + k, none⟩) (len - k) (cap - k)) (ts.drop k) := by
  obtain ⟨a, cap', h1, h2, h3⟩ := h
  cases h1
  refine ⟨_, cap - k, by rw [List.length_drop], by rw [List.length_drop]; omega, fun hne => ?_⟩
  obtain ⟨g', o', e, h4, h5⟩ := h3 (fun e => hne (by rw [e]; simp))
  cases e
  refine ⟨g, o + k, rfl, h4, fun j t hj => ?_⟩
  rw [List.getElem?_drop] at hj
  obtain ⟨x, hx, hA⟩ := h5 _ _ hj
  exact ⟨x, by rw [Nat.add_assoc]; exact hx, hA⟩
end Go.Proofs.YtplieccalmkloaaGreatDoor
namespace Go.Proofs.YtplieccalmkloaaGreatDoor
open Go.RowKit Go.Shelf Bod Wid

theorem wr_of {b hi : Nat} {W W' : World} (h : Below W.heap.size W W') : Wr b hi W W' := ⟨h.os, h.tape, h.output, h.size, fun k _ hk _ _ => (h.block k (Array.getElem?_eq_some_iff.1 hk).1).trans hk⟩
/-- a tree stays where a builder is written to -/
theorem At.wr {b hi : Nat} {cs : Array Value} {w W : World} (hk : w.heap[b]? = some (.cells cs 138 (0, 0))) (h : Wr b hi w W) : ∀ {t : Tr} {v : Value}, At w t v → At W t v
  | .leaf s, v, ⟨c, h1, h2⟩ => ⟨c, h1, h.2.2.2.2 _ _ h2 (fun e => by rw [e, hk] at h2; cases h2) (fun _ vs fz e => by cases e)⟩
  | .knot l r, v, ⟨c, x, y, h1, h2, h3, h4⟩ => ⟨c, x, y, h1, h.2.2.2.2 _ _ h2 (fun e => by rw [e, hk] at h2; cases h2) (fun _ vs fz e => by cases e), At.wr hk h h3, At.wr hk h h4⟩
theorem Bld.below {b hi : Nat} {bs : List Value} {W W' : World} {p v : Value} (h : Bld b hi bs W p v) (hb : Below W.heap.size W W') : Bld b hi bs W' p v :=
  h.kept (row := none) ⟨hb.os, hb.tape, hb.output, hb.size, fun k hk _ => hb.block k hk⟩ (by simp) (by simp)
/-- the bytes between two numbers, which may lie outside -/
def slc (s : ByteArray) (f t : Int) : ByteArray := s.extract (max f 0).toNat (min t s.size).toNat
theorem ext_app (a b : ByteArray) (i j : Nat) : (a ++ b).extract i j = a.extract i (min j a.size) ++ b.extract (i - a.size) (j - a.size) := by
  apply ext_data
  rw [data_extract', data_app, data_app, data_extract', data_extract']
  have hl : a.data.toList.length = a.size := rfl
  rw [List.drop_append, List.take_append, hl, List.length_drop, hl]
  congr 1
  · by_cases h : j ≤ a.size
    · rw [Nat.min_eq_left h]
    · rw [Nat.min_eq_right (by omega), List.take_of_length_le (by rw [List.length_drop, hl]; omega), List.take_of_length_le (by rw [List.length_drop, hl]; omega)]
  · congr 1
    omega
theorem ext_nil {a : ByteArray} {i j : Nat} (h : j ≤ i) : a.extract i j = noB := noB_of (by simp; omega)
theorem slc_nil {s : ByteArray} {f t : Int} (h : min t (s.size : Int) ≤ max f 0) : slc s f t = noB := ext_nil (by omega)
theorem slc_app (a b : ByteArray) (f t : Int) (hf : 0 ≤ f) (ht : t ≤ (a.size + b.size : Nat)) : slc (a ++ b) f t = slc a f t ++ slc b (f - a.size) (t - a.size) := by
  unfold slc
  rw [ext_app, size_app]
  congr 1
  · congr 1
    omega
  · by_cases h : t ≤ (a.size : Int)
    · rw [ext_nil (by omega), ext_nil (by omega)]
    · congr 1 <;> omega
theorem strCells_app (a b : ByteArray) : Lib.strCells (a ++ b) = Lib.strCells a ++ Lib.strCells b := by
  unfold Lib.strCells
  rw [data_app]
  simp
set_option maxRecDepth 100000 in
set_option maxHeartbeats 1000000 in
theorem write_any : ∀ (k : Nat) {t : Tr} {w : World} {v : Value} {b hi : Nat} {bs : List Value} {p q : Value} {f g : Int}, t.lv.length ≤ k → At w t v → t.text.size ≤ B40 → Bld b hi bs w p q → b < hi → hi ≤ w.heap.size → bs.length + t.text.size ≤ 35184372088832 →
    (-35184372088832 ≤ f ∧ f ≤ 35184372088832) → (-35184372088832 ≤ g ∧ g ≤ 35184372088832) →
    Calls Tryz.prog 144 #[.pointer (some ⟨b, 0, none⟩), v, .int .i64 f, .int .i64 g] w fun e W' => e = .returned (.tuple #[]) ∧ (∃ p q, Bld b hi (bs ++ Lib.strCells (slc t.text f g)) W' p q) ∧ Wr b hi w W'
  | 0, t, _, _, _, _, _, _, _, _, _, hk, _, _, _, _, _, _, _, _ => by have := lv_pos t; omega
  | k + 1, t, w, v, b, hi, bs, p, q, f, g, hk, h, hs, hB, hb, hw, hl, hf, hg => by
    unfold B40 at hs
    obtain ⟨T, a, fS, fP, fT, pv, rfl, ⟨m1, m2⟩, ⟨m3, m4⟩, ⟨m5, m6⟩, S1, P1, X1, hpv⟩ := h.nd
    obtain ⟨n, hn⟩ : ∃ n, t.text.size = n := ⟨_, rfl⟩
    obtain ⟨m, hm⟩ : ∃ m, smr t.text = m := ⟨_, rfl⟩
    have y1 := fby (m := m) (n := n) (by rw [← hm, ← hn]; rfl)
    rw [hm] at S1
    obtain ⟨f', hf'⟩ : ∃ f' : Int, max f 0 = f' := ⟨_, rfl⟩
    obtain ⟨g', hg'⟩ : ∃ g' : Int, min g (n : Int) = g' := ⟨_, rfl⟩
    have S2 : Hid (Calls Tryz.prog fS #[.pointer (some a)] w fun e W' => e = .returned (sv m) ∧ Hid (Below w.heap.size w W')) := S1.out w (Below.refl _ w)
    have P2 : Hid (∀ W, Hid (Below w.heap.size w W) → Calls Tryz.prog fP #[.pointer (some a)] W fun e W' => e = .returned pv ∧ Hid (Below w.heap.size w W')) := fun W hW => (P1.out W hW).mono fun e W' ⟨h1, h2⟩ => ⟨h1, Below.on hW h2⟩
    by_cases c : g' ≤ f'
    · have e0 : slc t.text f g = noB := slc_nil (by omega)
      rw [e0]
      have HF : Hid (∀ W, Below w.heap.size w W → Bld b hi (bs ++ Lib.strCells noB) W p q) := fun W hW => by
        rw [show Lib.strCells noB = [] from rfl, List.append_nil]
        exact hB.below hW
      clear h hs hB hb hw hl S1 P1 X1 hpv hn hm e0 P2 hk
      go_enter Tryz.func144, Tryz.ntmps144
      go_wp2_with (go_at_fn fS; refine S2.out.mono ?_; clear S2; rintro e w1 ⟨rfl, h1⟩)
      exact bodyPost_ret (v := .tuple #[]) (by simp [results, Tryz.results144, go_sem]) rfl ⟨rfl, ⟨p, q, HF.out _ h1.out⟩, wr_of h1.out⟩
    · match t, hk, h, hs, hl, hn, hm, hpv, X1 with
      | .leaf s, hk, h, hs, hl, hn, hm, hpv, X1 =>
        have hpv : pv = _ := hpv
        subst hpv
        have hn : s.size = n := hn
        obtain ⟨i, hi1⟩ : ∃ i : Nat, f'.toNat = i := ⟨_, rfl⟩
        obtain ⟨j, hj1⟩ : ∃ j : Nat, g'.toNat = j := ⟨_, rfl⟩
        have e1 : f' = (i : Int) := by omega
        have e2 : g' = (j : Int) := by omega
        subst e1
        subst e2
        have e0 : slc s f g = s.extract i j := by unfold slc; rw [hf', hn, hg']; rfl
        have X2 : Hid (∀ W, Hid (Below w.heap.size w W) → Calls Tryz.prog fT #[.pointer (some a)] W fun e W' => e = .returned (.string s) ∧ Hid (Below w.heap.size w W')) := fun W hW => (X1.out W hW).mono fun e W' ⟨h1, h2⟩ => ⟨h1, Below.on hW h2⟩
        have hl' : bs.length + s.size ≤ 35184372088832 := hl
        have z : (s.extract i j).size ≤ s.size := by rw [size_extract _ _ _ (by omega)]; omega
        have W1 : Hid (∀ W, Hid (Below w.heap.size w W) → Calls Tryz.prog 156 #[.pointer (some ⟨b, 0, none⟩), .string (s.extract i j)] W fun e W' => (∃ u, e = .returned u) ∧ Hid ((∃ p q, Bld b hi (bs ++ Lib.strCells (slc s f g)) W' p q) ∧ Wr b hi w W')) := fun W hW => by
          rw [e0]
          exact (wstr_any _ (hB.below hW) hb (Nat.le_trans hw hW.out.size) (by omega)).mono fun e W' ⟨h1, h2, h3⟩ => ⟨h1, h2, (wr_of hW).trans h3⟩
        have b1 : (i : Int) ≤ j := by omega
        have b2 : j ≤ s.size := by omega
        have b3 : s.size ≤ 1099511627776 := hs
        show Calls _ _ _ _ fun e W' => e = .returned (.tuple #[]) ∧ (∃ p q, Bld b hi (bs ++ Lib.strCells (slc s f g)) W' p q) ∧ Wr b hi w W'
        clear h hs hB hb hw hl S1 P1 X1 hm e0 hl' z hi1 hj1 hk
        go_enter Tryz.func144, Tryz.ntmps144
        go_wp2_with (first | (go_at_fn fS; refine S2.out.mono ?_; clear S2; rintro e w1 ⟨rfl, h1⟩) | (go_at_fn fP; refine (P2.out _ h1).mono ?_; clear P2 h1; rintro e w2 ⟨rfl, h1⟩) | (go_at_fn fT; refine (X2.out _ h1).mono ?_; clear X2 h1; rintro e w3 ⟨rfl, h1⟩) | (go_at_call 156; refine (W1.out _ h1).mono ?_; clear W1 h1; rintro e w4 ⟨⟨u, rfl⟩, h4⟩))
        exact bodyPost_ret (v := .tuple #[]) (by simp [results, Tryz.results144, go_sem]) rfl ⟨rfl, h4.out⟩
      | .knot l r, hk, h, hs, hl, hn, hm, hpv, X1 =>
        have hkl : l.lv.length + r.lv.length ≤ k + 1 := by rw [← List.length_append]; exact hk
        have hk1 := lv_pos l
        have hk2 := lv_pos r
        obtain ⟨x1, x2, rfl, a1, a2⟩ := hpv
        have hn : (l.text ++ r.text).size = n := hn
        have hl' : bs.length + (l.text ++ r.text).size ≤ 35184372088832 := hl
        have hs' : (l.text ++ r.text).size ≤ 1099511627776 := hs
        rw [size_app] at hn hl' hs'
        obtain ⟨U, d, gS, gP, gT, _, rfl, ⟨m7, m8⟩, -, -, S3, -, -, -⟩ := a1.nd
        obtain ⟨nl, hnl⟩ : ∃ n, l.text.size = n := ⟨_, rfl⟩
        obtain ⟨ml, hml⟩ : ∃ m, smr l.text = m := ⟨_, rfl⟩
        have y2 := fby (m := ml) (n := nl) (by rw [← hml, ← hnl]; rfl)
        have S4 : Hid (∀ W, Hid (Below w.heap.size w W) → Calls Tryz.prog gS #[.pointer (some d)] W fun e W' => e = .returned (sv ml) ∧ Hid (Below w.heap.size w W')) := fun W hW => (S3.out W hW).mono fun e W' ⟨h1, h2⟩ => ⟨by rw [h1, hml], Below.on hW h2⟩
        have hbs : ∀ z : ByteArray, (Lib.strCells z).length = z.size := fun z => by simp [Lib.strCells]
        have zl : (slc l.text f' g').size ≤ l.text.size := by unfold slc; rw [size_extract _ _ _ (by omega)]; omega
        have K1 : Hid (∀ W, Hid (Below w.heap.size w W) → Calls Tryz.prog 144 #[.pointer (some ⟨b, 0, none⟩), .iface U (.pointer (some d)), .int .i64 f', .int .i64 g'] W fun e W' => e = .returned (.tuple #[]) ∧ Hid ((∃ p q, Bld b hi (bs ++ Lib.strCells (slc l.text f' g')) W' p q) ∧ Wr b hi w W')) := fun W hW =>
          (write_any k (by omega) (a1.below hW) (by unfold B40; omega) (hB.below hW) hb (Nat.le_trans hw hW.out.size) (by omega) (by omega) (by omega)).mono fun e W' ⟨h1, h2, h3⟩ => ⟨h1, h2, (wr_of hW).trans h3⟩
        have e0 : slc (Tr.knot l r).text f g = slc l.text f' g' ++ slc r.text (f' - nl) (g' - nl) := by
          have : slc (Tr.knot l r).text f g = slc (l.text ++ r.text) f' g' := by
            show slc (l.text ++ r.text) f g = _
            unfold slc
            rw [size_app, hn, hf', hg']
            congr 1 <;> omega
          rw [this, slc_app _ _ _ _ (by omega) (by omega), hnl]
        have K2 : Hid (∀ W, Hid ((∃ p q, Bld b hi (bs ++ Lib.strCells (slc l.text f' g')) W p q) ∧ Wr b hi w W) → Calls Tryz.prog 144 #[.pointer (some ⟨b, 0, none⟩), x2, .int .i64 (f' - nl), .int .i64 (g' - nl)] W fun e W' => e = .returned (.tuple #[]) ∧ Hid ((∃ p q, Bld b hi (bs ++ Lib.strCells (slc (Tr.knot l r).text f g)) W' p q) ∧ Wr b hi w W')) := fun W ⟨⟨p, q, h1⟩, hW⟩ => by
          rw [e0, strCells_app, ← List.append_assoc]
          exact (write_any k (by omega) (a2.wr hB.box hW) (by unfold B40; omega) h1 hb (Nat.le_trans hw hW.2.2.2.1) (by rw [List.length_append, hbs]; omega) (by omega) (by omega)).mono fun e W' ⟨h1, h2, h3⟩ => ⟨h1, h2, hW.trans h3⟩
        have b1 : nl ≤ 1099511627776 := by omega
        generalize (Tr.knot l r).text = TX at K2 ⊢
        have b2 : 0 ≤ f' ∧ f' ≤ 35184372088832 := by omega
        have b3 : g' ≤ 35184372088832 := by omega
        have c' : ¬ g' ≤ f' := c
        clear h hs hB hb hw hl S1 P1 X1 hm e0 hl' hs' S3 zl hbs a1 a2 hml hnl hkl hk1 hk2 hk
        go_enter Tryz.func144, Tryz.ntmps144
        go_wp2_with (first | (go_at_fn fS; refine S2.out.mono ?_; clear S2; rintro e w1 ⟨rfl, h1⟩) | (go_at_fn fP; refine (P2.out _ h1).mono ?_; clear P2 h1; rintro e w2 ⟨rfl, h1⟩) | (go_at_fn gS; refine (S4.out _ h1).mono ?_; clear S4 h1; rintro e w3 ⟨rfl, h1⟩) | (go_at_call 144; refine (K1.out _ h1).mono ?_; clear K1 h1; rintro e w4 ⟨rfl, h1⟩) | (go_at_call 144; refine (K2.out _ h1).mono ?_; clear K2 h1; rintro e w5 ⟨rfl, h1⟩))
        exact bodyPost_end (v := .tuple #[]) (by simp [results, Tryz.results144, go_sem]) rfl ⟨rfl, h1.out⟩
theorem strCells_bytes (s : ByteArray) : Lib.strCells s = Lib.byteCells s.data.toList := by simp [Lib.strCells, Lib.byteCells]
theorem slc_in {s : ByteArray} {i j : Nat} (h : j ≤ s.size) : slc s i j = s.extract i j := by
  unfold slc
  congr 1 <;> omega
set_option maxRecDepth 100000 in
set_option maxHeartbeats 1000000 in
theorem sliced_any {w : World} {t : Tr} {v : Value} {i j : Nat} (h : At w t v) (hs : t.text.size ≤ B40) (hi : i ≤ j) (hj : j ≤ t.text.size) :
    Calls Tryz.prog 132 #[v, .int .i64 i, .int .i64 j] w fun e W' => e = .returned (.string (t.text.extract i j)) ∧ Below w.heap.size w W' := by
  unfold B40 at hs
  obtain ⟨W0, hW0⟩ : ∃ W0, w.alloc (.cells #[.pointer none, .slice none 0 0] 138) = W0 := ⟨_, rfl⟩
  have hb0 : Below w.heap.size w W0 := by rw [← hW0]; exact (Below.refl _ w).alloc (Nat.le_refl _) _
  have hbk : W0.heap[w.heap.size]? = some (.cells #[.pointer none, .slice none 0 0] 138 (0, 0)) := by rw [← hW0]; exact World.alloc_heap_new w _
  obtain ⟨n, hn⟩ : ∃ n, j - i = n := ⟨_, rfl⟩
  have e1 : (j : Int) - i = (n : Int) := by omega
  have C1 : Hid (Calls Tryz.prog 99 #[.pointer (some ⟨w.heap.size, 0, none⟩), .int .i64 n] W0 fun e W' => e = .returned (.tuple #[]) ∧ Hid (At W' t v ∧ (∃ p q, Bld w.heap.size (w.heap.size + 1) [] W' p q) ∧ Below w.heap.size w W' ∧ w.heap.size + 1 ≤ W'.heap.size)) :=
    (Tryz.Builder_Grow_fresh w.heap.size w.heap.size n W0 (Nat.le_refl _) hbk hb0.size (by omega)).mono fun e W' ⟨h1, ⟨_, q, k1, k2, k3⟩, h3⟩ => by
      have hB : Below w.heap.size w W' := hb0.trans h3
      have hz := (Array.getElem?_eq_some_iff.1 k1).1
      refine ⟨h1, h.below hB, ⟨_, q, k1, ?_, .inr rfl⟩, hB, by omega⟩
      refine ⟨k2.1, k2.2.imp id fun ⟨g, cap, cur, c1, c2, c3⟩ => ⟨g, cap, cur, c1, ?_, c3⟩⟩
      have hne : g ≠ w.heap.size := fun e => k3 (by rw [c1, e]; rfl)
      omega
  have C2 : Hid (∀ W, Hid (At W t v ∧ (∃ p q, Bld w.heap.size (w.heap.size + 1) [] W p q) ∧ Below w.heap.size w W ∧ w.heap.size + 1 ≤ W.heap.size) → Calls Tryz.prog 144 #[.pointer (some ⟨w.heap.size, 0, none⟩), v, .int .i64 i, .int .i64 j] W fun e W' => e = .returned (.tuple #[]) ∧ Hid ((∃ p q, Bld w.heap.size (w.heap.size + 1) (Lib.byteCells (t.text.extract i j).data.toList) W' p q) ∧ Below w.heap.size w W')) := fun W ⟨h1, ⟨p, q, h2⟩, h3, h4⟩ =>
    (write_any _ (Nat.le_refl _) h1 (by unfold B40; omega) h2 (by omega) h4 (by simp; omega) (by omega) (by omega)).mono fun e W' ⟨k1, k2, k3⟩ => by
      rw [List.nil_append, slc_in hj, strCells_bytes] at k2
      refine ⟨k1, k2, h3.trans ⟨k3.1, k3.2.1, k3.2.2.1, k3.2.2.2.1, fun k hk => ?_⟩⟩
      obtain ⟨o, ho⟩ : ∃ o, W.heap[k]? = some o := ⟨_, Array.getElem?_eq_getElem (by omega)⟩
      rw [ho]
      exact k3.2.2.2.2 k o ho (by omega) (fun h => by omega)
  have C3 : Hid (∀ W, Hid ((∃ p q, Bld w.heap.size (w.heap.size + 1) (Lib.byteCells (t.text.extract i j).data.toList) W p q) ∧ Below w.heap.size w W) → Calls Tryz.prog 101 #[.pointer (some ⟨w.heap.size, 0, none⟩)] W fun e W' => e = .returned (.string (t.text.extract i j)) ∧ Below w.heap.size w W') := fun W ⟨⟨p, q, h1⟩, h2⟩ => by
    have hbl : Lib.IsBuilder 138 5 w.heap.size w.heap.size (Lib.byteCells (t.text.extract i j).data.toList) W := by
      have row := row_lower h1.row (show w.heap.size ≤ w.heap.size + 1 by omega)
      have hne : q.ownBlock ≠ some w.heap.size := fun e => by have := h1.far e; omega
      have hbox := h1.box
      rcases h1.adr with rfl | rfl
      · exact .inl ⟨Nat.le_refl _, q, hbox, row, hne⟩
      · exact .inr ⟨Nat.le_refl _, q, hbox, row, hne⟩
    exact (Tryz.Builder_String_any w.heap.size w.heap.size _ W hbl h2.size).mono fun e W' ⟨k1, k2⟩ => ⟨by rw [k1], h2.trans k2⟩
  generalize t.text.extract i j = R at C2 C3 ⊢
  have b1 : j ≤ 1099511627776 := by omega
  clear h hs hj hb0 hbk hn
  go_enter Tryz.func132, Tryz.ntmps132
  go_wp2_with (first | (go_at_call 99; refine C1.out.mono ?_; clear C1; rintro e w1 ⟨rfl, h1⟩) | (go_at_call 144; refine (C2.out _ h1).mono ?_; clear C2 h1; rintro e w2 ⟨rfl, h1⟩) | (go_at_call 101; refine (C3.out _ h1).mono ?_; clear C3 h1; rintro e w3 ⟨rfl, h1⟩))
  go_ret
  exact ⟨rfl, h1⟩
/-- a rope's tree, as a walk takes it -/
theorem rtree_nd {w : World} {t : Tr} {v : Value} (h : Rp w t v) : Calls Tryz.prog 131 #[v] w fun e W' => ∃ T a fS, e = .returned (.iface T (.pointer (some a))) ∧ (∀ W, (method 334 T (.pointer (some a)) "Sum").run Tryz.prog W = .ok (fS, .pointer (some a)) W) ∧ (∀ args W, (callFunc fS args).run Tryz.prog W = .ok (.enter fS args) W) ∧ Hid (∀ W, Below W'.heap.size W' W → Calls Tryz.prog fS #[.pointer (some a)] W fun e X => e = .returned (sv (smr t.text)) ∧ Below W.heap.size W X) ∧ Hid (At W' t (.iface T (.pointer (some a))) ∧ Below w.heap.size w W') := (rtree_any h).mono fun e W' ⟨v, h1, h2, h3⟩ => by
  obtain ⟨T, a, fS, _, _, _, rfl, ⟨m1, m2⟩, -, -, S1, -⟩ := h2.nd
  exact ⟨T, a, fS, h1, m1, m2, S1, h2, h3⟩
set_option maxRecDepth 100000 in
set_option maxHeartbeats 1000000 in
theorem rtext_any {w : World} {t : Tr} {v : Value} (h : Rp w t v) (hs : t.text.size ≤ B40) : Calls Tryz.prog 107 #[v] w fun e W' => e = .returned (.string t.text) ∧ Below w.heap.size w W' := by
  obtain ⟨m, hm⟩ : ∃ m, smr t.text = m := ⟨_, rfl⟩
  obtain ⟨n, hn⟩ : ∃ n, t.text.size = n := ⟨_, rfl⟩
  have y1 := fby (m := m) (n := n) (by rw [← hm, ← hn]; rfl)
  have K1 : Hid (Calls Tryz.prog 131 #[v] w fun e W' => ∃ T a fS, e = .returned (.iface T (.pointer (some a))) ∧ (∀ W, (method 334 T (.pointer (some a)) "Sum").run Tryz.prog W = .ok (fS, .pointer (some a)) W) ∧ (∀ args W, (callFunc fS args).run Tryz.prog W = .ok (.enter fS args) W) ∧ Hid (∀ W, Below W'.heap.size W' W → Calls Tryz.prog fS #[.pointer (some a)] W fun e X => e = .returned (sv m) ∧ Below W.heap.size W X) ∧ Hid (At W' t (.iface T (.pointer (some a))) ∧ Below w.heap.size w W')) := by
    rw [← hm]
    exact rtree_nd h
  have K2 : Hid (∀ W v, Hid (At W t v ∧ Below w.heap.size w W) → Calls Tryz.prog 132 #[v, .int .i64 0, .int .i64 n] W fun e W' => e = .returned (.string t.text) ∧ Below w.heap.size w W') := fun W v ⟨h1, hW⟩ =>
    (sliced_any (i := 0) (j := n) h1 hs (Nat.zero_le _) (by omega)).mono fun e W' ⟨k1, k2⟩ => ⟨by rw [k1, ← hn, ext_all], Below.on hW k2⟩
  generalize t.text = R at K2 ⊢
  clear h hm hn hs
  go_enter Tryz.func107, Tryz.ntmps107
  go_wp2_with (first | (go_at_call 131; refine K1.out.mono ?_; clear K1; rintro e w1 ⟨T, a, fS, rfl, m1, m2, S1, h1⟩) | (go_at_fn fS; refine (S1.out _ (Below.refl _ w1)).mono ?_; clear S1; rintro e w2 ⟨rfl, hb2⟩; have H2 : Hid (At w2 t (.iface T (.pointer (some a))) ∧ Below w.heap.size w w2) := ⟨h1.out.1.below hb2, Below.on h1.out.2 hb2⟩; clear h1 hb2) | (go_at_call 132; refine (K2.out _ _ H2).mono ?_; clear K2 H2; rintro e w3 ⟨rfl, h1⟩))
  go_ret
  exact ⟨rfl, h1⟩
/-- are there bytes from f up to g? -/
def wthn (n : Nat) (f g : Int) : Bool := decide (0 ≤ f) && decide (f ≤ g) && decide (g ≤ (n : Int))
set_option maxRecDepth 100000 in
set_option maxHeartbeats 1000000 in
theorem rwithin_any {w : World} {t : Tr} {v : Value} (h : At w t v) (f g : Int) : Calls Tryz.prog 205 #[v, .int .i64 f, .int .i64 g] w fun e W' => e = .returned (.bool (wthn t.text.size f g)) ∧ Below w.heap.size w W' := by
  obtain ⟨m, hm⟩ : ∃ m, smr t.text = m := ⟨_, rfl⟩
  obtain ⟨n, hn⟩ : ∃ n, t.text.size = n := ⟨_, rfl⟩
  have y1 := fby (m := m) (n := n) (by rw [← hm, ← hn]; rfl)
  obtain ⟨T, a, fS, fP, fT, p, rfl, ⟨m1, m2⟩, -, -, S1, -, -, -⟩ := h.nd
  have S2 : Hid (∀ W, Below w.heap.size w W → Calls Tryz.prog fS #[.pointer (some a)] W fun e W' => e = .returned (sv m) ∧ Below w.heap.size w W') := fun W hW => (S1.out W hW).mono fun e W' ⟨h1, h2⟩ => ⟨by rw [h1, hm], Below.on hW h2⟩
  rw [hn]
  unfold wthn
  clear h hm hn S1
  by_cases c1 : 0 ≤ f
  · by_cases c2 : f ≤ g
    · simp only [decide_eq_true c1, decide_eq_true c2, Bool.true_and]
      go_enter Tryz.func205, Tryz.ntmps205
      go_wp2_with (go_at_fn fS; refine (S2.out _ (Below.refl _ w)).mono ?_; clear S2; rintro e w2 ⟨rfl, hb2⟩)
      all_goals go_ret
      all_goals exact ⟨by simp_all, hb2⟩
    · simp only [decide_eq_true c1, decide_eq_false c2, Bool.true_and, Bool.false_and]
      go_enter Tryz.func205, Tryz.ntmps205
      go_wp2
      go_ret
      exact ⟨by simp_all, Below.refl _ w⟩
  · simp only [decide_eq_false c1, Bool.false_and]
    go_enter Tryz.func205, Tryz.ntmps205
    go_wp2
    go_ret
    exact ⟨by simp_all, Below.refl _ w⟩
end Go.Proofs.YtplieccalmkloaaGreatDoor
namespace Go.Proofs.YtplieccalmkloaaGreatDoor
open Go.RowKit Go.Shelf Bod Wid

theorem Rp.of {w : World} {b : Nat} {x : Value} {t : Tr} (h : w.heap[b]? = some (.cells #[x] 171 (0, 0))) (k : At w t x) : Rp w t (.pointer (some ⟨b, 0, none⟩)) := .inr ⟨b, x, rfl, h, .inr k⟩
/-- the bytes that Slice answers, and its error -/
def slR (s : ByteArray) (f g : Int) : ByteArray × Int := if wthn s.size f g then (s.extract f.toNat g.toNat, 0) else (noB, 1)
set_option maxRecDepth 100000 in
set_option maxHeartbeats 1000000 in
theorem rslice_any {w : World} {t : Tr} {v : Value} (h : Rp w t v) (hs : t.text.size ≤ B40) (f g : Int) : Calls Tryz.prog 204 #[v, .int .i64 f, .int .i64 g] w fun e W' => e = .returned (.tuple #[.string (slR t.text f g).1, .int .i64 (slR t.text f g).2]) ∧ Below w.heap.size w W' := by
  have K1 : Hid (Calls Tryz.prog 131 #[v] w fun e W' => ∃ v, e = .returned v ∧ Hid (At W' t v ∧ Below w.heap.size w W')) := (rtree_any h).mono fun e W' ⟨v, h1, h2, h3⟩ => ⟨v, h1, h2, h3⟩
  have K2 : Hid (∀ W v, Hid (At W t v ∧ Below w.heap.size w W) → Calls Tryz.prog 205 #[v, .int .i64 f, .int .i64 g] W fun e W' => e = .returned (.bool (wthn t.text.size f g)) ∧ Hid (At W' t v ∧ Below w.heap.size w W')) := fun W v ⟨h1, hW⟩ => (rwithin_any h1 f g).mono fun e W' ⟨k1, k2⟩ => ⟨k1, h1.below k2, Below.on hW k2⟩
  unfold slR
  cases hw : wthn t.text.size f g with
  | false =>
    rw [hw] at K2
    simp only [Bool.false_eq_true, if_false]
    clear h hs hw
    go_enter Tryz.func204, Tryz.ntmps204
    go_wp2_with (first | (go_at_call 131; refine K1.out.mono ?_; clear K1; rintro e w1 ⟨v1, rfl, h1⟩) | (go_at_call 205; refine (K2.out _ _ h1).mono ?_; clear K2 h1; rintro e w2 ⟨rfl, h1⟩))
    exact bodyPost_ret (v := .tuple #[.string noB, .int .i64 1]) (by simp [results, Tryz.results204, go_sem, noB]) rfl ⟨rfl, h1.out.2⟩
  | true =>
    rw [hw] at K2
    simp only [if_true]
    have hw' := hw
    simp [wthn] at hw'
    obtain ⟨⟨c1, c2⟩, c3⟩ := hw'
    obtain ⟨i, hi⟩ : ∃ i : Nat, f.toNat = i := ⟨_, rfl⟩
    obtain ⟨j, hj⟩ : ∃ j : Nat, g.toNat = j := ⟨_, rfl⟩
    have e1 : f = (i : Int) := by omega
    have e2 : g = (j : Int) := by omega
    rw [hi, hj]
    subst e1
    subst e2
    have K3 : Hid (∀ W v, Hid (At W t v ∧ Below w.heap.size w W) → Calls Tryz.prog 132 #[v, .int .i64 i, .int .i64 j] W fun e W' => e = .returned (.string (t.text.extract i j)) ∧ Below w.heap.size w W') := fun W v ⟨h1, hW⟩ => (sliced_any h1 hs (by omega) (by omega)).mono fun e W' ⟨k1, k2⟩ => ⟨k1, Below.on hW k2⟩
    generalize t.text.extract i j = R at K3 ⊢
    clear h hs hw hi hj c1 c2 c3
    go_enter Tryz.func204, Tryz.ntmps204
    go_wp2_with (first | (go_at_call 131; refine K1.out.mono ?_; clear K1; rintro e w1 ⟨v1, rfl, h1⟩) | (go_at_call 205; refine (K2.out _ _ h1).mono ?_; clear K2 h1; rintro e w2 ⟨rfl, h1⟩) | (go_at_call 132; refine (K3.out _ _ h1).mono ?_; clear K3 h1; rintro e w3 ⟨rfl, h1⟩))
    exact bodyPost_ret (v := .tuple #[.string R, .int .i64 0]) (by simp [results, Tryz.results204, go_sem]) rfl ⟨rfl, h1⟩
set_option maxRecDepth 100000 in
set_option maxHeartbeats 1000000 in
theorem rrep_no {w : World} {t : Tr} {v : Value} (h : Rp w t v) (hs : t.text.size ≤ B40) (at' cut : Int) (put : ByteArray) (ha : -9223372036854775808 ≤ at' ∧ at' ≤ 9223372036854775807) (hc : at' < 0 ∨ cut < 0 ∨ (t.text.size : Int) < at' + cut) :
    Calls Tryz.prog 203 #[v, .int .i64 at', .int .i64 cut, .string put] w fun e W' => e = .returned (.tuple #[.pointer none, .string noB, .int .i64 1]) ∧ Below w.heap.size w W' := by
  unfold B40 at hs
  obtain ⟨m, hm⟩ : ∃ m, smr t.text = m := ⟨_, rfl⟩
  obtain ⟨n, hn⟩ : ∃ n, t.text.size = n := ⟨_, rfl⟩
  have y1 := fby (m := m) (n := n) (by rw [← hm, ← hn]; rfl)
  have K1 : Hid (Calls Tryz.prog 131 #[v] w fun e W' => ∃ T a fS, e = .returned (.iface T (.pointer (some a))) ∧ (∀ W, (method 334 T (.pointer (some a)) "Sum").run Tryz.prog W = .ok (fS, .pointer (some a)) W) ∧ (∀ args W, (callFunc fS args).run Tryz.prog W = .ok (.enter fS args) W) ∧ Hid (∀ W, Below W'.heap.size W' W → Calls Tryz.prog fS #[.pointer (some a)] W fun e X => e = .returned (sv m) ∧ Below W.heap.size W X) ∧ Hid (At W' t (.iface T (.pointer (some a))) ∧ Below w.heap.size w W')) := by
    rw [← hm]
    exact rtree_nd h
  rw [hn] at hs hc
  clear h hm hn
  by_cases c1 : at' < 0
  · go_enter Tryz.func203, Tryz.ntmps203
    go_wp2_with (go_at_call 131; refine K1.out.mono ?_; clear K1; rintro e w1 ⟨T, a, fS, rfl, m1, m2, S1, h1⟩)
    exact bodyPost_ret (v := .tuple #[.pointer none, .string noB, .int .i64 1]) (by simp [results, Tryz.results203, go_sem, noB]) rfl ⟨rfl, h1.out.2⟩
  · by_cases c2 : cut < 0
    · go_enter Tryz.func203, Tryz.ntmps203
      go_wp2_with (go_at_call 131; refine K1.out.mono ?_; clear K1; rintro e w1 ⟨T, a, fS, rfl, m1, m2, S1, h1⟩)
      exact bodyPost_ret (v := .tuple #[.pointer none, .string noB, .int .i64 1]) (by simp [results, Tryz.results203, go_sem, noB]) rfl ⟨rfl, h1.out.2⟩
    · have c3 : (n : Int) - at' < cut := by omega
      have c4 : 0 ≤ at' := by omega
      have c5 : at' ≤ 9223372036854775807 := ha.2
      clear hc
      go_enter Tryz.func203, Tryz.ntmps203
      go_wp2_with (first | (go_at_call 131; refine K1.out.mono ?_; clear K1; rintro e w1 ⟨T, a, fS, rfl, m1, m2, S1, h1⟩) | (go_at_fn fS; refine (S1.out _ (Below.refl _ w1)).mono ?_; clear S1; rintro e w2 ⟨rfl, hb2⟩; have H2 : Hid (Below w.heap.size w w2) := Below.on h1.out.2 hb2; clear h1 hb2))
      exact bodyPost_ret (v := .tuple #[.pointer none, .string noB, .int .i64 1]) (by simp [results, Tryz.results203, go_sem, noB]) rfl ⟨rfl, H2.out⟩
set_option maxRecDepth 100000 in
set_option maxHeartbeats 1000000 in
theorem rrep_ok {w : World} {t : Tr} {v : Value} (h : Rp w t v) (hG : Good t) (i c : Nat) (put : ByteArray) (hs : t.text.size + put.size ≤ B40) (hc : i + c ≤ t.text.size) (hE : Ev w) :
    Calls Tryz.prog 203 #[v, .int .i64 i, .int .i64 c, .string put] w fun e W' => ∃ b, e = .returned (.tuple #[.pointer (some ⟨b, 0, none⟩), .string (t.text.extract i (i + c)), .int .i64 0]) ∧ Rp W' (rep t i (i + c) put) (.pointer (some ⟨b, 0, none⟩)) ∧ Below w.heap.size w W' := by
  unfold B40 at hs
  obtain ⟨m, hm⟩ : ∃ m, smr t.text = m := ⟨_, rfl⟩
  obtain ⟨n, hn⟩ : ∃ n, t.text.size = n := ⟨_, rfl⟩
  have y1 := fby (m := m) (n := n) (by rw [← hm, ← hn]; rfl)
  have K1 : Hid (Calls Tryz.prog 131 #[v] w fun e W' => ∃ T a fS, e = .returned (.iface T (.pointer (some a))) ∧ (∀ W, (method 334 T (.pointer (some a)) "Sum").run Tryz.prog W = .ok (fS, .pointer (some a)) W) ∧ (∀ args W, (callFunc fS args).run Tryz.prog W = .ok (.enter fS args) W) ∧ Hid (Calls Tryz.prog fS #[.pointer (some a)] W' fun e X => e = .returned (sv m) ∧ Hid (At X t (.iface T (.pointer (some a))) ∧ Below w.heap.size w X))) := by
    rw [← hm]
    exact (rtree_nd h).mono fun e W' ⟨T, a, fS, h1, h2, h3, h4, h5⟩ => ⟨T, a, fS, h1, h2, h3, (h4.out _ (Below.refl _ _)).mono fun e X ⟨k1, k2⟩ => ⟨k1, h5.out.1.below k2, Below.on h5.out.2 k2⟩⟩
  obtain ⟨p1, p2, -, -⟩ := bef_ok hG (show i ≤ t.text.size by omega)
  obtain ⟨p3, p4, -, -⟩ := aft_ok hG hc
  have z1 := bef_sz hG (show i ≤ t.text.size by omega)
  have z2 := aft_sz hG hc
  obtain ⟨j, hj⟩ : ∃ j, i + c = j := ⟨_, rfl⟩
  rw [hj] at hc p3 p4 z2 ⊢
  have C1 : Hid (∀ W x, Hid (At W t x ∧ Below w.heap.size w W) → Calls Tryz.prog 207 #[x, .int .i64 i] W fun e W' => ∃ y, e = .returned (.tuple #[y, .string (bef t i).2]) ∧ Hid (At W' t x ∧ At W' (bef t i).1 y ∧ Below w.heap.size w W')) := fun W x ⟨h1, hW⟩ =>
    (before_any h1 hG.fine hG.avl (by omega) (by unfold B40; omega) (hE.below hW)).mono fun e W' ⟨y, k1, k2, k3⟩ => ⟨y, k1, h1.below k3, k2, Below.on hW k3⟩
  have C2 : Hid (∀ W x y, Hid (At W t x ∧ At W (bef t i).1 y ∧ Below w.heap.size w W) → Calls Tryz.prog 208 #[x, .int .i64 j] W fun e W' => ∃ z, e = .returned (.tuple #[.string (aft t j).1, z]) ∧ Hid (At W' t x ∧ At W' (bef t i).1 y ∧ At W' (aft t j).2 z ∧ Below w.heap.size w W')) := fun W x y ⟨h1, h2, hW⟩ =>
    (after_any h1 hG.fine hG.avl hc (by unfold B40; omega) (hE.below hW)).mono fun e W' ⟨z, k1, k2, k3⟩ => ⟨z, k1, h1.below k3, h2.below k3, k2, Below.on hW k3⟩
  have C3 : Hid (∀ W x y z, Hid (At W t x ∧ At W (bef t i).1 y ∧ At W (aft t j).2 z ∧ Below w.heap.size w W) → Calls Tryz.prog 209 #[y, .string ((bef t i).2 ++ put ++ (aft t j).1), z] W fun e W' => ∃ T p, e = .returned (.iface T p) ∧ Hid (At W' t x ∧ At W' (rep t i j put) (.iface T p) ∧ Below w.heap.size w W')) := fun W x y z ⟨h1, h2, h3, hW⟩ =>
    (laid_any h2 h3 p1 p3 p2 p4 (by rw [size_app, size_app]; unfold B40; omega) (hE.below hW)).mono fun e W' ⟨v, k1, k2, k3⟩ => by
      obtain ⟨T, a, _, _, _, _, rfl, -⟩ := k2.nd
      exact ⟨T, _, k1, h1.below k3, k2, Below.on hW k3⟩
  have C4 : Hid (∀ W x T p, Hid (At W t x ∧ At W (rep t i j put) (.iface T p) ∧ Below w.heap.size w W) → Calls Tryz.prog 132 #[x, .int .i64 i, .int .i64 j] (W.alloc (.cells #[.iface T p] 171)) fun e W' => e = .returned (.string (t.text.extract i j)) ∧ Hid (Rp W' (rep t i j put) (.pointer (some ⟨W.heap.size, 0, none⟩)) ∧ Below w.heap.size w W')) := fun W x T p ⟨h1, h2, hW⟩ => by
    have hb := (Below.refl _ W).alloc (Nat.le_refl _) (.cells #[.iface T p] 171)
    have hR : Rp (W.alloc (.cells #[.iface T p] 171)) (rep t i j put) (.pointer (some ⟨W.heap.size, 0, none⟩)) := Rp.of (World.alloc_heap_new W _) (h2.below hb)
    exact (sliced_any (h1.below hb) (by unfold B40; omega) (by omega) hc).mono fun e W' ⟨k1, k2⟩ => ⟨k1, hR.below k2, Below.on (Below.on hW hb) k2⟩
  have b1 : (bef t i).2.size ≤ 1099511627776 := by omega
  have b2 : (aft t j).1.size ≤ 1099511627776 := by omega
  have b3 : put.size ≤ 1099511627776 := by omega
  generalize t.text.extract i j = R at C4 ⊢
  generalize rep t i j put = RT at C3 C4 ⊢
  generalize bef t i = BF at *
  generalize aft t j = AG at *
  have e1 : (i : Int) + c = (j : Int) := by omega
  have b4 : i ≤ 1099511627776 := by omega
  have b5 : c ≤ 1099511627776 := by omega
  have b6 : ¬ (n : Int) - i < c := by omega
  have b7 : n ≤ 1099511627776 := by omega
  clear h hG hs hc hE hm hn p1 p2 p3 p4 z1 z2 hj
  go_enter Tryz.func203, Tryz.ntmps203
  go_wp2_with (first | (go_at_call 131; refine K1.out.mono ?_; clear K1; rintro e w1 ⟨T, a, fS, rfl, m1, m2, S1⟩) | (go_at_fn fS; refine S1.out.mono ?_; clear S1; rintro e w2 ⟨rfl, h1⟩) | (go_at_call 207; refine (C1.out _ _ h1).mono ?_; clear C1 h1; rintro e w3 ⟨y3, rfl, h1⟩) | (go_at_call 208; refine (C2.out _ _ _ h1).mono ?_; clear C2 h1; rintro e w4 ⟨z4, rfl, h1⟩) | (go_at_call 209; refine (C3.out _ _ _ _ h1).mono ?_; clear C3 h1; rintro e w5 ⟨U, q5, rfl, h1⟩) | (go_at_call 132; refine (C4.out _ _ _ _ h1).mono ?_; clear C4 h1; rintro e w6 ⟨rfl, h1⟩))
  exact bodyPost_ret (v := .tuple #[.pointer (some ⟨w5.heap.size, 0, none⟩), .string R, .int .i64 0]) (by simp [results, Tryz.results203, go_sem]) rfl ⟨_, rfl, h1.out⟩
end Go.Proofs.YtplieccalmkloaaGreatDoor
namespace Go.Proofs.YtplieccalmkloaaGreatDoor
open Go.RowKit Go.Shelf Bod Wid

theorem slc_range {s : ByteArray} {i j : Nat} (h : i ≤ j) (k : j ≤ s.size) : rangeOf s i j = s.extract i j := by
  unfold rangeOf
  rw [if_neg (by omega)]
  congr 1 <;> omega
/-- the box of the answer lies as it was laid -/
def Bx7 (w W : World) : Prop := W.heap[w.heap.size]? = some (.cells (scs sm0) 125 (0, 0)) ∧ Below w.heap.size w W
theorem Bx7.below {w W X : World} (h : Bx7 w W) (hb : Below W.heap.size W X) : Bx7 w X := ⟨(hb.block _ (Array.getElem?_eq_some_iff.1 h.1).1).trans h.1, Below.on h.2 hb⟩
set_option maxRecDepth 100000 in
set_option maxHeartbeats 1000000 in
theorem measured_any : ∀ (k : Nat) {t : Tr} {w : World} {v : Value} {f g : Int}, t.lv.length ≤ k → At w t v → t.text.size ≤ B40 → Ev w →
    (-35184372088832 ≤ f ∧ f ≤ 35184372088832) → (-35184372088832 ≤ g ∧ g ≤ 35184372088832) →
    Calls Tryz.prog 206 #[v, .int .i64 f, .int .i64 g] w fun e W' => e = .returned (sv (smr (slc t.text f g))) ∧ Below w.heap.size w W'
  | 0, t, _, _, _, _, hk, _, _, _, _, _ => by have := lv_pos t; omega
  | k + 1, t, w, v, f, g, hk, h, hs, hE, hf, hg => by
    unfold B40 at hs
    obtain ⟨W0, hW0⟩ : ∃ W0, w.alloc (.cells #[.int .i64 0, .int .i64 0, .int .i64 0, .int .i64 0, .int .i64 0, .string ⟨#[]⟩, .string ⟨#[]⟩] 125) = W0 := ⟨_, rfl⟩
    have b0 : Bx7 w W0 := by rw [← hW0]; exact ⟨World.alloc_heap_new w _, (Below.refl _ w).alloc (Nat.le_refl _) _⟩
    obtain ⟨T, a, fS, fP, fT, pv, rfl, ⟨m1, m2⟩, ⟨m3, m4⟩, ⟨m5, m6⟩, S1, P1, X1, hpv⟩ := h.nd
    obtain ⟨n, hn⟩ : ∃ n, t.text.size = n := ⟨_, rfl⟩
    obtain ⟨m, hm⟩ : ∃ m, smr t.text = m := ⟨_, rfl⟩
    have hby : m.by' = (n : Int) := by rw [← hm, ← hn]; rfl
    obtain ⟨m0, u1, u2, u3, u4, u5, u6⟩ := m
    have hby : m0 = (n : Int) := hby
    subst hby
    rw [hm] at S1
    obtain ⟨f', hf'⟩ : ∃ f' : Int, max f 0 = f' := ⟨_, rfl⟩
    obtain ⟨g', hg'⟩ : ∃ g' : Int, min g (n : Int) = g' := ⟨_, rfl⟩
    have S2 : Hid (Calls Tryz.prog fS #[.pointer (some a)] W0 fun e W' => e = .returned (sv ⟨n, u1, u2, u3, u4, u5, u6⟩) ∧ Hid (Bx7 w (W'.alloc (.cells #[.int .i64 n, .int .i64 u1, .int .i64 u2, .int .i64 u3, .int .i64 u4, .string u5, .string u6] 125)).drew)) := (S1.out W0 b0.2).mono fun e W' ⟨h1, h2⟩ => ⟨h1, (b0.below h2).below ((Below.refl _ W').alloc (Nat.le_refl _) _).drew⟩
    have P2 : Hid (∀ W, Hid (Bx7 w W) → Calls Tryz.prog fP #[.pointer (some a)] W fun e W' => e = .returned pv ∧ Hid (Bx7 w W')) := fun W hW => (P1.out W hW.out.2).mono fun e W' ⟨h1, h2⟩ => ⟨h1, hW.out.below h2⟩
    by_cases c : g' ≤ f'
    · have e0 : slc t.text f g = noB := slc_nil (by omega)
      rw [e0]
      have M1 : Hid (∀ W, Hid (Bx7 w W) → Calls Tryz.prog 154 #[.string ⟨#[]⟩] W fun e W' => e = .returned (sv (smr noB)) ∧ Hid (Bx7 w W')) := fun W hW => (measure_any noB (by rw [noB_size]; omega) W (hE.below hW.out.2).t (hE.below hW.out.2).l0 (hE.below hW.out.2).l1).mono fun e W' ⟨h1, h2⟩ => ⟨h1, hW.out.below h2⟩
      generalize smr noB = M at M1 ⊢
      clear h hs hE S1 P1 X1 hpv hn hm e0 P2 hk b0
      go_enter Tryz.func206, Tryz.ntmps206
      go_wp2_with (go_at_fn fS; refine S2.out.mono ?_; clear S2 hW0; rintro e w1 ⟨rfl, h1⟩)
      go_region
      go_wp2_with (go_at_call 154; refine (M1.out _ h1).mono ?_; clear M1 h1; rintro e w2 ⟨rfl, h⟩; obtain ⟨⟨z0, z1, z2, z3, z4, z5, z6⟩, f0, f1, f2, f3, f4, f5, f6⟩ := box7 h.out.1; have hl : w.heap.size < w2.heap.size := (Array.getElem?_eq_some_iff.1 h.out.1).1)
      exact bodyPost_ret (v := sv M) (by simp [results, Tryz.results206, go_sem, z0, z1, z2, z3, z4, z5, z6]) rfl ⟨rfl, set7_below h.out.2 _ _ _ _ _ _ _⟩
    · by_cases c2 : g' - f' = (n : Int)
      · have e0 : slc t.text f g = t.text := by
          unfold slc
          rw [hf', hn, hg', show f'.toNat = 0 by omega, show g'.toNat = t.text.size by omega, ext_all]
        rw [e0, hm]
        have S2 : Hid (Calls Tryz.prog fS #[.pointer (some a)] W0 fun e W' => e = .returned (sv ⟨n, u1, u2, u3, u4, u5, u6⟩) ∧ Hid (Bx7 w W')) := (S1.out W0 b0.2).mono fun e W' ⟨h1, h2⟩ => ⟨h1, b0.below h2⟩
        have c3 : f' < g' := by omega
        have b3 : 0 ≤ f' ∧ f' ≤ 35184372088832 := by omega
        have b4 : g' ≤ 35184372088832 := by omega
        clear h hs hE S1 P1 X1 hpv hn hm e0 P2 hk b0
        go_enter Tryz.func206, Tryz.ntmps206
        go_wp2_with (go_at_fn fS; refine S2.out.mono ?_; clear S2 hW0; rintro e w1 ⟨rfl, h1⟩; obtain ⟨⟨z0, z1, z2, z3, z4, z5, z6⟩, f0, f1, f2, f3, f4, f5, f6⟩ := box7 h1.out.1; have hl : w.heap.size < w1.heap.size := (Array.getElem?_eq_some_iff.1 h1.out.1).1)
        go_region
        go_wp2
        have hB := set7_below h1.out.2 (.int .i64 n) (.int .i64 u1) (.int .i64 u2) (.int .i64 u3) (.int .i64 u4) (.string u5) (.string u6)
        have hX := set7_box h1.out.1 (.int .i64 n) (.int .i64 u1) (.int .i64 u2) (.int .i64 u3) (.int .i64 u4) (.string u5) (.string u6)
        have hB2 := (hB.alloc hB.size (.cells #[.int .i64 n, .int .i64 u1, .int .i64 u2, .int .i64 u3, .int .i64 u4, .string u5, .string u6] 125)).drew
        have hY := (((Below.refl _ _).alloc (Nat.le_refl _) (.cells #[.int .i64 n, .int .i64 u1, .int .i64 u2, .int .i64 u3, .int .i64 u4, .string u5, .string u6] 125)).drew.block _ (Array.getElem?_eq_some_iff.1 hX).1).trans hX
        clear hB hX z0 z1 z2 z3 z4 z5 z6 f0 f1 f2 f3 f4 f5 f6
        generalize World.drew _ = V at hB2 hY ⊢
        obtain ⟨⟨z0, z1, z2, z3, z4, z5, z6⟩, -⟩ := box7 hY
        exact bodyPost_ret (v := sv ⟨n, u1, u2, u3, u4, u5, u6⟩) (by simp [results, Tryz.results206, go_sem, z0, z1, z2, z3, z4, z5, z6]) rfl ⟨rfl, hB2⟩
      · have c3 : ¬ g' ≤ f' := c
        have b3 : 0 ≤ f' ∧ f' ≤ 35184372088832 := by omega
        have b4 : g' ≤ 35184372088832 := by omega
        match t, hk, h, hs, hn, hm, hpv, X1 with
        | .leaf s, hk, h, hs, hn, hm, hpv, X1 =>
          have hpv : pv = _ := hpv
          subst hpv
          have hn : s.size = n := hn
          obtain ⟨i, hi1⟩ : ∃ i : Nat, f'.toNat = i := ⟨_, rfl⟩
          obtain ⟨j, hj1⟩ : ∃ j : Nat, g'.toNat = j := ⟨_, rfl⟩
          have e1 : f' = (i : Int) := by omega
          have e2 : g' = (j : Int) := by omega
          subst e1
          subst e2
          have e0 : slc s f g = rangeOf s i j := by unfold slc; rw [hf', hn, hg', slc_range (by omega) (by omega)]; rfl
          have X2 : Hid (∀ W, Hid (Bx7 w W) → Calls Tryz.prog fT #[.pointer (some a)] W fun e W' => e = .returned (.string s) ∧ Hid (Bx7 w W')) := fun W hW => (X1.out W hW.out.2).mono fun e W' ⟨h1, h2⟩ => ⟨h1, hW.out.below h2⟩
          have hs' : s.size ≤ 1099511627776 := hs
          have M1 : Hid (∀ W, Hid (Bx7 w W) → Calls Tryz.prog 210 #[.string s, .int .i64 i, .int .i64 j] W fun e W' => e = .returned (sv (smr (slc s f g))) ∧ Hid (Bx7 w W')) := fun W hW => by
            rw [e0]
            exact (mrange_any s i j (by omega) (by omega) (by omega) W (hE.below hW.out.2).t (hE.below hW.out.2).l0 (hE.below hW.out.2).l1).mono fun e W' ⟨h1, h2⟩ => ⟨h1, hW.out.below h2⟩
          show Calls _ _ _ _ fun e W' => e = .returned (sv (smr (slc s f g))) ∧ Below w.heap.size w W'
          generalize smr (slc s f g) = M at M1 ⊢
          clear h hs hs' hE S1 P1 X1 hm e0 hi1 hj1 hk b0 hn
          go_enter Tryz.func206, Tryz.ntmps206
          go_wp2_with (go_at_fn fS; refine S2.out.mono ?_; clear S2 hW0; rintro e w1 ⟨rfl, h1⟩)
          go_region
          go_wp2_with (first | (go_at_fn fP; refine (P2.out _ h1).mono ?_; clear P2 h1; rintro e w2 ⟨rfl, h1⟩) | (go_at_fn fT; refine (X2.out _ h1).mono ?_; clear X2 h1; rintro e w3 ⟨rfl, h1⟩) | (go_at_call 210; refine (M1.out _ h1).mono ?_; clear M1 h1; rintro e w4 ⟨rfl, h⟩; obtain ⟨⟨z0, z1, z2, z3, z4, z5, z6⟩, f0, f1, f2, f3, f4, f5, f6⟩ := box7 h.out.1; have hl : w.heap.size < w4.heap.size := (Array.getElem?_eq_some_iff.1 h.out.1).1))
          exact bodyPost_ret (v := sv M) (by simp [results, Tryz.results206, go_sem, z0, z1, z2, z3, z4, z5, z6]) rfl ⟨rfl, set7_below h.out.2 _ _ _ _ _ _ _⟩
        | .knot l r, hk, h, hs, hn, hm, hpv, X1 =>
          have hkl : l.lv.length + r.lv.length ≤ k + 1 := by rw [← List.length_append]; exact hk
          have hk1 := lv_pos l
          have hk2 := lv_pos r
          obtain ⟨x1, x2, rfl, a1, a2⟩ := hpv
          have hn : (l.text ++ r.text).size = n := hn
          have hs' : (l.text ++ r.text).size ≤ 1099511627776 := hs
          rw [size_app] at hn hs'
          obtain ⟨U, d, gS, gP, gT, _, rfl, ⟨m7, m8⟩, -, -, S3, -, -, -⟩ := a1.nd
          obtain ⟨nl, hnl⟩ : ∃ n, l.text.size = n := ⟨_, rfl⟩
          obtain ⟨ml, hml⟩ : ∃ m, smr l.text = m := ⟨_, rfl⟩
          have y2 := fby (m := ml) (n := nl) (by rw [← hml, ← hnl]; rfl)
          have S4 : Hid (∀ W, Hid (Bx7 w W) → Calls Tryz.prog gS #[.pointer (some d)] W fun e W' => e = .returned (sv ml) ∧ Hid (Bx7 w W')) := fun W hW => (S3.out W hW.out.2).mono fun e W' ⟨h1, h2⟩ => ⟨by rw [h1, hml], hW.out.below h2⟩
          obtain ⟨sl, hsl⟩ : ∃ x, slc l.text f' g' = x := ⟨_, rfl⟩
          obtain ⟨sr, hsr⟩ : ∃ x, slc r.text (f' - nl) (g' - nl) = x := ⟨_, rfl⟩
          have e0 : slc (Tr.knot l r).text f g = sl ++ sr := by
            have : slc (Tr.knot l r).text f g = slc (l.text ++ r.text) f' g' := by
              show slc (l.text ++ r.text) f g = _
              unfold slc
              rw [size_app, hn, hf', hg']
              congr 1 <;> omega
            rw [this, slc_app _ _ _ _ (by omega) (by omega), hnl, hsl, hsr]
          have zl : sl.size ≤ l.text.size := by rw [← hsl]; unfold slc; rw [size_extract _ _ _ (by omega)]; omega
          have zr : sr.size ≤ r.text.size := by rw [← hsr]; unfold slc; rw [size_extract _ _ _ (by omega)]; omega
          obtain ⟨ma, hma⟩ : ∃ m, smr sl = m := ⟨_, rfl⟩
          obtain ⟨mb, hmb⟩ : ∃ m, smr sr = m := ⟨_, rfl⟩
          have K1 : Hid (∀ W, Hid (Bx7 w W) → Calls Tryz.prog 206 #[.iface U (.pointer (some d)), .int .i64 f', .int .i64 g'] W fun e W' => e = .returned (sv ma) ∧ Hid (Bx7 w W')) := fun W hW =>
            (measured_any k (by omega) (a1.below hW.out.2) (by unfold B40; omega) (hE.below hW.out.2) (by omega) (by omega)).mono fun e W' ⟨h1, h2⟩ => ⟨by rw [h1, hsl, hma], hW.out.below h2⟩
          have K2 : Hid (∀ W, Hid (Bx7 w W) → Calls Tryz.prog 206 #[x2, .int .i64 (f' - nl), .int .i64 (g' - nl)] W fun e W' => e = .returned (sv mb) ∧ Hid (Bx7 w W')) := fun W hW =>
            (measured_any k (by omega) (a2.below hW.out.2) (by unfold B40; omega) (hE.below hW.out.2) (by omega) (by omega)).mono fun e W' ⟨h1, h2⟩ => ⟨by rw [h1, hsr, hmb], hW.out.below h2⟩
          have J1 : Hid (∀ W, Hid (Bx7 w W) → Calls Tryz.prog 167 #[.slice (some ⟨W.heap.size, 0, none⟩) 2 2] (W.alloc (.cells (scs2 ma mb) 125)) fun e W' => e = .returned (sv (smr (sl ++ sr))) ∧ Hid (Bx7 w W')) := fun W hW => by
            have hb := hW.out.below ((Below.refl _ W).alloc (Nat.le_refl _) (.cells (scs2 ma mb) 125))
            rw [← hma, ← hmb] at hb ⊢
            have := mjoin_any [sl, sr] _ _ (two_sums W sl sr) (by rw [cat_two, size_app]; omega) (by simp) (hE.below hb.2).t (hE.below hb.2).l0 (hE.below hb.2).l1
            rw [cat_two] at this
            exact this.mono fun e W' ⟨h1, h2⟩ => ⟨h1, hb.below h2⟩
          have b1 : nl ≤ 1099511627776 := by omega
          show Calls _ _ _ _ fun e W' => e = .returned (sv (smr (slc (Tr.knot l r).text f g))) ∧ Below w.heap.size w W'
          rw [e0]
          generalize smr (sl ++ sr) = M at J1 ⊢
          clear h hs hE S1 P1 X1 hm e0 hs' S3 zl zr a1 a2 hml hnl hkl hk1 hk2 hk b0 hn hsl hsr hma hmb
          go_enter Tryz.func206, Tryz.ntmps206
          go_wp2_with (go_at_fn fS; refine S2.out.mono ?_; clear S2 hW0; rintro e w1 ⟨rfl, h1⟩)
          go_region
          go_wp2_with (first | (go_at_fn fP; refine (P2.out _ h1).mono ?_; clear P2 h1; rintro e w2 ⟨rfl, h1⟩) | (go_at_fn gS; refine (S4.out _ h1).mono ?_; clear S4 h1; rintro e w3 ⟨rfl, h1⟩) | (go_at_call 206; refine (K1.out _ h1).mono ?_; clear K1 h1; rintro e w4 ⟨rfl, h1⟩) | (go_at_call 206; refine (K2.out _ h1).mono ?_; clear K2 h1; rintro e w5 ⟨rfl, h1⟩) | (go_at_call 167; refine (J1.out _ h1).mono ?_; clear J1 h1; rintro e w6 ⟨rfl, h⟩; obtain ⟨⟨z0, z1, z2, z3, z4, z5, z6⟩, f0, f1, f2, f3, f4, f5, f6⟩ := box7 h.out.1; have hl : w.heap.size < w6.heap.size := (Array.getElem?_eq_some_iff.1 h.out.1).1))
          exact bodyPost_ret (v := sv M) (by simp [results, Tryz.results206, go_sem, z0, z1, z2, z3, z4, z5, z6]) rfl ⟨rfl, set7_below h.out.2 _ _ _ _ _ _ _⟩
/-- the summary that Measure answers, and its error -/
def msR (s : ByteArray) (f g : Int) : Sum × Int := if wthn s.size f g then (smr (s.extract f.toNat g.toNat), 0) else (sm0, 1)
set_option maxRecDepth 100000 in
set_option maxHeartbeats 1000000 in
theorem rmeas_any {w : World} {t : Tr} {v : Value} (h : Rp w t v) (hs : t.text.size ≤ B40) (f g : Int) (hE : Ev w) : Calls Tryz.prog 202 #[v, .int .i64 f, .int .i64 g] w fun e W' => e = .returned (.tuple #[sv (msR t.text f g).1, .int .i64 (msR t.text f g).2]) ∧ Below w.heap.size w W' := by
  obtain ⟨W0, hW0⟩ : ∃ W0, w.alloc (.cells #[.int .i64 0, .int .i64 0, .int .i64 0, .int .i64 0, .int .i64 0, .string ⟨#[]⟩, .string ⟨#[]⟩] 125) = W0 := ⟨_, rfl⟩
  have b0 : Bx7 w W0 := by rw [← hW0]; exact ⟨World.alloc_heap_new w _, (Below.refl _ w).alloc (Nat.le_refl _) _⟩
  have K1 : Hid (Calls Tryz.prog 131 #[v] W0 fun e W' => ∃ v, e = .returned v ∧ Hid (At W' t v ∧ Bx7 w W')) := (rtree_any (h.below b0.2)).mono fun e W' ⟨v, h1, h2, h3⟩ => ⟨v, h1, h2, b0.below h3⟩
  have K2 : Hid (∀ W v, Hid (At W t v ∧ Bx7 w W) → Calls Tryz.prog 205 #[v, .int .i64 f, .int .i64 g] W fun e W' => e = .returned (.bool (wthn t.text.size f g)) ∧ Hid (At W' t v ∧ Bx7 w W')) := fun W v ⟨h1, hW⟩ => (rwithin_any h1 f g).mono fun e W' ⟨k1, k2⟩ => ⟨k1, h1.below k2, hW.below k2⟩
  unfold msR
  cases hw : wthn t.text.size f g with
  | false =>
    rw [hw] at K2
    simp only [Bool.false_eq_true, if_false]
    clear h hs hw hE b0
    go_enter Tryz.func202, Tryz.ntmps202
    go_wp2_with (first | (go_at_call 131; refine K1.out.mono ?_; clear K1 hW0; rintro e w1 ⟨v1, rfl, h1⟩) | (go_at_call 205; refine (K2.out _ _ h1).mono ?_; clear K2 h1; rintro e w2 ⟨rfl, h1⟩; obtain ⟨⟨z0, z1, z2, z3, z4, z5, z6⟩, f0, f1, f2, f3, f4, f5, f6⟩ := box7 h1.out.2.1; have hl : w.heap.size < w2.heap.size := (Array.getElem?_eq_some_iff.1 h1.out.2.1).1))
    exact bodyPost_ret (v := .tuple #[sv sm0, .int .i64 1]) (by simp [results, Tryz.results202, go_sem, z0, z1, z2, z3, z4, z5, z6, sm0]) rfl ⟨rfl, set7_below h1.out.2.2 _ _ _ _ _ _ _⟩
  | true =>
    rw [hw] at K2
    simp only [if_true]
    have hw' := hw
    simp [wthn] at hw'
    obtain ⟨⟨c1, c2⟩, c3⟩ := hw'
    unfold B40 at hs
    obtain ⟨i, hi⟩ : ∃ i : Nat, f.toNat = i := ⟨_, rfl⟩
    obtain ⟨j, hj⟩ : ∃ j : Nat, g.toNat = j := ⟨_, rfl⟩
    have e1 : f = (i : Int) := by omega
    have e2 : g = (j : Int) := by omega
    rw [hi, hj]
    subst e1
    subst e2
    have K3 : Hid (∀ W v, Hid (At W t v ∧ Bx7 w W) → Calls Tryz.prog 206 #[v, .int .i64 i, .int .i64 j] W fun e W' => e = .returned (sv (smr (t.text.extract i j))) ∧ Hid (Bx7 w W')) := fun W v ⟨h1, hW⟩ => (measured_any _ (Nat.le_refl _) h1 (by unfold B40; omega) (hE.below hW.2) (by omega) (by omega)).mono fun e W' ⟨k1, k2⟩ => ⟨by rw [k1, slc_in (by omega)], hW.below k2⟩
    generalize smr (t.text.extract i j) = M at K3 ⊢
    clear h hs hw hE b0 hi hj c1 c2 c3
    go_enter Tryz.func202, Tryz.ntmps202
    go_wp2_with (first | (go_at_call 131; refine K1.out.mono ?_; clear K1 hW0; rintro e w1 ⟨v1, rfl, h1⟩) | (go_at_call 205; refine (K2.out _ _ h1).mono ?_; clear K2 h1; rintro e w2 ⟨rfl, h1⟩) | (go_at_call 206; refine (K3.out _ _ h1).mono ?_; clear K3 h1; rintro e w3 ⟨rfl, h1⟩; obtain ⟨⟨z0, z1, z2, z3, z4, z5, z6⟩, f0, f1, f2, f3, f4, f5, f6⟩ := box7 h1.out.1; have hl : w.heap.size < w3.heap.size := (Array.getElem?_eq_some_iff.1 h1.out.1).1))
    exact bodyPost_ret (v := .tuple #[sv M, .int .i64 0]) (by simp [results, Tryz.results202, go_sem, z0, z1, z2, z3, z4, z5, z6]) rfl ⟨rfl, set7_below h1.out.2 _ _ _ _ _ _ _⟩
end Go.Proofs.YtplieccalmkloaaGreatDoor
