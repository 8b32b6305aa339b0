/-
  Package rope's before, after and firstEnd. Conditions: the two tables of unicode/utf8 lie as their text lays them; the text holds at most 1099511627776 bytes.
-/
import Derived.Test.YtcjmfoadimpffaaGreatDoorRCut
import Derived.Test.YtcjmfoadimpffaaGreatDoorCPlaces
namespace Go.Proofs.YtcjmfoadimpffaaGreatDoor
open Go.RowKit Go.Shelf Bod Wid

theorem hdO_sz {t : Tr} {n : Nat} (hf : Fine t) (ha : Avl t) (hn : n ≤ t.text.size) : (hdO t n).1.text.size + (hdO t n).2.size = n := by
  have := congrArg ByteArray.size (hdO_ok hf ha hn).2.2.1
  rw [size_app, size_extract _ _ _ hn] at this
  omega
theorem tlO_sz {t : Tr} {n : Nat} (hf : Fine t) (ha : Avl t) (hn : n ≤ t.text.size) : (tlO t n).1.size + (tlO t n).2.text.size = t.text.size - n := by
  have := congrArg ByteArray.size (tlO_ok hf ha hn).2.2.1
  rw [size_app, size_extract _ _ _ (Nat.le_refl _)] at this
  omega
set_option maxRecDepth 100000 in
set_option maxHeartbeats 1000000 in
theorem before_any {t : Tr} {w : World} {v : Value} {n : Nat} (h : At w t v) (hf : Fine t) (ha : Avl t) (hn : n ≤ t.text.size) (hs : t.text.size ≤ B40) (hE : Ev w) :
    Calls Tryz.prog 45 #[v, .int .i64 n] w (MkH w (bef t n)) := by
  unfold B40 at hs
  have z := hdO_sz hf ha hn
  obtain ⟨q1, q2, -, -⟩ := hdO_ok hf ha hn
  have K1 : Hid (Calls Tryz.prog 85 #[v, .int .i64 n] w fun e W' => ∃ v, e = .returned (.tuple #[v, .string (hdO t n).2]) ∧ Hid (At W' (hdO t n).1 v ∧ Below w.heap.size w W')) :=
    (headOf_any h hf ha hn hs hE).mono fun e W' ⟨v, h1, h2, h3⟩ => ⟨v, h1, h2, h3⟩
  by_cases c : 32 ≤ (hdO t n).2.size
  · have e1 : bef t n = hdO t n := if_pos c
    rw [e1]
    generalize hdO t n = A at *
    have c' : (32 : Int) ≤ A.2.size := by omega
    clear h hf ha hn hE q1 q2 e1
    go_enter Tryz.func45, Tryz.ntmps45
    go_wp2_with (go_at_call 85; refine K1.out.mono ?_; clear K1; rintro e w1 ⟨v1, rfl, h1⟩)
    exact bodyPost_ret (v := .tuple #[v1, .string A.2]) (by simp [results, Tryz.results45, go_sem]) rfl ⟨v1, rfl, h1.out⟩
  · have e1 : bef t n = ((hdO (hdO t n).1 (hdO t n).1.text.size).1, (hdO (hdO t n).1 (hdO t n).1.text.size).2 ++ (hdO t n).2) := if_neg c
    rw [e1]
    generalize hdO t n = A at *
    have z2 := hdO_sz q1 q2 (Nat.le_refl A.1.text.size)
    obtain ⟨nl, e2⟩ : ∃ k, A.1.text.size = k := ⟨_, rfl⟩
    obtain ⟨ml, hml⟩ : ∃ m, smr A.1.text = m := ⟨_, rfl⟩
    have y1 := fby (m := ml) (n := nl) (by rw [← hml, ← e2]; rfl)
    have K2 : Hid (∀ W v, Hid (At W A.1 v ∧ Below w.heap.size w W) → Calls Tryz.prog 85 #[v, .int .i64 nl] W (MkH w (hdO A.1 nl))) := fun W v ⟨h1, hW⟩ =>
      (headOf_any h1 q1 q2 (by omega) (by unfold B40; omega) (hE.below hW)).mono fun e W' ⟨v, h1, h2, h3⟩ => ⟨v, h1, h2, Below.on hW h3⟩
    rw [e2] at z2 ⊢
    have HM : Hid (smr A.1.text = ml) := hml
    generalize hdO A.1 nl = R at *
    have c' : ¬ (32 : Int) ≤ A.2.size := by omega
    have b1 : A.2.size ≤ 1099511627776 := by omega
    have b2 : R.2.size ≤ 1099511627776 := by omega
    clear h hf ha hn hE q1 q2 e1 z z2 hml e2 hs
    go_enter Tryz.func45, Tryz.ntmps45
    go_wp2_with (first | (go_at_call 85; refine K1.out.mono ?_; clear K1; rintro e w1 ⟨v1, rfl, h1⟩; obtain ⟨T, a, fS, fP, fT, p, rfl, ⟨m1, m2⟩, -, -, S1, -, -, -⟩ := h1.out.1.nd; rw [HM.out] at S1; have S2 : Hid (Calls Tryz.prog fS #[.pointer (some a)] w1 fun e W' => e = .returned (sv ml) ∧ Hid (At W' A.1 (.iface T (.pointer (some a))) ∧ Below w.heap.size w W')) := (S1.out w1 (Below.refl _ w1)).mono (fun e W' ⟨k1, k2⟩ => ⟨k1, h1.out.1.below k2, Below.on h1.out.2 k2⟩); clear S1 h1) | (go_at_fn fS; refine S2.out.mono ?_; clear S2; rintro e w2 ⟨rfl, h2⟩) | (go_at_call 85; refine (K2.out _ _ h2).mono ?_; clear K2; rintro e w3 ⟨v3, rfl, h3⟩))
    exact bodyPost_ret (v := .tuple #[v3, .string (R.2 ++ A.2)]) (by simp [results, Tryz.results45, go_sem]) rfl ⟨v3, rfl, h3⟩
set_option maxRecDepth 100000 in
set_option maxHeartbeats 1000000 in
theorem after_any {t : Tr} {w : World} {v : Value} {n : Nat} (h : At w t v) (hf : Fine t) (ha : Avl t) (hn : n ≤ t.text.size) (hs : t.text.size ≤ B40) (hE : Ev w) :
    Calls Tryz.prog 46 #[v, .int .i64 n] w (MkT w (aft t n)) := by
  unfold B40 at hs
  have z := tlO_sz hf ha hn
  obtain ⟨q1, q2, -, -⟩ := tlO_ok hf ha hn
  have K1 : Hid (Calls Tryz.prog 86 #[v, .int .i64 n] w fun e W' => ∃ v, e = .returned (.tuple #[.string (tlO t n).1, v]) ∧ Hid (At W' (tlO t n).2 v ∧ Below w.heap.size w W')) :=
    (tailOf_any h hf ha hn hs hE).mono fun e W' ⟨v, h1, h2, h3⟩ => ⟨v, h1, h2, h3⟩
  by_cases c : 32 ≤ (tlO t n).1.size
  · have e1 : aft t n = tlO t n := if_pos c
    rw [e1]
    generalize tlO t n = A at *
    have c' : (32 : Int) ≤ A.1.size := by omega
    clear h hf ha hn hE q1 q2 e1
    go_enter Tryz.func46, Tryz.ntmps46
    go_wp2_with (go_at_call 86; refine K1.out.mono ?_; clear K1; rintro e w1 ⟨v1, rfl, h1⟩)
    exact bodyPost_ret (v := .tuple #[.string A.1, v1]) (by simp [results, Tryz.results46, go_sem]) rfl ⟨v1, rfl, h1.out⟩
  · have e1 : aft t n = ((tlO t n).1 ++ (tlO (tlO t n).2 0).1, (tlO (tlO t n).2 0).2) := if_neg c
    rw [e1]
    generalize tlO t n = A at *
    have z2 := tlO_sz q1 q2 (Nat.zero_le A.2.text.size)
    have K2 : Hid (∀ W v, Hid (At W A.2 v ∧ Below w.heap.size w W) → Calls Tryz.prog 86 #[v, .int .i64 0] W (MkT w (tlO A.2 0))) := fun W v ⟨h1, hW⟩ =>
      (tailOf_any (n := 0) h1 q1 q2 (by omega) (by unfold B40; omega) (hE.below hW)).mono fun e W' ⟨v, h1, h2, h3⟩ => ⟨v, h1, h2, Below.on hW h3⟩
    generalize tlO A.2 0 = R at *
    have c' : ¬ (32 : Int) ≤ A.1.size := by omega
    have b1 : A.1.size ≤ 1099511627776 := by omega
    have b2 : R.1.size ≤ 1099511627776 := by omega
    clear h hf ha hn hE q1 q2 e1 z z2 hs
    go_enter Tryz.func46, Tryz.ntmps46
    go_wp2_with (first | (go_at_call 86; refine K1.out.mono ?_; clear K1; rintro e w1 ⟨v1, rfl, h1⟩) | (go_at_call 86; refine (K2.out _ _ h1).mono ?_; clear K2; rintro e w3 ⟨v3, rfl, h3⟩))
    exact bodyPost_ret (v := .tuple #[.string (A.1 ++ R.1), v3]) (by simp [results, Tryz.results46, go_sem]) rfl ⟨v3, rfl, h3⟩
set_option maxRecDepth 100000 in
set_option maxHeartbeats 1000000 in
theorem firstEnd_any (s : ByteArray) (hs : s.size ≤ B40) (w : World) (hE : Ev w) :
    Calls Tryz.prog 81 #[.string s] w fun e W' => e = .returned (.int .i64 (fe s)) ∧ Below w.heap.size w W' := by
  unfold B40 at hs
  by_cases c1 : s.size ≤ 64
  · have e1 : fe s = s.size := if_pos c1
    rw [e1]
    have c1' : (s.size : Int) ≤ 64 := by omega
    clear hE e1
    go_enter Tryz.func81, Tryz.ntmps81
    go_wp2
    go_ret
    exact ⟨rfl, Below.refl _ w⟩
  obtain ⟨far, hfar⟩ : ∃ k, s.size - 32 = k := ⟨_, rfl⟩
  obtain ⟨full, hfull⟩ : ∃ k, min 64 far = k := ⟨_, rfl⟩
  obtain ⟨p, hp⟩ : ∃ p, pvC s (full + 1) = p := ⟨_, rfl⟩
  obtain ⟨q, hq⟩ : ∃ q, nxC s full = q := ⟨_, rfl⟩
  have f1 : (s.size : Int) - 32 = (far : Int) := by omega
  have f2 : min (64 : Int) (far : Int) = (full : Int) := by omega
  have f3 : full ≤ 64 := by omega
  have c1' : ¬ (s.size : Int) ≤ 64 := by omega
  have hp0 := pvC_is s (full + 1)
  have hq0 := nxC_is (s := s) (i := full) (by omega)
  rw [hp] at hp0
  rw [hq] at hq0
  have C1 : Hid (Calls Tryz.prog 106 #[.string s, .int .i64 ((full : Int) + 1)] w fun e W' => e = .returned (.int .i64 p) ∧ Below w.heap.size w W') :=
    (cprev_any s ((full : Int) + 1) (by unfold maxLen; omega) w hE.t (by omega)).mono fun e W' ⟨m, h1, h2, h3⟩ => ⟨by rw [h1, h2.uniq hp0], h3⟩
  have C2 : Hid (∀ W, Below w.heap.size w W → Calls Tryz.prog 55 #[.string s, .int .i64 full] W fun e W' => e = .returned (.int .i64 q) ∧ Below w.heap.size w W') := fun W hW =>
    (cnext_any s full (by unfold maxLen; omega) W (hE.below hW).t).mono fun e W' ⟨m, h1, h2, h3⟩ => ⟨by rw [h1, h2.uniq hq0], Below.on hW h3⟩
  have e1 : fe s = if 32 ≤ p then p else if q ≤ far then q else s.size := by
    unfold fe
    rw [if_neg c1, hfar, hfull, hp, hq]
  rw [e1]
  have b1 : far ≤ 1099511627776 := by omega
  clear hE e1 hp0 hq0 hp hq hfull hfar
  by_cases c2 : 32 ≤ p
  · rw [if_pos c2]
    have c2' : (32 : Int) ≤ p := by omega
    go_enter Tryz.func81, Tryz.ntmps81
    go_wp2_with (go_at_call 106; refine C1.out.mono ?_; clear C1; rintro e w1 ⟨rfl, hb1⟩)
    go_ret
    exact ⟨rfl, hb1⟩
  · rw [if_neg c2]
    have c2' : ¬ (32 : Int) ≤ p := by omega
    by_cases c3 : q ≤ far
    · rw [if_pos c3]
      have c3' : (q : Int) ≤ far := by omega
      go_enter Tryz.func81, Tryz.ntmps81
      go_wp2_with (first | (go_at_call 106; refine C1.out.mono ?_; clear C1; rintro e w1 ⟨rfl, hb1⟩; have HB : Hid (Below w.heap.size w w1) := hb1; clear hb1) | (go_at_call 55; refine (C2.out _ HB.out).mono ?_; clear C2; rintro e w2 ⟨rfl, hb2⟩))
      go_ret
      exact ⟨rfl, hb2⟩
    · rw [if_neg c3]
      have c3' : ¬ (q : Int) ≤ far := by omega
      go_enter Tryz.func81, Tryz.ntmps81
      go_wp2_with (first | (go_at_call 106; refine C1.out.mono ?_; clear C1; rintro e w1 ⟨rfl, hb1⟩; have HB : Hid (Below w.heap.size w w1) := hb1; clear hb1) | (go_at_call 55; refine (C2.out _ HB.out).mono ?_; clear C2; rintro e w2 ⟨rfl, hb2⟩))
      go_ret
      exact ⟨rfl, hb2⟩
end Go.Proofs.YtcjmfoadimpffaaGreatDoor
