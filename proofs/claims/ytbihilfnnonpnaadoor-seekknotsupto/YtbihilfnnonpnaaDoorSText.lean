/-
  The law's helper text: the text of a tree of package seek, and that each knot has its sum. Conditions: the two tables of unicode/utf8 lie as their text lays them; the text holds at most 1099511627776 bytes.
-/
import Derived.Test.YtbihilfnnonpnaaDoorPkO
import Derived.Deep.RegionHeld3
import Derived.Lib.QuietBelow
import Derived.BigQuiet
import Derived.Test.YtbihilfnnonpnaaDoorCRd
namespace Go.Proofs.YtbihilfnnonpnaaDoor
open Go.RowKit Go.Shelf Bod Wid

theorem ssv_eq (m : Sum) (W : World) : (binOp .eql 48 (sv m) (sv m)).run Tryd.prog W = .ok (.bool true) W := sv_same m m rfl W
set_option maxRecDepth 100000 in
set_option maxHeartbeats 1000000 in
theorem text_any : ∀ {t : Tr} {w : World} {v : Value}, Nt w t v → t.text.size ≤ 1099511627776 → Ev w → Calls Tryd.prog 9 #[v] w fun e W' => e = .returned (.tuple #[.string t.text, .bool true]) ∧ Below w.heap.size w W'
  | .leaf s, w, v, h, hs, hE => by
    have hs : s.size ≤ 1099511627776 := hs
    obtain ⟨T, a, fS, fP, fT, rfl, ms⟩ := h
    obtain ⟨m1, m2⟩ := ms.ms
    obtain ⟨m3, m4⟩ := ms.mp
    obtain ⟨m5, m6⟩ := ms.mt
    obtain ⟨m, hm⟩ : ∃ m, smr s = m := ⟨_, rfl⟩
    have P1 : Hid (Calls Tryd.prog fP #[.pointer (some a)] w fun e W' => e = .returned (.tuple #[.nilIface, .nilIface, .bool false]) ∧ Hid (Below w.heap.size w W')) := ms.cp w (Below.refl _ w)
    have X1 : Hid (∀ W, Hid (Below w.heap.size w W) → Calls Tryd.prog fT #[.pointer (some a)] W fun e W' => e = .returned (.string s) ∧ Hid (Below w.heap.size w W')) := fun W hW => (ms.ct W hW).mono fun e W' ⟨k1, k2⟩ => ⟨k1, Below.on hW k2⟩
    have S1 : Hid (∀ W, Hid (Below w.heap.size w W) → Calls Tryd.prog fS #[.pointer (some a)] W fun e W' => e = .returned (sv m) ∧ Hid (Below w.heap.size w W')) := fun W hW => (ms.cs W hW).mono fun e W' ⟨k1, k2⟩ => ⟨by rw [k1, ← hm]; rfl, Below.on hW k2⟩
    have C1 : Hid (∀ W, Hid (Below w.heap.size w W) → Calls Tryd.prog 27 #[.string s] W fun e W' => e = .returned (sv m) ∧ Hid (Below w.heap.size w W')) := fun W hW => (measure_any s (by omega) W (hE.below hW).t (hE.below hW).l0 (hE.below hW).l1).mono fun e W' ⟨k1, k2⟩ => ⟨by rw [k1, hm], Below.on hW k2⟩
    have q1 := fun W => ssv_eq m W
    have q2 := fun W => eq_nil T (.pointer (some a)) W
    show Calls _ _ _ _ fun e W' => e = .returned (.tuple #[.string s, .bool true]) ∧ _
    clear ms hE hm
    go_enter Tryd.func9, Tryd.ntmps9
    go_wp2_with (go_at_fn fP; refine P1.out.mono ?_; clear P1; rintro e w1 ⟨rfl, h1⟩)
    go_region_held3 (fun _ => True) (trivial) (first | (go_at_fn fT; (first | refine (X1.out _ h1).mono ?_ | refine (X1.out _ h1.out.drew).mono ?_); clear h1; rintro e w2 ⟨rfl, h1⟩) | (go_at_fn fS; (first | refine (S1.out _ h1).mono ?_ | refine (S1.out _ h1.out.drew).mono ?_); clear h1; rintro e w3 ⟨rfl, h1⟩) | (go_at_call 27; refine (C1.out _ h1).mono ?_; clear h1; rintro e w4 ⟨rfl, h1⟩))
    all_goals go_wp2
    all_goals exact bodyPost_ret (v := .tuple #[.string s, .bool true]) (by simp [results, Tryd.results9, go_sem]) rfl ⟨rfl, h1.out⟩
  | .knot l r, w, v, h, hs, hE => by
    have hs : (l.text ++ r.text).size ≤ 1099511627776 := hs
    rw [size_app] at hs
    obtain ⟨T, a, fS, fP, fT, x, y, rfl, ms, hl, hr⟩ := h
    obtain ⟨m1, m2⟩ := ms.ms
    obtain ⟨m3, m4⟩ := ms.mp
    obtain ⟨m5, m6⟩ := ms.mt
    obtain ⟨a1, ha1⟩ : ∃ s, l.text = s := ⟨_, rfl⟩
    obtain ⟨a2, ha2⟩ : ∃ s, r.text = s := ⟨_, rfl⟩
    obtain ⟨TX, hTX⟩ : ∃ s, a1 ++ a2 = s := ⟨_, rfl⟩
    have htx : (Tr.knot l r).text = TX := by show l.text ++ r.text = TX; rw [ha1, ha2, hTX]
    obtain ⟨m, hm⟩ : ∃ m, smr TX = m := ⟨_, rfl⟩
    rw [ha1, ha2] at hs
    have P1 : Hid (Calls Tryd.prog fP #[.pointer (some a)] w fun e W' => e = .returned (.tuple #[x, y, .bool true]) ∧ Hid (Below w.heap.size w W')) := ms.cp w (Below.refl _ w)
    have X0 : Hid (∀ W, Below w.heap.size w W → Calls Tryd.prog fT #[.pointer (some a)] W fun e W' => e = .returned (.string ⟨#[]⟩) ∧ Below W.heap.size W W') := ms.ct
    have S0 : Hid (∀ W, Below w.heap.size w W → Calls Tryd.prog fS #[.pointer (some a)] W fun e W' => e = .returned (sv m) ∧ Below W.heap.size W W') := fun W hW => (ms.cs W hW).mono fun e W' ⟨k1, k2⟩ => ⟨by rw [k1, htx, hm], k2⟩
    have C1' : Hid (∀ W, Below w.heap.size w W → Calls Tryd.prog 27 #[.string TX] W fun e W' => e = .returned (sv m) ∧ Below W.heap.size W W') := fun W hW => (measure_any TX (by rw [← hTX, size_app]; omega) W (hE.below hW).t (hE.below hW).l0 (hE.below hW).l1).mono fun e W' ⟨k1, k2⟩ => ⟨by rw [k1, hm], k2⟩
    have HM : Hid (Tryd.prog.follows .mixedOrders = true) := by show _ = _; kernel_rfl
    have X1 : Hid (∀ W, Hid (Below w.heap.size w W) → Calls Tryd.prog fT #[.pointer (some a)] W fun e W' => e = .returned (.string ⟨#[]⟩) ∧ Hid (Below w.heap.size w W')) := fun W hW => (ms.ct W hW).mono fun e W' ⟨k1, k2⟩ => ⟨k1, Below.on hW k2⟩
    have S1 : Hid (∀ W, Hid (Below w.heap.size w W) → Calls Tryd.prog fS #[.pointer (some a)] W fun e W' => e = .returned (sv m) ∧ Hid (Below w.heap.size w W')) := fun W hW => (ms.cs W hW).mono fun e W' ⟨k1, k2⟩ => ⟨by rw [k1, htx, hm], Below.on hW k2⟩
    have C1 : Hid (∀ W, Hid (Below w.heap.size w W) → Calls Tryd.prog 27 #[.string TX] W fun e W' => e = .returned (sv m) ∧ Hid (Below w.heap.size w W')) := fun W hW => (measure_any TX (by rw [← hTX, size_app]; omega) W (hE.below hW).t (hE.below hW).l0 (hE.below hW).l1).mono fun e W' ⟨k1, k2⟩ => ⟨by rw [k1, hm], Below.on hW k2⟩
    have K1 : Hid (∀ W, Hid (Below w.heap.size w W) → Calls Tryd.prog 9 #[x] W fun e W' => e = .returned (.tuple #[.string a1, .bool true]) ∧ Hid (Below w.heap.size w W')) := fun W hW => (text_any (hl.below hW) (by rw [ha1]; omega) (hE.below hW)).mono fun e W' ⟨k1, k2⟩ => ⟨by rw [k1, ha1], Below.on hW k2⟩
    have K2 : Hid (∀ W, Hid (Below w.heap.size w W) → Calls Tryd.prog 9 #[y] W fun e W' => e = .returned (.tuple #[.string a2, .bool true]) ∧ Hid (Below w.heap.size w W')) := fun W hW => (text_any (hr.below hW) (by rw [ha2]; omega) (hE.below hW)).mono fun e W' ⟨k1, k2⟩ => ⟨by rw [k1, ha2], Below.on hW k2⟩
    have q1 := fun W => ssv_eq m W
    have q2 := fun W => eq_nil T (.pointer (some a)) W
    rw [htx]
    have q3 : ∀ W, (binOp .add 9 (.string a1) (.string a2)).run Tryd.prog W = .ok (.string TX) W := fun W => by
      rw [← hTX]
      simp [go_sem]
      omega
    obtain ⟨T1, d1, _, _, _, _, rfl, -⟩ := hl.nd
    obtain ⟨T2, d2, _, _, _, _, rfl, -⟩ := hr.nd
    clear ms hE hm htx ha1 ha2 hl hr
    go_enter Tryd.func9, Tryd.ntmps9
    go_wp2_with (first | (go_at_fn fP; refine P1.out.mono ?_; clear P1; rintro e w1 ⟨rfl, h1⟩) | (go_at_call 9; refine (K1.out _ h1).mono ?_; clear K1 h1; rintro e w2 ⟨rfl, h1⟩) | (go_at_call 9; refine (K2.out _ h1).mono ?_; clear K2 h1; rintro e w3 ⟨rfl, h1⟩))
    have cQ1 := regrown (W := w3) (f := fT) (args := #[.pointer (some a)]) (v := .string ⟨#[]⟩) (fun W hW => (X0.out W (Below.on h1.out hW)))
    have cQ2 := regrown (W := w3) (f := fS) (args := #[.pointer (some a)]) (v := sv m) (fun W hW => (S0.out W (Below.on h1.out hW)))
    have cQ3 := regrown (W := w3) (f := 27) (args := #[.string TX]) (v := sv m) (fun W hW => (C1'.out W (Below.on h1.out hW)))
    refine wp_region_quiet_below HM.out (by kernel_rfl) ?_
    repeat (go_big_quiet_step (first | exact cQ1 _ _ | exact cQ2 _ _ | exact cQ3 _ _))
    refine wpQuiet_nil ?_
    intro _ hw'
    obtain ⟨⟨dq, osq⟩, hw''⟩ := hw'
    subst hw''
    have hbq := Below.on h1.out (below_regrown w3 dq osq)
    clear cQ1 cQ2 cQ3
    go_wp2
    exact bodyPost_ret (v := .tuple #[.string TX, .bool true]) (by simp [results, Tryd.results9, go_sem]) rfl ⟨rfl, hbq⟩
end Go.Proofs.YtbihilfnnonpnaaDoor
