/-
  Package rope's Slice, Replace and Split. Conditions: the two tables of unicode/utf8 lie as their text lays them; the texts hold together at most 1099511627776 bytes; the rope has the shape.
-/
import Derived.Test.YtcjmfoadimpffaaGreatDoorRText
namespace Go.Proofs.YtcjmfoadimpffaaGreatDoor
open Go.RowKit Go.Shelf Bod Wid

theorem Rp.of {w : World} {b : Nat} {x : Value} {t : Tr} (h : w.heap[b]? = some (.cells #[x] 92 (0, 0))) (k : At w t x) : Rp w t (.pointer (some ⟨b, 0, none⟩)) := .inr ⟨b, x, rfl, h, .inr k⟩
/-- the bytes that Slice answers, and its error -/
def slR (s : ByteArray) (f g : Int) : ByteArray × Int := if wthn s.size f g then (s.extract f.toNat g.toNat, 0) else (noB, 1)
set_option maxRecDepth 100000 in
set_option maxHeartbeats 1000000 in
theorem rslice_any {w : World} {t : Tr} {v : Value} (h : Rp w t v) (hs : t.text.size ≤ B40) (f g : Int) : Calls Tryz.prog 198 #[v, .int .i64 f, .int .i64 g] w fun e W' => e = .returned (.tuple #[.string (slR t.text f g).1, .int .i64 (slR t.text f g).2]) ∧ Below w.heap.size w W' := by
  have K1 : Hid (Calls Tryz.prog 44 #[v] w fun e W' => ∃ v, e = .returned v ∧ Hid (At W' t v ∧ Below w.heap.size w W')) := (rtree_any h).mono fun e W' ⟨v, h1, h2, h3⟩ => ⟨v, h1, h2, h3⟩
  have K2 : Hid (∀ W v, Hid (At W t v ∧ Below w.heap.size w W) → Calls Tryz.prog 200 #[v, .int .i64 f, .int .i64 g] W fun e W' => e = .returned (.bool (wthn t.text.size f g)) ∧ Hid (At W' t v ∧ Below w.heap.size w W')) := fun W v ⟨h1, hW⟩ => (rwithin_any h1 f g).mono fun e W' ⟨k1, k2⟩ => ⟨k1, h1.below k2, Below.on hW k2⟩
  unfold slR
  cases hw : wthn t.text.size f g with
  | false =>
    rw [hw] at K2
    simp only [Bool.false_eq_true, if_false]
    clear h hs hw
    go_enter Tryz.func198, Tryz.ntmps198
    go_wp2_with (first | (go_at_call 44; refine K1.out.mono ?_; clear K1; rintro e w1 ⟨v1, rfl, h1⟩) | (go_at_call 200; refine (K2.out _ _ h1).mono ?_; clear K2 h1; rintro e w2 ⟨rfl, h1⟩))
    exact bodyPost_ret (v := .tuple #[.string noB, .int .i64 1]) (by simp [results, Tryz.results198, go_sem, noB]) rfl ⟨rfl, h1.out.2⟩
  | true =>
    rw [hw] at K2
    simp only [if_true]
    have hw' := hw
    simp [wthn] at hw'
    obtain ⟨⟨c1, c2⟩, c3⟩ := hw'
    obtain ⟨i, hi⟩ : ∃ i : Nat, f.toNat = i := ⟨_, rfl⟩
    obtain ⟨j, hj⟩ : ∃ j : Nat, g.toNat = j := ⟨_, rfl⟩
    have e1 : f = (i : Int) := by omega
    have e2 : g = (j : Int) := by omega
    rw [hi, hj]
    subst e1
    subst e2
    have K3 : Hid (∀ W v, Hid (At W t v ∧ Below w.heap.size w W) → Calls Tryz.prog 48 #[v, .int .i64 i, .int .i64 j] W fun e W' => e = .returned (.string (t.text.extract i j)) ∧ Below w.heap.size w W') := fun W v ⟨h1, hW⟩ => (sliced_any h1 hs (by omega) (by omega)).mono fun e W' ⟨k1, k2⟩ => ⟨k1, Below.on hW k2⟩
    generalize t.text.extract i j = R at K3 ⊢
    clear h hs hw hi hj c1 c2 c3
    go_enter Tryz.func198, Tryz.ntmps198
    go_wp2_with (first | (go_at_call 44; refine K1.out.mono ?_; clear K1; rintro e w1 ⟨v1, rfl, h1⟩) | (go_at_call 200; refine (K2.out _ _ h1).mono ?_; clear K2 h1; rintro e w2 ⟨rfl, h1⟩) | (go_at_call 48; refine (K3.out _ _ h1).mono ?_; clear K3 h1; rintro e w3 ⟨rfl, h1⟩))
    exact bodyPost_ret (v := .tuple #[.string R, .int .i64 0]) (by simp [results, Tryz.results198, go_sem]) rfl ⟨rfl, h1⟩
set_option maxRecDepth 100000 in
set_option maxHeartbeats 1000000 in
theorem rrep_no {w : World} {t : Tr} {v : Value} (h : Rp w t v) (hs : t.text.size ≤ B40) (at' cut : Int) (put : ByteArray) (ha : -9223372036854775808 ≤ at' ∧ at' ≤ 9223372036854775807) (hc : at' < 0 ∨ cut < 0 ∨ (t.text.size : Int) < at' + cut) :
    Calls Tryz.prog 12 #[v, .int .i64 at', .int .i64 cut, .string put] w fun e W' => e = .returned (.tuple #[.pointer none, .string noB, .int .i64 1]) ∧ Below w.heap.size w W' := by
  unfold B40 at hs
  obtain ⟨m, hm⟩ : ∃ m, smr t.text = m := ⟨_, rfl⟩
  obtain ⟨n, hn⟩ : ∃ n, t.text.size = n := ⟨_, rfl⟩
  have y1 := fby (m := m) (n := n) (by rw [← hm, ← hn]; rfl)
  have K1 : Hid (Calls Tryz.prog 44 #[v] w fun e W' => ∃ T a fS, e = .returned (.iface T (.pointer (some a))) ∧ (∀ W, (method 356 T (.pointer (some a)) "Sum").run Tryz.prog W = .ok (fS, .pointer (some a)) W) ∧ (∀ args W, (callFunc fS args).run Tryz.prog W = .ok (.enter fS args) W) ∧ Hid (∀ W, Below W'.heap.size W' W → Calls Tryz.prog fS #[.pointer (some a)] W fun e X => e = .returned (sv m) ∧ Below W.heap.size W X) ∧ Hid (At W' t (.iface T (.pointer (some a))) ∧ Below w.heap.size w W')) := by
    rw [← hm]
    exact rtree_nd h
  rw [hn] at hs hc
  clear h hm hn
  by_cases c1 : at' < 0
  · go_enter Tryz.func12, Tryz.ntmps12
    go_wp2_with (go_at_call 44; refine K1.out.mono ?_; clear K1; rintro e w1 ⟨T, a, fS, rfl, m1, m2, S1, h1⟩)
    exact bodyPost_ret (v := .tuple #[.pointer none, .string noB, .int .i64 1]) (by simp [results, Tryz.results12, go_sem, noB]) rfl ⟨rfl, h1.out.2⟩
  · by_cases c2 : cut < 0
    · go_enter Tryz.func12, Tryz.ntmps12
      go_wp2_with (go_at_call 44; refine K1.out.mono ?_; clear K1; rintro e w1 ⟨T, a, fS, rfl, m1, m2, S1, h1⟩)
      exact bodyPost_ret (v := .tuple #[.pointer none, .string noB, .int .i64 1]) (by simp [results, Tryz.results12, go_sem, noB]) rfl ⟨rfl, h1.out.2⟩
    · have c3 : (n : Int) - at' < cut := by omega
      have c4 : 0 ≤ at' := by omega
      have c5 : at' ≤ 9223372036854775807 := ha.2
      clear hc
      go_enter Tryz.func12, Tryz.ntmps12
      go_wp2_with (first | (go_at_call 44; refine K1.out.mono ?_; clear K1; rintro e w1 ⟨T, a, fS, rfl, m1, m2, S1, h1⟩) | (go_at_fn fS; refine (S1.out _ (Below.refl _ w1)).mono ?_; clear S1; rintro e w2 ⟨rfl, hb2⟩; have H2 : Hid (Below w.heap.size w w2) := Below.on h1.out.2 hb2; clear h1 hb2))
      exact bodyPost_ret (v := .tuple #[.pointer none, .string noB, .int .i64 1]) (by simp [results, Tryz.results12, go_sem, noB]) rfl ⟨rfl, H2.out⟩
set_option maxRecDepth 100000 in
set_option maxHeartbeats 1000000 in
theorem rrep_ok {w : World} {t : Tr} {v : Value} (h : Rp w t v) (hG : Good t) (i c : Nat) (put : ByteArray) (hs : t.text.size + put.size ≤ B40) (hc : i + c ≤ t.text.size) (hE : Ev w) :
    Calls Tryz.prog 12 #[v, .int .i64 i, .int .i64 c, .string put] w fun e W' => ∃ b, e = .returned (.tuple #[.pointer (some ⟨b, 0, none⟩), .string (t.text.extract i (i + c)), .int .i64 0]) ∧ Rp W' (rep t i (i + c) put) (.pointer (some ⟨b, 0, none⟩)) ∧ Below w.heap.size w W' := by
  unfold B40 at hs
  obtain ⟨m, hm⟩ : ∃ m, smr t.text = m := ⟨_, rfl⟩
  obtain ⟨n, hn⟩ : ∃ n, t.text.size = n := ⟨_, rfl⟩
  have y1 := fby (m := m) (n := n) (by rw [← hm, ← hn]; rfl)
  have K1 : Hid (Calls Tryz.prog 44 #[v] w fun e W' => ∃ T a fS, e = .returned (.iface T (.pointer (some a))) ∧ (∀ W, (method 356 T (.pointer (some a)) "Sum").run Tryz.prog W = .ok (fS, .pointer (some a)) W) ∧ (∀ args W, (callFunc fS args).run Tryz.prog W = .ok (.enter fS args) W) ∧ Hid (Calls Tryz.prog fS #[.pointer (some a)] W' fun e X => e = .returned (sv m) ∧ Hid (At X t (.iface T (.pointer (some a))) ∧ Below w.heap.size w X))) := by
    rw [← hm]
    exact (rtree_nd h).mono fun e W' ⟨T, a, fS, h1, h2, h3, h4, h5⟩ => ⟨T, a, fS, h1, h2, h3, (h4.out _ (Below.refl _ _)).mono fun e X ⟨k1, k2⟩ => ⟨k1, h5.out.1.below k2, Below.on h5.out.2 k2⟩⟩
  obtain ⟨p1, p2, -, -⟩ := bef_ok hG (show i ≤ t.text.size by omega)
  obtain ⟨p3, p4, -, -⟩ := aft_ok hG hc
  have z1 := bef_sz hG (show i ≤ t.text.size by omega)
  have z2 := aft_sz hG hc
  obtain ⟨j, hj⟩ : ∃ j, i + c = j := ⟨_, rfl⟩
  rw [hj] at hc p3 p4 z2 ⊢
  have C1 : Hid (∀ W x, Hid (At W t x ∧ Below w.heap.size w W) → Calls Tryz.prog 45 #[x, .int .i64 i] W fun e W' => ∃ y, e = .returned (.tuple #[y, .string (bef t i).2]) ∧ Hid (At W' t x ∧ At W' (bef t i).1 y ∧ Below w.heap.size w W')) := fun W x ⟨h1, hW⟩ =>
    (before_any h1 hG.fine hG.avl (by omega) (by unfold B40; omega) (hE.below hW)).mono fun e W' ⟨y, k1, k2, k3⟩ => ⟨y, k1, h1.below k3, k2, Below.on hW k3⟩
  have C2 : Hid (∀ W x y, Hid (At W t x ∧ At W (bef t i).1 y ∧ Below w.heap.size w W) → Calls Tryz.prog 46 #[x, .int .i64 j] W fun e W' => ∃ z, e = .returned (.tuple #[.string (aft t j).1, z]) ∧ Hid (At W' t x ∧ At W' (bef t i).1 y ∧ At W' (aft t j).2 z ∧ Below w.heap.size w W')) := fun W x y ⟨h1, h2, hW⟩ =>
    (after_any h1 hG.fine hG.avl hc (by unfold B40; omega) (hE.below hW)).mono fun e W' ⟨z, k1, k2, k3⟩ => ⟨z, k1, h1.below k3, h2.below k3, k2, Below.on hW k3⟩
  have C3 : Hid (∀ W x y z, Hid (At W t x ∧ At W (bef t i).1 y ∧ At W (aft t j).2 z ∧ Below w.heap.size w W) → Calls Tryz.prog 47 #[y, .string ((bef t i).2 ++ put ++ (aft t j).1), z] W fun e W' => ∃ T p, e = .returned (.iface T p) ∧ Hid (At W' t x ∧ At W' (rep t i j put) (.iface T p) ∧ Below w.heap.size w W')) := fun W x y z ⟨h1, h2, h3, hW⟩ =>
    (laid_any h2 h3 p1 p3 p2 p4 (by rw [size_app, size_app]; unfold B40; omega) (hE.below hW)).mono fun e W' ⟨v, k1, k2, k3⟩ => by
      obtain ⟨T, a, _, _, _, _, rfl, -⟩ := k2.nd
      exact ⟨T, _, k1, h1.below k3, k2, Below.on hW k3⟩
  have C4 : Hid (∀ W x T p, Hid (At W t x ∧ At W (rep t i j put) (.iface T p) ∧ Below w.heap.size w W) → Calls Tryz.prog 48 #[x, .int .i64 i, .int .i64 j] (W.alloc (.cells #[.iface T p] 92)) fun e W' => e = .returned (.string (t.text.extract i j)) ∧ Hid (Rp W' (rep t i j put) (.pointer (some ⟨W.heap.size, 0, none⟩)) ∧ Below w.heap.size w W')) := fun W x T p ⟨h1, h2, hW⟩ => by
    have hb := (Below.refl _ W).alloc (Nat.le_refl _) (.cells #[.iface T p] 92)
    have hR : Rp (W.alloc (.cells #[.iface T p] 92)) (rep t i j put) (.pointer (some ⟨W.heap.size, 0, none⟩)) := Rp.of (World.alloc_heap_new W _) (h2.below hb)
    exact (sliced_any (h1.below hb) (by unfold B40; omega) (by omega) hc).mono fun e W' ⟨k1, k2⟩ => ⟨k1, hR.below k2, Below.on (Below.on hW hb) k2⟩
  have b1 : (bef t i).2.size ≤ 1099511627776 := by omega
  have b2 : (aft t j).1.size ≤ 1099511627776 := by omega
  have b3 : put.size ≤ 1099511627776 := by omega
  generalize t.text.extract i j = R at C4 ⊢
  generalize rep t i j put = RT at C3 C4 ⊢
  generalize bef t i = BF at *
  generalize aft t j = AG at *
  have e1 : (i : Int) + c = (j : Int) := by omega
  have b4 : i ≤ 1099511627776 := by omega
  have b5 : c ≤ 1099511627776 := by omega
  have b6 : ¬ (n : Int) - i < c := by omega
  have b7 : n ≤ 1099511627776 := by omega
  clear h hG hs hc hE hm hn p1 p2 p3 p4 z1 z2 hj
  go_enter Tryz.func12, Tryz.ntmps12
  go_wp2_with (first | (go_at_call 44; refine K1.out.mono ?_; clear K1; rintro e w1 ⟨T, a, fS, rfl, m1, m2, S1⟩) | (go_at_fn fS; refine S1.out.mono ?_; clear S1; rintro e w2 ⟨rfl, h1⟩) | (go_at_call 45; refine (C1.out _ _ h1).mono ?_; clear C1 h1; rintro e w3 ⟨y3, rfl, h1⟩) | (go_at_call 46; refine (C2.out _ _ _ h1).mono ?_; clear C2 h1; rintro e w4 ⟨z4, rfl, h1⟩) | (go_at_call 47; refine (C3.out _ _ _ _ h1).mono ?_; clear C3 h1; rintro e w5 ⟨U, q5, rfl, h1⟩) | (go_at_call 48; refine (C4.out _ _ _ _ h1).mono ?_; clear C4 h1; rintro e w6 ⟨rfl, h1⟩))
  exact bodyPost_ret (v := .tuple #[.pointer (some ⟨w5.heap.size, 0, none⟩), .string R, .int .i64 0]) (by simp [results, Tryz.results12, go_sem]) rfl ⟨_, rfl, h1.out⟩
end Go.Proofs.YtcjmfoadimpffaaGreatDoor
