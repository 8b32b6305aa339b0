/-
  Package seek's questions, and the laws' asked and awake. Conditions: those of each theorem.
-/
import Derived.Test.YtiehhafbblbbiabDoorSConF
import Derived.Test.YtiehhafbblbbiabDoorPkW
namespace Go.Proofs.YtiehhafbblbbiabDoor
open Go.RowKit Go.Shelf Bod Wid

set_option maxRecDepth 100000 in
set_option maxHeartbeats 1000000 in
theorem sclusters_any {w : World} {t : Tr} {v : Value} (h : Nv w t v) (hs : t.text.size ≤ 1099511627776) (a : Int) (ha : -9223372036854775808 ≤ a ∧ a ≤ 9223372036854775807) (hE : Ev w) :
    Calls Tryd.prog 9 #[v, .int .i64 a] w fun e W' => e = .returned (.int .i64 (cn .C t.text (hld t.text a))) ∧ Below w.heap.size w W' := by
  have C1 : Hid (Calls Tryd.prog 19 #[v] w fun e W' => ∃ T p, e = .returned (.iface T p) ∧ Hid (Nt W' t (.iface T p) ∧ Below w.heap.size w W')) := (ssome_any h hE).mono fun e W' ⟨T, p, h1, h2⟩ => ⟨T, p, h1, h2⟩
  have C2 : Hid (∀ W T p, Hid (Nt W t (.iface T p) ∧ Below w.heap.size w W) → Calls Tryd.prog 22 #[.iface T p, .int .i64 a] W fun e W' => ∃ P Q, e = .returned (plv (smr P) (hd Q)) ∧ Hid (P ++ Q = t.text ∧ P.size = hld t.text a ∧ Below w.heap.size w W')) := fun W T p hW => (place_any hW.out.1 hs a ha (hE.below hW.out.2)).mono fun e W' ⟨P, Q, k1, k2, k3, k4⟩ => ⟨P, Q, k1, k2, k3, Below.on hW.out.2 k4⟩
  have C3 : Hid (∀ W P Q, Hid (P ++ Q = t.text ∧ P.size = hld t.text a ∧ Below w.heap.size w W) → Calls Tryd.prog 23 #[plv (smr P) (hd Q), ckv .C] W fun e W' => e = .returned (.int .i64 (cn .C t.text (hld t.text a))) ∧ Hid (Below w.heap.size w W')) := fun W P Q hW => by
    obtain ⟨h1, h2, h3⟩ := hW.out
    have := begun_any' .C P Q (by have := congrArg ByteArray.size h1; rw [size_app] at this; omega) W (hE.below h3)
    rw [h1, h2] at this
    exact this.mono fun e W' ⟨k1, k2⟩ => ⟨k1, Below.on h3 k2⟩
  clear h hE
  go_enter Tryd.func9, Tryd.ntmps9
  go_wp2_with (first | (go_at_call 19; refine C1.out.mono ?_; clear C1; rintro e w1 ⟨T, p, rfl, H⟩) | (go_at_call 22; refine (C2.out _ _ _ H).mono ?_; clear C2 H; rintro e w2 ⟨P, Q, rfl, H⟩) | (go_at_call 23; refine (C3.out _ _ _ H).mono ?_; clear C3 H; rintro e w3 ⟨rfl, H⟩))
  go_ret
  exact ⟨rfl, H.out⟩
set_option maxRecDepth 100000 in
set_option maxHeartbeats 1000000 in
theorem slines_any {w : World} {t : Tr} {v : Value} (h : Nv w t v) (hs : t.text.size ≤ 1099511627776) (a : Int) (ha : -9223372036854775808 ≤ a ∧ a ≤ 9223372036854775807) (hE : Ev w) :
    Calls Tryd.prog 13 #[v, .int .i64 a] w fun e W' => e = .returned (.int .i64 (nlt t.text (hld t.text a))) ∧ Below w.heap.size w W' := by
  have C1 : Hid (Calls Tryd.prog 19 #[v] w fun e W' => ∃ T p, e = .returned (.iface T p) ∧ Hid (Nt W' t (.iface T p) ∧ Below w.heap.size w W')) := (ssome_any h hE).mono fun e W' ⟨T, p, h1, h2⟩ => ⟨T, p, h1, h2⟩
  have C2 : Hid (∀ W T p, Hid (Nt W t (.iface T p) ∧ Below w.heap.size w W) → Calls Tryd.prog 22 #[.iface T p, .int .i64 a] W fun e W' => ∃ P Q, e = .returned (plv (smr P) (hd Q)) ∧ Hid (P ++ Q = t.text ∧ P.size = hld t.text a ∧ Below w.heap.size w W')) := fun W T p hW => (place_any hW.out.1 hs a ha (hE.below hW.out.2)).mono fun e W' ⟨P, Q, k1, k2, k3, k4⟩ => ⟨P, Q, k1, k2, k3, Below.on hW.out.2 k4⟩
  have hle : hld t.text a ≤ t.text.size := by unfold hld; omega
  have C3 : Hid (∀ W P Q, Hid (P ++ Q = t.text ∧ P.size = hld t.text a ∧ Below w.heap.size w W) → Calls Tryd.prog 23 #[plv (smr P) (hd Q), ckv .L] W fun e W' => e = .returned (.int .i64 (nlt t.text (hld t.text a))) ∧ Hid (Below w.heap.size w W')) := fun W P Q hW => by
    obtain ⟨h1, h2, h3⟩ := hW.out
    have := begun_any' .L P Q (by have := congrArg ByteArray.size h1; rw [size_app] at this; omega) W (hE.below h3)
    rw [h1, h2, cn_lf _ hle] at this
    exact this.mono fun e W' ⟨k1, k2⟩ => ⟨k1, Below.on h3 k2⟩
  clear h hE
  go_enter Tryd.func13, Tryd.ntmps13
  go_wp2_with (first | (go_at_call 19; refine C1.out.mono ?_; clear C1; rintro e w1 ⟨T, p, rfl, H⟩) | (go_at_call 22; refine (C2.out _ _ _ H).mono ?_; clear C2 H; rintro e w2 ⟨P, Q, rfl, H⟩) | (go_at_call 23; refine (C3.out _ _ _ H).mono ?_; clear C3 H; rintro e w3 ⟨rfl, H⟩))
  go_ret
  exact ⟨rfl, H.out⟩
set_option maxRecDepth 100000 in
set_option maxHeartbeats 1000000 in
theorem scell_any {w : World} {t : Tr} {v : Value} (h : Nv w t v) (hs : t.text.size ≤ 1099511627776) (n : Int) (hE : Ev w) :
    Calls Tryd.prog 15 #[v, .int .i64 n] w fun e W' => e = .returned (.tuple #[.int .i64 (fnd .N t.text n).1, .int .i64 (fnd .N t.text n).2]) ∧ Below w.heap.size w W' := by
  have C1 : Hid (Calls Tryd.prog 19 #[v] w fun e W' => ∃ T p, e = .returned (.iface T p) ∧ Hid (Nt W' t (.iface T p) ∧ Below w.heap.size w W')) := (ssome_any h hE).mono fun e W' ⟨T, p, h1, h2⟩ => ⟨T, p, h1, h2⟩
  have C2 : Hid (∀ W T p, Hid (Nt W t (.iface T p) ∧ Below w.heap.size w W) → Calls Tryd.prog 20 #[.iface T p, ckv .N, .int .i64 n] W fun e W' => e = .returned (.tuple #[.int .i64 (fnd .N t.text n).1, .int .i64 (fnd .N t.text n).2]) ∧ Hid (Below w.heap.size w W')) := fun W T p hW => (found_any .N hW.out.1 hs n (hE.below hW.out.2)).mono fun e W' ⟨k1, k2⟩ => ⟨k1, Below.on hW.out.2 k2⟩
  obtain ⟨x, hx⟩ : ∃ x, (fnd .N t.text n).1 = x := ⟨_, rfl⟩
  obtain ⟨y, hy⟩ : ∃ x, (fnd .N t.text n).2 = x := ⟨_, rfl⟩
  rw [hx, hy] at C2 ⊢
  clear h hE hx hy
  go_enter Tryd.func15, Tryd.ntmps15
  go_wp2_with (first | (go_at_call 19; refine C1.out.mono ?_; clear C1; rintro e w1 ⟨T, p, rfl, H⟩) | (go_at_call 20; refine (C2.out _ _ _ H).mono ?_; clear C2 H; rintro e w2 ⟨rfl, H⟩))
  go_ret2
  exact ⟨rfl, H.out⟩
set_option maxRecDepth 100000 in
set_option maxHeartbeats 1000000 in
theorem sline_any {w : World} {t : Tr} {v : Value} (h : Nv w t v) (hs : t.text.size ≤ 1099511627776) (n : Int) (hn : -9223372036854775808 ≤ n ∧ n ≤ 9223372036854775807) (hE : Ev w) :
    Calls Tryd.prog 12 #[v, .int .i64 n] w fun e W' => e = .returned (.tuple #[.int .i64 (fli t.text n).1, .int .i64 (fli t.text n).2]) ∧ Below w.heap.size w W' := by
  by_cases c0 : n = 0
  · subst c0
    clear hE h
    go_enter Tryd.func12, Tryd.ntmps12
    go_wp2
    go_ret2
    exact ⟨rfl, Below.refl _ _⟩
  have C1 : Hid (Calls Tryd.prog 19 #[v] w fun e W' => ∃ T p, e = .returned (.iface T p) ∧ Hid (Nt W' t (.iface T p) ∧ Below w.heap.size w W')) := (ssome_any h hE).mono fun e W' ⟨T, p, h1, h2⟩ => ⟨T, p, h1, h2⟩
  have C2 : Hid (∀ W T p, Hid (Nt W t (.iface T p) ∧ Below w.heap.size w W) → Calls Tryd.prog 20 #[.iface T p, ckv .L, .int .i64 (max n 0 - 1)] W fun e W' => e = .returned (.tuple #[.int .i64 (fnd .L t.text (max n 0 - 1)).1, .int .i64 (fnd .L t.text (max n 0 - 1)).2]) ∧ Hid (Below w.heap.size w W')) := fun W T p hW => (found_any .L hW.out.1 hs _ (hE.below hW.out.2)).mono fun e W' ⟨k1, k2⟩ => ⟨k1, Below.on hW.out.2 k2⟩
  by_cases c1 : 0 ≤ n - 1 ∧ n - 1 < tot .L t.text
  · have e1 : fli t.text n = ((pos .L t.text (n - 1) : Int) + 1, 0) := by unfold fli; rw [if_neg c0, if_pos c1]
    have e2 : max n 0 - 1 = n - 1 := by omega
    have e3 : fnd .L t.text (n - 1) = ((pos .L t.text (n - 1) : Int), 0) := by unfold fnd; rw [if_pos c1]
    have hp := (pos_ok .L t.text c1.1 c1.2).2.2
    rw [e2, e3] at C2
    rw [e1]
    generalize pos .L t.text (n - 1) = q at *
    have hq : q ≤ 1099511627776 := by omega
    have m0 : max n 0 = n := by omega
    clear h hE e1 e3 c1
    go_enter Tryd.func12, Tryd.ntmps12
    go_wp2_with (first | (go_at_call 19; refine C1.out.mono ?_; clear C1; rintro e w1 ⟨T, p, rfl, H⟩) | (go_at_call 20; refine (C2.out _ _ _ H).mono ?_; clear C2 H; rintro e w2 ⟨rfl, H⟩))
    go_ret2
    exact ⟨rfl, H.out⟩
  · have e1 : fli t.text n = (0, 1) := by unfold fli; rw [if_neg c0, if_neg c1]
    have e3 : fnd .L t.text (max n 0 - 1) = (0, 1) := by unfold fnd; rw [if_neg (by omega)]
    rw [e3] at C2
    rw [e1]
    have m0 : 0 ≤ max n 0 ∧ max n 0 ≤ 9223372036854775807 := by omega
    clear h hE e1 e3 c1
    go_enter Tryd.func12, Tryd.ntmps12
    go_wp2_with (first | (go_at_call 19; refine C1.out.mono ?_; clear C1; rintro e w1 ⟨T, p, rfl, H⟩) | (go_at_call 20; refine (C2.out _ _ _ H).mono ?_; clear C2 H; rintro e w2 ⟨rfl, H⟩))
    go_ret2
    exact ⟨rfl, H.out⟩
end Go.Proofs.YtiehhafbblbbiabDoor
namespace Go.Proofs.YtiehhafbblbbiabDoor
open Go.RowKit Go.Shelf Bod Wid

set_option maxRecDepth 100000 in
set_option maxHeartbeats 1000000 in
theorem scluster_any {w : World} {t : Tr} {v : Value} (h : Nv w t v) (hs : t.text.size ≤ 1099511627776) (n : Int) (hE : Ev w) :
    Calls Tryd.prog 7 #[v, .int .i64 n] w fun e W' => e = .returned (.tuple #[.int .i64 (fcl t.text n).1, .int .i64 (fcl t.text n).2]) ∧ Below w.heap.size w W' := by
  have C1 : Hid (Calls Tryd.prog 19 #[v] w fun e W' => ∃ T p fS, e = .returned (.iface T (.pointer (some p))) ∧ Mt T p "Sum" fS ∧ Hid (∀ W2, Below W'.heap.size W' W2 → Calls Tryd.prog fS #[.pointer (some p)] W2 fun e X => e = .returned (sv (smr t.text)) ∧ Below W2.heap.size W2 X) ∧ Hid (Nt W' t (.iface T (.pointer (some p))) ∧ Below w.heap.size w W')) := (ssome_any h hE).mono fun e W' ⟨T, q, h1, h2, h3⟩ => by
    obtain ⟨T', p, fS, _, _, _, e1, ms, -⟩ := h2.nd
    cases e1
    exact ⟨T, p, fS, h1, ms.ms, ms.cs, h2, h3⟩
  have C2 : Hid (∀ W T p, Hid (Nt W t (.iface T p) ∧ Below w.heap.size w W) → Calls Tryd.prog 20 #[.iface T p, ckv .C, .int .i64 n] W fun e W' => e = .returned (.tuple #[.int .i64 (fnd .C t.text n).1, .int .i64 (fnd .C t.text n).2]) ∧ Hid (Below w.heap.size w W')) := fun W T p hW => (found_any .C hW.out.1 hs n (hE.below hW.out.2)).mono fun e W' ⟨k1, k2⟩ => ⟨k1, Below.on hW.out.2 k2⟩
  obtain ⟨m, hm⟩ : ∃ m, smr t.text = m := ⟨_, rfl⟩
  have h1 : m.by' = (t.text.size : Int) := by rw [← hm]; rfl
  have h2 : m.cl = tot .C t.text := by rw [← hm]; exact kc_smr .C t.text
  rw [hm] at C1
  by_cases c : n = tot .C t.text
  · have e : fcl t.text n = (m.by', 0) := by unfold fcl; rw [if_pos c, h1]
    rw [e]
    have c' : n = m.cl := by rw [h2]; exact c
    subst c'
    clear h hE e c h1 h2 hm C2
    go_enter Tryd.func7, Tryd.ntmps7
    go_wp2_with (first | (go_at_call 19; refine C1.out.mono ?_; clear C1; rintro e w1 ⟨T, p, fS, rfl, ⟨m1, m2⟩, CS, H⟩) | (go_at_fn fS; refine (CS.out _ (Below.refl _ _)).mono ?_; clear CS; rintro e w2 ⟨rfl, hb2⟩; have HB : Hid (Below w1.heap.size w1 w2) := hb2; clear hb2))
    go_ret2
    exact ⟨rfl, (Below.on H.out.2 HB.out).alloc (Below.on H.out.2 HB.out).size _⟩
  · have e : fcl t.text n = fnd .C t.text n := by unfold fcl; rw [if_neg c]
    rw [e]
    have c' : ¬ n = m.cl := by rw [h2]; exact c
    obtain ⟨x, hx⟩ : ∃ x, (fnd .C t.text n).1 = x := ⟨_, rfl⟩
    obtain ⟨y, hy⟩ : ∃ x, (fnd .C t.text n).2 = x := ⟨_, rfl⟩
    rw [hx, hy] at C2 ⊢
    clear h hE e c h1 h2 hm hx hy
    go_enter Tryd.func7, Tryd.ntmps7
    go_wp2_with (first | (go_at_call 19; refine C1.out.mono ?_; clear C1; rintro e w1 ⟨T, p, fS, rfl, ⟨m1, m2⟩, CS, H⟩) | (go_at_fn fS; refine (CS.out _ (Below.refl _ _)).mono ?_; clear CS; rintro e w2 ⟨rfl, hb2⟩; have HB : Hid (Nt (w2.alloc (.cells (scs m) 42)) t (.iface T (.pointer (some p))) ∧ Below w.heap.size w (w2.alloc (.cells (scs m) 42))) := ⟨H.out.1.below (hb2.alloc hb2.size _), (Below.on H.out.2 hb2).alloc (Below.on H.out.2 hb2).size _⟩; clear hb2 H) | (go_at_call 20; refine (C2.out _ _ _ HB).mono ?_; clear C2 HB; rintro e w3 ⟨rfl, H⟩))
    go_ret2
    exact ⟨rfl, H.out⟩
/-- the place's box, and the tree -/
structure CE (w : World) (t : Tr) (u : Value) (q : Nat) (m : Sum) (Z : ByteArray) (W : World) : Prop where
  p : W.heap[q]? = some (.cells (pcs m Z) 51 (0, 0))
  n : Nt W t u
  b : Below w.heap.size w W
theorem CE.below {w W X : World} {t : Tr} {u : Value} {q : Nat} {m : Sum} {Z : ByteArray} (h : CE w t u q m Z W) (hb : Below W.heap.size W X) : CE w t u q m Z X := ⟨(hb.block _ (Array.getElem?_eq_some_iff.1 h.p).1).trans h.p, h.n.below hb, Below.on h.b hb⟩
set_option maxRecDepth 100000 in
set_option maxHeartbeats 2000000 in
theorem scells_any {w : World} {t : Tr} {v : Value} (h : Nv w t v) (hs : t.text.size ≤ 1099511627776) (a : Int) (ha : -9223372036854775808 ≤ a ∧ a ≤ 9223372036854775807) (hE : Ev w) :
    Calls Tryd.prog 14 #[v, .int .i64 a] w fun e W' => e = .returned (.int .i64 (ceL (hld t.text a) (cl t.text))) ∧ Below w.heap.size w W' := by
  have C1 : Hid (Calls Tryd.prog 19 #[v] w fun e W' => ∃ T p, e = .returned (.iface T p) ∧ Hid (Nt W' t (.iface T p) ∧ Below w.heap.size w W')) := (ssome_any h hE).mono fun e W' ⟨T, p, h1, h2⟩ => ⟨T, p, h1, h2⟩
  have hle : hld t.text a ≤ t.text.size := by unfold hld; omega
  obtain ⟨H, hH⟩ : ∃ H, hld t.text a = H := ⟨_, rfl⟩
  have C2 : Hid (∀ W T p, Hid (Nt W t (.iface T p) ∧ Below w.heap.size w W) → Calls Tryd.prog 22 #[.iface T p, .int .i64 a] W fun e W' => ∃ m Z, e = .returned (plv m Z) ∧ Hid (∃ P Q, m = smr P ∧ Z = hd Q ∧ P ++ Q = t.text ∧ P.size = H) ∧ Hid (w.heap.size ≤ W'.heap.size) ∧ Hid (CE w t (.iface T p) W'.heap.size m Z (W'.alloc (.cells (pcs m Z) 51)))) := fun W T p hW => (place_any hW.out.1 hs a ha (hE.below hW.out.2)).mono fun e W' ⟨P, Q, k1, k2, k3, k4⟩ => by
    have hb := k4.alloc k4.size (.cells (pcs (smr P) (hd Q)) 51)
    exact ⟨smr P, hd Q, k1, ⟨P, Q, rfl, rfl, k2, k3.trans hH⟩, Nat.le_trans hW.out.2.size k4.size, World.alloc_heap_new W' _, hW.out.1.below hb, Below.on hW.out.2 hb⟩
  rw [hH] at hle ⊢
  have hPs : ∀ {P Q : ByteArray}, P ++ Q = t.text → P.size ≤ 1099511627776 := fun e => by have := congrArg ByteArray.size e; rw [size_app] at this; omega
  have CB : Hid (∀ W u q m Z, Hid (∃ P Q, m = smr P ∧ Z = hd Q ∧ P ++ Q = t.text ∧ P.size = H) → Hid (CE w t u q m Z W) → Calls Tryd.prog 29 #[plv m Z] W fun e W' => e = .returned (.bool (cbZ t.text H)) ∧ Hid (CE w t u q m Z W')) := fun W u q m Z hP hW => by
    obtain ⟨P, Q, rfl, rfl, k1, k2⟩ := hP.out
    have := sbound_any P Q W (hE.below hW.out.b)
    rw [k1, k2] at this
    exact this.mono fun e W' ⟨h1, h2⟩ => ⟨h1, hW.out.below h2⟩
  have CG : Hid (∀ k W m Z (n : Nat), Hid (∃ P Q, m = smr P ∧ Z = hd Q ∧ P ++ Q = t.text ∧ P.size = n) → Below w.heap.size w W → Calls Tryd.prog 23 #[plv m Z, ckv k] W fun e W' => e = .returned (.int .i64 (cn k t.text n)) ∧ Hid (Below W.heap.size W W')) := fun k W m Z n hP hW => by
    obtain ⟨P, Q, rfl, rfl, k1, k2⟩ := hP.out
    have := begun_any' k P Q (hPs k1) W (hE.below hW)
    rw [k1, k2] at this
    exact this.mono fun e W' ⟨h1, h2⟩ => ⟨h1, h2⟩
  cases hcb : cbZ t.text (H : Int) with
  | true =>
    rw [hcb] at CB
    rw [ce_bd t.text hle hcb]
    have CGN := fun W m Z => CG.out .N W m Z H
    have CG' : Hid (∀ W m Z, Hid (∃ P Q, m = smr P ∧ Z = hd Q ∧ P ++ Q = t.text ∧ P.size = H) → Below w.heap.size w W → Calls Tryd.prog 23 #[plv m Z, ckv .N] W fun e W' => e = .returned (.int .i64 (cn .N t.text H)) ∧ Hid (Below W.heap.size W W')) := CGN
    generalize cn .N t.text (H : Int) = R at *
    clear h hE CG CGN hcb hH hle hPs
    go_enter Tryd.func14, Tryd.ntmps14
    go_wp2_with (first | (go_at_call 19; refine C1.out.mono ?_; clear C1; rintro e w1 ⟨T, p, rfl, HX⟩) | (go_at_call 22; refine (C2.out _ _ _ HX).mono ?_; clear C2 HX; rintro e w2 ⟨m, Z, rfl, HP, HSZ, HC⟩; obtain ⟨k0, k1, k2, k3, k4, k5, k6, k7⟩ := box8 HC.out.p) | (go_at_call 29; refine (CB.out _ _ _ _ _ HP HC).mono ?_; clear CB HC k0 k1 k2 k3 k4 k5 k6 k7; rintro e w3 ⟨rfl, HC⟩; obtain ⟨j0, j1, j2, j3, j4, j5, j6, j7⟩ := box8 HC.out.p) | (go_at_call 23; refine (CG'.out _ _ _ HP HC.out.b).mono ?_; clear CG'; rintro e w4 ⟨rfl, HB⟩))
    go_ret
    exact ⟨rfl, Below.on HC.out.b HB.out⟩
  | false =>
    rw [hcb] at CB
    obtain ⟨z1, z2, z3, z4⟩ := ce_no t.text hle hcb
    rw [z1]
    have CGC : Hid (∀ W m Z, Hid (∃ P Q, m = smr P ∧ Z = hd Q ∧ P ++ Q = t.text ∧ P.size = H) → Below w.heap.size w W → Calls Tryd.prog 23 #[plv m Z, ckv .C] W fun e W' => e = .returned (.int .i64 (cn .C t.text H)) ∧ Hid (Below W.heap.size W W')) := fun W m Z => CG.out .C W m Z H
    have CF : Hid (∀ W T p q m Z, Hid (CE w t (.iface T p) q m Z W) → Calls Tryd.prog 20 #[.iface T p, ckv .C, .int .i64 (cn .C t.text H - 1)] W fun e W' => e = .returned (.tuple #[.int .i64 (pos .C t.text (cn .C t.text H - 1)), .int .i64 0]) ∧ Hid (CE w t (.iface T p) q m Z W')) := fun W T p q m Z hW => by
      have := found_any .C hW.out.n hs (cn .C t.text H - 1) (hE.below hW.out.b)
      rw [show fnd .C t.text (cn .C t.text H - 1) = ((pos .C t.text (cn .C t.text H - 1) : Int), 0) by unfold fnd; rw [if_pos ⟨z2, z3⟩]] at this
      exact this.mono fun e W' ⟨k1, k2⟩ => ⟨k1, hW.out.below k2⟩
    have hcb2 : cn .C t.text H ≤ 2199023255552 := by have := tot_bd .C t.text; omega
    obtain ⟨b, hb⟩ : ∃ b, pos .C t.text (cn .C t.text H - 1) = b := ⟨_, rfl⟩
    rw [hb] at CF z4 ⊢
    have hhb : hld t.text b = b := by unfold hld; omega
    have C3 : Hid (∀ W T p q m Z, Hid (CE w t (.iface T p) q m Z W) → Calls Tryd.prog 22 #[.iface T p, .int .i64 b] W fun e W' => ∃ m' Z', e = .returned (plv m' Z') ∧ Hid (∃ P Q, m' = smr P ∧ Z' = hd Q ∧ P ++ Q = t.text ∧ P.size = b) ∧ Hid (CE w t (.iface T p) q m Z W')) := fun W T p q m Z hW => (place_any hW.out.n hs b (by omega) (hE.below hW.out.b)).mono fun e W' ⟨P, Q, k1, k2, k3, k4⟩ => ⟨smr P, hd Q, k1, ⟨P, Q, rfl, rfl, k2, k3.trans hhb⟩, hW.out.below k4⟩
    have CGN : Hid (∀ W m Z, Hid (∃ P Q, m = smr P ∧ Z = hd Q ∧ P ++ Q = t.text ∧ P.size = b) → Below w.heap.size w W → Calls Tryd.prog 23 #[plv m Z, ckv .N] W fun e W' => e = .returned (.int .i64 (cn .N t.text b)) ∧ Hid (Below W.heap.size W W')) := fun W m Z => CG.out .N W m Z b
    have hb3 : b ≤ 1099511627776 := by omega
    generalize cn .N t.text (b : Int) = R at *
    generalize cn .C t.text (H : Int) = cc at *
    clear h hE CG hcb hH hle hPs z1 z3 hhb hb z4
    go_enter Tryd.func14, Tryd.ntmps14
    go_wp2_with (first | (go_at_call 19; refine C1.out.mono ?_; clear C1; rintro e w1 ⟨T, p, rfl, HX⟩) | (go_at_call 22; refine (C2.out _ _ _ HX).mono ?_; clear C2 HX; rintro e w2 ⟨m, Z, rfl, HP, HSZ, HC⟩; obtain ⟨k0, k1, k2, k3, k4, k5, k6, k7⟩ := box8 HC.out.p) | (go_at_call 29; refine (CB.out _ _ _ _ _ HP HC).mono ?_; clear CB HC k0 k1 k2 k3 k4 k5 k6 k7; rintro e w3 ⟨rfl, HC⟩; obtain ⟨j0, j1, j2, j3, j4, j5, j6, j7⟩ := box8 HC.out.p) | (go_at_call 23; refine (CGC.out _ _ _ HP HC.out.b).mono ?_; clear CGC; rintro e w4 ⟨rfl, HB⟩; have HC4 : Hid (CE w t (.iface T p) w2.heap.size m Z w4) := HC.out.below HB.out; clear HB HC HP j0 j1 j2 j3 j4 j5 j6 j7) | (go_at_call 20; refine (CF.out _ _ _ _ _ _ HC4).mono ?_; clear CF HC4; rintro e w5 ⟨rfl, HC5⟩) | (go_at_call 22; refine (C3.out _ _ _ _ _ _ HC5).mono ?_; clear C3 HC5; rintro e w6 ⟨m', Z', rfl, HP', HC6⟩; obtain ⟨k0, k1, k2, k3, k4, k5, k6, k7⟩ := box8 HC6.out.p; obtain ⟨g0, g1, g2, g3, g4, g5, g6, g7⟩ := box8f HC6.out.p; have lq := (Array.getElem?_eq_some_iff.1 HC6.out.p).1; obtain ⟨r0, r1, r2, r3, r4, r5, r6, r7⟩ := box8 (set8_box HC6.out.p (.int .i64 m'.by') (.int .i64 m'.un) (.int .i64 m'.cl) (.int .i64 m'.ce) (.int .i64 m'.nl) (.string m'.hd) (.string m'.tl) (.string Z'))) | (go_at_call 23; refine (CGN.out _ _ _ HP' (set8_below HSZ.out HC6.out.b _ _ _ _ _ _ _ _)).mono ?_; clear CGN; rintro e w7 ⟨rfl, HB7⟩))
    go_ret
    exact ⟨rfl, Below.on (set8_below HSZ.out HC6.out.b _ _ _ _ _ _ _ _) HB7.out⟩
end Go.Proofs.YtiehhafbblbbiabDoor
namespace Go.Proofs.YtiehhafbblbbiabDoor
open Go.RowKit Go.Shelf Bod Wid

theorem Nv.below {w X : World} {t : Tr} {v : Value} (h : Nv w t v) (hb : Below w.heap.size w X) : Nv X t v := h.imp id (fun k => k.below hb)
end Go.Proofs.YtiehhafbblbbiabDoor
namespace Go.Proofs.YtiehhafbblbbiabDoor
open Go.RowKit Go.Shelf Bod Wid

namespace Awk
def P1 : ByteArray := ⟨#[97, 204, 129, 13]⟩
def P2 : ByteArray := ⟨#[10, 228, 184, 128, 10, 1]⟩
def TX : ByteArray := ⟨#[97, 204, 129, 13, 10, 228, 184, 128, 10, 1]⟩
theorem tx : (Tr.knot (.leaf P1) (.leaf P2)).text = TX := by kernel_rfl
theorem q1 : fcl TX 2 = (5, 0) := by kernel_rfl
theorem q2 : fli TX 2 = (9, 0) := by kernel_rfl
theorem q3 : fnd .N TX 3 = (9, 0) := by kernel_rfl
theorem q4 : cn .C TX (hld TX 4) = 2 := by kernel_rfl
theorem q5 : nlt TX (hld TX 8) = 1 := by kernel_rfl
theorem q6 : ceL (hld TX 7) (cl TX) = 1 := by kernel_rfl
end Awk
open Awk
set_option maxRecDepth 100000 in
set_option maxHeartbeats 2000000 in
theorem awake_any (w : World) (hE : Ev w) : Calls Tryd.prog 4 #[] w fun e W' => e = .returned (.bool true) ∧ Below w.heap.size w W' := by
  have hz : (Tr.knot (.leaf P1) (.leaf P2)).text.size ≤ 1099511627776 := by rw [tx]; decide
  have C1 : Hid (Calls Tryd.prog 17 #[.string ⟨#[97]⟩] w fun e W' => ∃ T p, e = .returned (.iface T p) ∧ Hid (Below w.heap.size w W')) := (plain_any ⟨#[97]⟩ (by decide) w hE).mono fun e W' ⟨T, p, h1, _, h3⟩ => ⟨T, p, h1, h3⟩
  have C2 : Hid (∀ W, Hid (Below w.heap.size w W) → Calls Tryd.prog 17 #[.string ⟨#[97, 204, 129, 13]⟩] W fun e W' => ∃ T p, e = .returned (.iface T p) ∧ Hid (Nt W' (.leaf P1) (.iface T p) ∧ Below w.heap.size w W')) := fun W hW => (plain_any P1 (by decide) W (hE.below hW)).mono fun e W' ⟨T, p, h1, h2, h3⟩ => ⟨T, p, h1, h2, Below.on hW h3⟩
  have C3 : Hid (∀ W T p, Hid (Nt W (.leaf P1) (.iface T p) ∧ Below w.heap.size w W) → Calls Tryd.prog 17 #[.string ⟨#[10, 228, 184, 128, 10, 1]⟩] W fun e W' => ∃ U q, e = .returned (.iface U q) ∧ Hid (Nt W' (.leaf P1) (.iface T p) ∧ Nt W' (.leaf P2) (.iface U q) ∧ Below w.heap.size w W')) := fun W T p hW => (plain_any P2 (by decide) W (hE.below hW.out.2)).mono fun e W' ⟨U, q, h1, h2, h3⟩ => ⟨U, q, h1, hW.out.1.below h3, h2, Below.on hW.out.2 h3⟩
  have C4 : Hid (∀ W T p U q, Hid (Nt W (.leaf P1) (.iface T p) ∧ Nt W (.leaf P2) (.iface U q) ∧ Below w.heap.size w W) → Calls Tryd.prog 18 #[.iface T p, .iface U q] W fun e W' => ∃ V r, e = .returned (.iface V r) ∧ Hid (Nt W' (.knot (.leaf P1) (.leaf P2)) (.iface V r) ∧ Below w.heap.size w W')) := fun W T p U q hW => (pair_any (.inr hW.out.1) (.inr hW.out.2.1) (by decide) (hE.below hW.out.2.2)).mono fun e W' ⟨V, r, h1, h2, h3⟩ => ⟨V, r, h1, h2, Below.on hW.out.2.2 h3⟩
  have D1 : Hid (∀ W V r, Hid (Nt W (.knot (.leaf P1) (.leaf P2)) (.iface V r) ∧ Below w.heap.size w W) → Calls Tryd.prog 7 #[.iface V r, .int .i64 2] W fun e W' => e = .returned (.tuple #[.int .i64 5, .int .i64 0]) ∧ Hid (Nt W' (.knot (.leaf P1) (.leaf P2)) (.iface V r) ∧ Below w.heap.size w W')) := fun W V r hW => by
    have := scluster_any (.inr hW.out.1) hz 2 (hE.below hW.out.2)
    rw [tx, q1] at this
    exact this.mono fun e W' ⟨h1, h2⟩ => ⟨h1, hW.out.1.below h2, Below.on hW.out.2 h2⟩
  have D2 : Hid (∀ W V r, Hid (Nt W (.knot (.leaf P1) (.leaf P2)) (.iface V r) ∧ Below w.heap.size w W) → Calls Tryd.prog 12 #[.iface V r, .int .i64 2] W fun e W' => e = .returned (.tuple #[.int .i64 9, .int .i64 0]) ∧ Hid (Nt W' (.knot (.leaf P1) (.leaf P2)) (.iface V r) ∧ Below w.heap.size w W')) := fun W V r hW => by
    have := sline_any (.inr hW.out.1) hz 2 (by omega) (hE.below hW.out.2)
    rw [tx, q2] at this
    exact this.mono fun e W' ⟨h1, h2⟩ => ⟨h1, hW.out.1.below h2, Below.on hW.out.2 h2⟩
  have D3 : Hid (∀ W V r, Hid (Nt W (.knot (.leaf P1) (.leaf P2)) (.iface V r) ∧ Below w.heap.size w W) → Calls Tryd.prog 15 #[.iface V r, .int .i64 3] W fun e W' => e = .returned (.tuple #[.int .i64 9, .int .i64 0]) ∧ Hid (Nt W' (.knot (.leaf P1) (.leaf P2)) (.iface V r) ∧ Below w.heap.size w W')) := fun W V r hW => by
    have := scell_any (.inr hW.out.1) hz 3 (hE.below hW.out.2)
    rw [tx, q3] at this
    exact this.mono fun e W' ⟨h1, h2⟩ => ⟨h1, hW.out.1.below h2, Below.on hW.out.2 h2⟩
  have D4 : Hid (∀ W V r, Hid (Nt W (.knot (.leaf P1) (.leaf P2)) (.iface V r) ∧ Below w.heap.size w W) → Calls Tryd.prog 9 #[.iface V r, .int .i64 4] W fun e W' => e = .returned (.int .i64 2) ∧ Hid (Nt W' (.knot (.leaf P1) (.leaf P2)) (.iface V r) ∧ Below w.heap.size w W')) := fun W V r hW => by
    have := sclusters_any (.inr hW.out.1) hz 4 (by omega) (hE.below hW.out.2)
    rw [tx, q4] at this
    exact this.mono fun e W' ⟨h1, h2⟩ => ⟨h1, hW.out.1.below h2, Below.on hW.out.2 h2⟩
  have D5 : Hid (∀ W V r, Hid (Nt W (.knot (.leaf P1) (.leaf P2)) (.iface V r) ∧ Below w.heap.size w W) → Calls Tryd.prog 13 #[.iface V r, .int .i64 8] W fun e W' => e = .returned (.int .i64 1) ∧ Hid (Nt W' (.knot (.leaf P1) (.leaf P2)) (.iface V r) ∧ Below w.heap.size w W')) := fun W V r hW => by
    have := slines_any (.inr hW.out.1) hz 8 (by omega) (hE.below hW.out.2)
    rw [tx, q5] at this
    exact this.mono fun e W' ⟨h1, h2⟩ => ⟨h1, hW.out.1.below h2, Below.on hW.out.2 h2⟩
  have D6 : Hid (∀ W V r, Hid (Nt W (.knot (.leaf P1) (.leaf P2)) (.iface V r) ∧ Below w.heap.size w W) → Calls Tryd.prog 14 #[.iface V r, .int .i64 7] W fun e W' => e = .returned (.int .i64 1) ∧ Hid (Below w.heap.size w W')) := fun W V r hW => by
    have := scells_any (.inr hW.out.1) hz 7 (by omega) (hE.below hW.out.2)
    rw [tx, q6] at this
    exact this.mono fun e W' ⟨h1, h2⟩ => ⟨h1, Below.on hW.out.2 h2⟩
  clear hE hz
  go_enter Tryd.func4, Tryd.ntmps4
  go_wp2_with (first | (go_at_call 17; refine C1.out.mono ?_; clear C1; rintro e w1 ⟨T0, p0, rfl, H⟩; have he0 := fun W => eq_nil T0 p0 W) | (go_at_call 17; refine (C2.out _ H).mono ?_; clear C2 H; rintro e w2 ⟨T, p, rfl, H⟩) | (go_at_call 17; refine (C3.out _ _ _ H).mono ?_; clear C3 H; rintro e w3 ⟨U, q, rfl, H⟩) | (go_at_call 18; refine (C4.out _ _ _ _ _ H).mono ?_; clear C4 H; rintro e w4 ⟨V, r, rfl, H⟩) | (go_at_call 7; refine (D1.out _ _ _ H).mono ?_; clear D1 H; rintro e w5 ⟨rfl, H⟩) | (go_at_call 12; refine (D2.out _ _ _ H).mono ?_; clear D2 H; rintro e w6 ⟨rfl, H⟩) | (go_at_call 15; refine (D3.out _ _ _ H).mono ?_; clear D3 H; rintro e w7 ⟨rfl, H⟩) | (go_at_call 9; refine (D4.out _ _ _ H).mono ?_; clear D4 H; rintro e w8 ⟨rfl, H⟩) | (go_at_call 13; refine (D5.out _ _ _ H).mono ?_; clear D5 H; rintro e w9 ⟨rfl, H⟩) | (go_at_call 14; refine (D6.out _ _ _ H).mono ?_; clear D6 H; rintro e w10 ⟨rfl, H⟩))
  go_ret
  exact ⟨rfl, H.out⟩
end Go.Proofs.YtiehhafbblbbiabDoor
