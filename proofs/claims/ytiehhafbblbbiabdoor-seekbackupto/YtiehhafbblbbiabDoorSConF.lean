/-
  Package seek's placeAt and found: a place at an offset, and the byte that a number belongs to. Conditions: the two tables of unicode/utf8 lie as their text lays them; the text holds at most 1099511627776 bytes.
-/
import Derived.Test.YtiehhafbblbbiabDoorSConE
import Derived.Test.YtiehhafbblbbiabDoorPkW
namespace Go.Proofs.YtiehhafbblbbiabDoor
open Go.RowKit Go.Shelf Bod Wid

theorem ext_app (a b : ByteArray) (i j : Nat) : (a ++ b).extract i j = a.extract i (min j a.size) ++ b.extract (i - a.size) (j - a.size) := by
  apply ext_data
  rw [data_extract', data_app, data_app, data_extract', data_extract']
  have hl : a.data.toList.length = a.size := rfl
  rw [List.drop_append, List.take_append, hl, List.length_drop, hl]
  congr 1
  · by_cases h : j ≤ a.size
    · rw [Nat.min_eq_left h]
    · rw [Nat.min_eq_right (by omega), List.take_of_length_le (by rw [List.length_drop, hl]; omega), List.take_of_length_le (by rw [List.length_drop, hl]; omega)]
  · congr 1
    omega
theorem ext_nil {a : ByteArray} {i j : Nat} (h : j ≤ i) : a.extract i j = noB := noB_of (by simp; omega)
/-- where the way down ends -/
theorem dn_spec (D : ByteArray → ByteArray → Bool) (S : ByteArray) : ∀ (t : Tr) (A B : ByteArray), A ++ (t.text ++ B) = S → (A.size = 0 ∨ ∃ Y, A ++ Y = S ∧ D A Y = true) → (B.size = 0 ∨ ∃ X, X ++ B = S ∧ D X B = false) →
    (dn D t A B).1 ++ ((dn D t A B).2.1 ++ (dn D t A B).2.2) = S ∧ ((dn D t A B).1.size = 0 ∨ ∃ Y, (dn D t A B).1 ++ Y = S ∧ D (dn D t A B).1 Y = true) ∧ ((dn D t A B).2.2.size = 0 ∨ ∃ X, X ++ (dn D t A B).2.2 = S ∧ D X (dn D t A B).2.2 = false)
  | .leaf M, A, B, h, h1, h2 => ⟨h, h1, h2⟩
  | .knot l r, A, B, h, h1, h2 => by
    have h : A ++ ((l.text ++ r.text) ++ B) = S := h
    rw [app_assoc l.text] at h
    have h' : (A ++ l.text) ++ (r.text ++ B) = S := by rw [app_assoc]; exact h
    cases hD : D (A ++ l.text) (r.text ++ B) with
    | true =>
      have e : dn D (.knot l r) A B = dn D r (A ++ l.text) B := by rw [dn, if_pos hD]
      rw [e]
      exact dn_spec D S r _ B h' (.inr ⟨_, h', hD⟩) h2
    | false =>
      have e : dn D (.knot l r) A B = dn D l A (r.text ++ B) := by rw [dn, hD]; rfl
      rw [e]
      exact dn_spec D S l A _ h h1 (.inr ⟨_, h', hD⟩)
theorem sz_split {X B A M S : ByteArray} (h : X ++ B = S) (h' : A ++ (M ++ B) = S) : X.size = A.size + M.size := by
  have h1 := congrArg ByteArray.size h
  have h2 := congrArg ByteArray.size h'
  rw [size_app] at h1
  rw [size_app, size_app] at h2
  omega
/-- by an offset: the offset lies in the leaf, held to the text -/
theorem dn_at (t : Tr) (a : Int) : ∃ A M B, dn (fun A _ => decide ((A.size : Int) ≤ a)) t noB noB = (A, M, B) ∧ A ++ (M ++ B) = t.text ∧ (A.size = 0 ∨ (A.size : Int) ≤ a) ∧ A.size + (min (max (a - A.size) 0) M.size).toNat = hld t.text a := by
  obtain ⟨s1, s2, s3⟩ := dn_spec (fun A _ => decide ((A.size : Int) ≤ a)) t.text t noB noB (by rw [noB_app, app_noB]) (.inl rfl) (.inl rfl)
  refine ⟨_, _, _, rfl, s1, ?_⟩
  generalize dn (fun A _ => decide ((A.size : Int) ≤ a)) t noB noB = R at *
  obtain ⟨A, M, B⟩ := R
  have e := congrArg ByteArray.size s1
  rw [size_app, size_app] at e
  have q1 : A.size = 0 ∨ (A.size : Int) ≤ a := s2.imp id fun ⟨_, _, h⟩ => by simpa using h
  have s1 : A ++ (M ++ B) = t.text := s1
  have q2 : B.size = 0 ∨ a < A.size + M.size := s3.imp id fun ⟨X, h1, h⟩ => by
    have h1 : X ++ B = t.text := h1
    have := sz_split h1 s1
    have h : ¬ (X.size : Int) ≤ a := by simpa using h
    omega
  unfold hld
  have e : A.size + (M.size + B.size) = t.text.size := e
  refine ⟨q1, ?_⟩
  show A.size + (min (max (a - A.size) 0) M.size).toNat = _
  omega
/-- by a count: the number lies in the leaf -/
theorem dn_cn (k : Ck) (t : Tr) {n : Int} (h0 : 0 ≤ n) (h1 : n < tot k t.text) : ∃ A M B, dn (fun A B => decide (cn k (A ++ B) A.size ≤ n)) t noB noB = (A, M, B) ∧ A ++ (M ++ B) = t.text ∧ cn k (A ++ (M ++ B)) A.size ≤ n ∧ n < cn k (A ++ (M ++ B)) ((A.size + M.size : Nat) : Int) := by
  obtain ⟨s1, s2, s3⟩ := dn_spec (fun A B => decide (cn k (A ++ B) A.size ≤ n)) t.text t noB noB (by rw [noB_app, app_noB]) (.inl rfl) (.inl rfl)
  refine ⟨_, _, _, rfl, s1, ?_⟩
  generalize dn (fun A B => decide (cn k (A ++ B) A.size ≤ n)) t noB noB = R at *
  obtain ⟨A, M, B⟩ := R
  have s1 : A ++ (M ++ B) = t.text := s1
  have e := congrArg ByteArray.size s1
  rw [size_app, size_app] at e
  show cn k (A ++ (M ++ B)) A.size ≤ n ∧ n < cn k (A ++ (M ++ B)) ((A.size + M.size : Nat) : Int)
  rw [s1]
  constructor
  · rcases s2 with h | ⟨Y, h, h'⟩
    · have h : A.size = 0 := h
      rw [h, cn_low k _ (by omega)]
      exact h0
    · have h : A ++ Y = t.text := h
      have h' : cn k (A ++ Y) A.size ≤ n := by simpa using h'
      rw [h] at h'
      exact h'
  · rcases s3 with h | ⟨X, h, h'⟩
    · have h : B.size = 0 := h
      rw [cn_high k _ (by omega), ful_tot]
      exact h1
    · have h : X ++ B = t.text := h
      have hz := sz_split h s1
      have h' : ¬ cn k (X ++ B) X.size ≤ n := by simpa using h'
      rw [h, hz] at h'
      omega
set_option maxRecDepth 100000 in
set_option maxHeartbeats 1000000 in
theorem place1_any {b : Nat} {a : Int} (m : Sum) (Z : ByteArray) (w : World) (h : w.heap[b]? = some (.cells #[.int .i64 a] 3 (0, 0))) :
    Calls Tryd.prog 42 #[plv m Z, .pointer (some ⟨b, 0, none⟩)] w fun e W' => e = .returned (.bool (decide (m.by' ≤ a))) ∧ Below w.heap.size w W' := by
  have hb := (Below.refl _ w).alloc (Nat.le_refl _) (.cells (pcs m Z) 51)
  have hc := (bx1 ((hb.block _ (Array.getElem?_eq_some_iff.1 h).1).trans h)).1
  clear h
  go_enter Tryd.func42, Tryd.ntmps42
  go_wp2
  go_ret
  exact ⟨rfl, hb⟩
set_option maxRecDepth 100000 in
set_option maxHeartbeats 1000000 in
theorem found1_any {b c : Nat} {n : Int} (k : Ck) (A B : ByteArray) (hA : A.size ≤ 1099511627776) (w : World) (hE : Ev w) (h1 : w.heap[b]? = some (.cells #[ckv k] 74 (0, 0))) (h2 : w.heap[c]? = some (.cells #[.int .i64 n] 3 (0, 0))) :
    Calls Tryd.prog 35 #[plv (smr A) (hd B), .pointer (some ⟨b, 0, none⟩), .pointer (some ⟨c, 0, none⟩)] w fun e W' => e = .returned (.bool (decide (cn k (A ++ B) A.size ≤ n))) ∧ Below w.heap.size w W' := by
  obtain ⟨W0, hW0⟩ : ∃ W0, (w.alloc (.cells (pcs (smr A) (hd B)) 51)) = W0 := ⟨_, rfl⟩
  have hb := (Below.refl _ w).alloc (Nat.le_refl _) (.cells (pcs (smr A) (hd B)) 51)
  have c0 := box8 (World.alloc_heap_new w (.cells (pcs (smr A) (hd B)) 51))
  have c8 := (bx1 ((hb.block _ (Array.getElem?_eq_some_iff.1 h1).1).trans h1)).1
  have c9 := (bx1 ((hb.block _ (Array.getElem?_eq_some_iff.1 h2).1).trans h2)).1
  have CB : Hid (Calls Tryd.prog 23 #[plv (smr A) (hd B), ckv k] W0.drew fun e W' => e = .returned (.int .i64 (cn k (A ++ B) (A.size : Int))) ∧ Hid (W'.heap[w.heap.size]? = some (.cells (pcs (smr A) (hd B)) 51 (0, 0)) ∧ W'.cell? ⟨b, 0, none⟩ = some (ckv k) ∧ W'.cell? ⟨c, 0, none⟩ = some (.int .i64 n) ∧ Below w.heap.size w W')) := (begun_any' k A B hA W0.drew (hE.below (by rw [← hW0]; exact hb.drew))).mono fun e W' ⟨h3, h4⟩ => by
    have hb2 : Below w.heap.size w W0.drew := by rw [← hW0]; exact hb.drew
    have hb3 := Below.on hb2 h4
    have h5 : W0.drew.heap[w.heap.size]? = some (.cells (pcs (smr A) (hd B)) 51 (0, 0)) := by rw [← hW0]; exact World.alloc_heap_new w _
    exact ⟨h3, (h4.block _ (Array.getElem?_eq_some_iff.1 h5).1).trans h5, (bx1 ((hb3.block _ (Array.getElem?_eq_some_iff.1 h1).1).trans h1)).1, (bx1 ((hb3.block _ (Array.getElem?_eq_some_iff.1 h2).1).trans h2)).1, hb3⟩
  generalize smr A = m at *
  generalize hd B = Z at *
  obtain ⟨x, hx⟩ : ∃ x, cn k (A ++ B) (A.size : Int) = x := ⟨_, rfl⟩
  rw [hx] at CB ⊢
  rw [hW0] at c0 c8 c9
  obtain ⟨k0, k1, k2, k3, k4, k5, k6, k7⟩ := c0
  have hW1 : w.alloc (.cells #[.int .i64 m.by', .int .i64 m.un, .int .i64 m.cl, .int .i64 m.ce, .int .i64 m.nl, .string m.hd, .string m.tl, .string Z] 51) = W0 := hW0
  clear hE h1 h2 hx hb hA
  go_enter Tryd.func35, Tryd.ntmps35
  go_wp2
  clear hW1 hW0
  go_region_held3 (fun w' => w'.cell? ⟨w.heap.size, 0, none⟩ = some (.int .i64 m.by') ∧ w'.cell? ⟨w.heap.size, 1, none⟩ = some (.int .i64 m.un) ∧ w'.cell? ⟨w.heap.size, 2, none⟩ = some (.int .i64 m.cl) ∧ w'.cell? ⟨w.heap.size, 3, none⟩ = some (.int .i64 m.ce) ∧ w'.cell? ⟨w.heap.size, 4, none⟩ = some (.int .i64 m.nl) ∧ w'.cell? ⟨w.heap.size, 5, none⟩ = some (.string m.hd) ∧ w'.cell? ⟨w.heap.size, 6, none⟩ = some (.string m.tl) ∧ w'.cell? ⟨w.heap.size, 7, none⟩ = some (.string Z) ∧ w'.cell? ⟨b, 0, none⟩ = some (ckv k) ∧ w'.cell? ⟨c, 0, none⟩ = some (.int .i64 n)) (go_keep) (first | (go_at_call 23; refine CB.out.mono ?_; clear CB; rintro e w2 ⟨rfl, H⟩; obtain ⟨j0, j1, j2, j3, j4, j5, j6, j7⟩ := box8 H.out.1; have c10 := H.out.2.1; have c11 := H.out.2.2.1))
  all_goals go_wp2
  all_goals go_ret
  all_goals exact ⟨rfl, H.out.2.2.2⟩
/-- what placeAt keeps: the offset's box, its answer's, later the summary's -/
structure PT (w : World) (a : Int) (W : World) : Prop where
  a : W.heap[w.heap.size]? = some (.cells #[.int .i64 a] 3 (0, 0))
  p : W.heap[w.heap.size + 1]? = some (.cells z8 51 (0, 0))
  b : Below w.heap.size w W
theorem PT.below {w W X : World} {a : Int} (h : PT w a W) (hb : Below W.heap.size W X) : PT w a X := ⟨(hb.block _ (Array.getElem?_eq_some_iff.1 h.a).1).trans h.a, (hb.block _ (Array.getElem?_eq_some_iff.1 h.p).1).trans h.p, Below.on h.b hb⟩
set_option maxRecDepth 100000 in
set_option maxHeartbeats 2000000 in
theorem place_any {w : World} {t : Tr} {v : Value} (h : Nt w t v) (hs : t.text.size ≤ 1099511627776) (a : Int) (ha : -9223372036854775808 ≤ a ∧ a ≤ 9223372036854775807) (hE : Ev w) :
    Calls Tryd.prog 22 #[v, .int .i64 a] w fun e W' => ∃ P Q, e = .returned (plv (smr P) (hd Q)) ∧ P ++ Q = t.text ∧ P.size = hld t.text a ∧ Below w.heap.size w W' := by
  obtain ⟨A, M, B, hdn, hT, hq, hh⟩ := dn_at t a
  have CD : Hid (∀ W, Hid (PT w a W) → Calls Tryd.prog 34 #[v, .func (.func 42) #[] #[.pointer (some ⟨w.heap.size, 0, none⟩)]] W fun e W' => e = .returned (.tuple #[sv (smr A), .string M, .string (hd B)]) ∧ Hid (PT w a W')) := fun W hW => by
    have := sdown_any (F := 42) (caps := #[.pointer (some ⟨w.heap.size, 0, none⟩)]) (fun A _ => decide ((A.size : Int) ≤ a)) (h.below hW.out.b) hs (fun _ _ => rfl) (hE.below hW.out.b) (fun X A B hX _ => place1_any (smr A) (hd B) X (hW.out.below hX).a)
    rw [hdn] at this
    exact this.mono fun e W' ⟨k1, k2⟩ => ⟨k1, hW.out.below k2⟩
  have H0 : Hid (PT w a ((w.alloc (.cells #[.int .i64 a] 3)).alloc (.cells z8 51))) := by
    have e := push2' w.heap (.cells #[.int .i64 a] 3 (0, 0)) (.cells z8 51 (0, 0))
    exact ⟨e.1, e.2, ((Below.refl _ w).alloc (Nat.le_refl _) _).alloc (by simp) _⟩
  have hsz : A.size + (M.size + B.size) = t.text.size := by rw [← hT, size_app, size_app]
  obtain ⟨n, hn⟩ : ∃ n, (min (max (a - A.size) 0) (M.size : Int)).toNat = n := ⟨_, rfl⟩
  rw [hn] at hh
  obtain ⟨x, y, hM, hx, hy⟩ := split_at (x := M) (n := n) (by omega)
  have hmin : min (max (a - A.size) 0) (M.size : Int) = (n : Int) := by omega
  have hx1 : M.extract 0 n = x := by rw [hM, ← hx, ext_left (Nat.le_refl _), ext_all]
  have hy1 : M.extract n M.size = y := by
    rw [hM, ext_app, ← hx]
    have e1 : x.extract x.size (min (x ++ y).size x.size) = noB := ext_nil (by omega)
    have e2 : (x ++ y).size - x.size = y.size := by rw [size_app]; omega
    rw [e1, noB_app, Nat.sub_self, e2, ext_all]
  have hPQ : (A ++ x) ++ (y ++ B) = t.text := by rw [← hT, hM, app_assoc A, app_assoc x]
  have hPs : (A ++ x).size = hld t.text a := by rw [size_app, ← hh]; omega
  obtain ⟨mA, hmA⟩ : ∃ m, smr A = m := ⟨_, rfl⟩
  obtain ⟨mx, hmx⟩ : ∃ m, smr x = m := ⟨_, rfl⟩
  obtain ⟨mP, hmP⟩ : ∃ m, smr (A ++ x) = m := ⟨_, rfl⟩
  obtain ⟨Z1, hZ1⟩ : ∃ Z, hd y = Z := ⟨_, rfl⟩
  obtain ⟨ZB, hZB⟩ : ∃ Z, hd B = Z := ⟨_, rfl⟩
  obtain ⟨Zn, hZn⟩ : ∃ Z, hd (y ++ B) = Z := ⟨_, rfl⟩
  have hby : mA.by' = (A.size : Int) := by rw [← hmA]; rfl
  rw [← hby] at hmin hq
  have hA0 : 0 ≤ mA.by' ∧ mA.by' ≤ 1099511627776 := by omega
  have CM : Hid (∀ W, Hid (PT w a W) → Calls Tryd.prog 31 #[.string (M.extract 0 n)] W fun e W' => e = .returned (sv mx) ∧ Hid (Below W.heap.size W W')) := fun W hW => by
    have hE2 := hE.below hW.out.b
    rw [hx1, ← hmx]
    exact (measure_any x (by omega) W hE2.t hE2.l0 hE2.l1).mono fun e W' ⟨k1, k2⟩ => ⟨k1, k2⟩
  have CJ : Hid (∀ W, Hid (PT w a W) → Calls Tryd.prog 32 #[.slice (some ⟨W.heap.size, 0, none⟩) 2 2] (W.alloc (.cells (scs2 mA mx) 42)) fun e W' => e = .returned (sv mP) ∧ Hid (Below W.heap.size W W')) := fun W hW => by
    have hb := (Below.refl _ W).alloc (Nat.le_refl _) (.cells (scs2 mA mx) 42)
    have hE2 := hE.below (Below.on hW.out.b hb)
    have := mjoin_any [A, x] _ (W.alloc (.cells (scs2 mA mx) 42)) (two_sums' (by rw [hmA, hmx]; exact World.alloc_heap_new W _)) (by rw [cat_two, size_app]; omega) (by simp) hE2.t hE2.l0 hE2.l1
    rw [cat_two, hmP] at this
    exact this.mono fun e W' ⟨k1, k2⟩ => ⟨k1, Below.on hb k2⟩
  have C1 : Hid (∀ W, Calls Tryd.prog 43 #[.string (M.extract n M.size)] W fun e W' => e = .returned (.string Z1) ∧ W = W') := fun W => by
    rw [hy1, ← hZ1]
    exact sfirst_any y (by omega) W
  have C2 : Hid (∀ W, Calls Tryd.prog 43 #[.string (Z1 ++ ZB)] W fun e W' => e = .returned (.string Zn) ∧ W = W') := fun W => by
    have := sfirst_any (Z1 ++ ZB) (by rw [← hZ1, ← hZB, size_app, hd_size, hd_size]; omega) W
    rw [show hd (Z1 ++ ZB) = Zn by rw [← hZ1, ← hZB, hd_hd2, hZn]] at this
    exact this
  rw [hmA, hZB] at CD
  have HFN : Hid (smr (A ++ x) = mP ∧ hd (y ++ B) = Zn ∧ (A ++ x) ++ (y ++ B) = t.text ∧ (A ++ x).size = hld t.text a) := ⟨hmP, hZn, hPQ, hPs⟩
  have hzz : Z1.size ≤ 16 ∧ ZB.size ≤ 16 := by rw [← hZ1, ← hZB, hd_size, hd_size]; omega
  have s1 : ¬ 9223372036854775807 < Z1.size + ZB.size := by omega
  have hnM : n ≤ M.size := by omega
  have hM0 : M.size ≤ 1099511627776 := by omega
  have hw1 : -9223372036854775808 ≤ a - mA.by' ∧ a - mA.by' ≤ 9223372036854775807 := by omega
  clear hdn h hmA hmx hmP hZ1 hZB hZn hby hx1 hy1 hM hx hy hPQ hPs hn hh hT hsz hE hs hq hzz
  go_enter Tryd.func22, Tryd.ntmps22
  go_upto_region 2 with (go_at_call 34; refine (CD.out _ H0).mono ?_; clear CD H0; rintro e w1 ⟨rfl, H⟩)
  obtain ⟨W2, hW2⟩ : ∃ W2, (w1.alloc (.cells #[.int .i64 mA.by', .int .i64 mA.un, .int .i64 mA.cl, .int .i64 mA.ce, .int .i64 mA.nl, .string mA.hd, .string mA.tl] 42)) = W2 := ⟨_, rfl⟩
  have H2 : Hid (PT w a W2) := by rw [← hW2]; exact H.out.below ((Below.refl _ w1).alloc (Nat.le_refl _) _)
  have G2 : Hid (W2.heap[w1.heap.size]? = some (.cells (scs mA) 42 (0, 0))) := by show _ = _; rw [← hW2]; exact World.alloc_heap_new w1 _
  have hlt : w.heap.size + 1 < w1.heap.size := (Array.getElem?_eq_some_iff.1 H.out.p).1
  rw [hW2]
  clear hW2 H
  have cA := (bx1 H2.out.a).1
  obtain ⟨⟨c0, c1, c2, c3, c4, c5, c6⟩, -⟩ := box7 G2.out
  go_upto_region 3 with fail
  have H3 : Hid (PT w a W2.drew) := ⟨H2.out.a, H2.out.p, H2.out.b.drew⟩
  have KP : Hid (∀ X Y : World, X.heap[w1.heap.size]? = some (.cells (scs mA) 42 (0, 0)) → Below X.heap.size X Y → Y.heap[w1.heap.size]? = some (.cells (scs mA) 42 (0, 0))) := fun X Y h hb => (hb.block _ (Array.getElem?_eq_some_iff.1 h).1).trans h
  have G3 : Hid (W2.drew.heap[w1.heap.size]? = some (.cells (scs mA) 42 (0, 0))) := G2.out
  clear H2 G2 cA
  go_region_held3 (fun w' => w'.cell? ⟨w1.heap.size, 0, none⟩ = some (.int .i64 mA.by') ∧ w'.cell? ⟨w1.heap.size, 1, none⟩ = some (.int .i64 mA.un) ∧ w'.cell? ⟨w1.heap.size, 2, none⟩ = some (.int .i64 mA.cl) ∧ w'.cell? ⟨w1.heap.size, 3, none⟩ = some (.int .i64 mA.ce) ∧ w'.cell? ⟨w1.heap.size, 4, none⟩ = some (.int .i64 mA.nl) ∧ w'.cell? ⟨w1.heap.size, 5, none⟩ = some (.string mA.hd) ∧ w'.cell? ⟨w1.heap.size, 6, none⟩ = some (.string mA.tl)) (first | go_keep | exact (box7 (set8_other (by omega) G5.out _ _ _ _ _ _ _ _)).1) (first | (go_at_call 31; refine (CM.out _ H3).mono ?_; clear CM; rintro e w4 ⟨rfl, HB⟩; have H4 : Hid (PT w a w4) := H3.out.below HB.out; have G4 : Hid (w4.heap[w1.heap.size]? = some (.cells (scs mA) 42 (0, 0))) := KP.out _ _ G3.out HB.out; clear H3 G3 HB; obtain ⟨⟨d0, d1, d2, d3, d4, d5, d6⟩, -⟩ := box7 G4.out) | (go_at_call 32; refine (CJ.out w4 H4).mono ?_; clear CJ; rintro e w5 ⟨rfl, HB⟩; have H5 : Hid (PT w a w5) := H4.out.below HB.out; have G5 : Hid (w5.heap[w1.heap.size]? = some (.cells (scs mA) 42 (0, 0))) := KP.out _ _ G4.out HB.out; clear H4 G4 HB KP; obtain ⟨⟨e0, e1, e2, e3, e4, e5, e6⟩, -⟩ := box7 G5.out; obtain ⟨k0, k1, k2, k3, k4, k5, k6, k7⟩ := box8 H5.out.p; obtain ⟨g0, g1, g2, g3, g4, g5, g6, g7⟩ := box8f H5.out.p; have lq := (Array.getElem?_eq_some_iff.1 H5.out.p).1) | (go_at_call 43; refine (C1.out _).mono ?_; clear C1; rintro e _ ⟨rfl, rfl⟩) | (go_at_call 43; refine (C2.out _).mono ?_; clear C2; rintro e _ ⟨rfl, rfl⟩))
  obtain ⟨r0, r1, r2, r3, r4, r5, r6, r7⟩ := box8 (set8_box H5.out.p (.int .i64 mP.by') (.int .i64 mP.un) (.int .i64 mP.cl) (.int .i64 mP.ce) (.int .i64 mP.nl) (.string mP.hd) (.string mP.tl) (.string Zn))
  go_wp2
  exact bodyPost_ret (v := plv mP Zn) (by simp [results, Tryd.results22, go_sem, r0, r1, r2, r3, r4, r5, r6, r7]) rfl ⟨A ++ x, y ++ B, by rw [HFN.out.1, HFN.out.2.1], HFN.out.2.2.1, HFN.out.2.2.2, set8_below (by omega) H5.out.b _ _ _ _ _ _ _ _⟩
/-- what found keeps: the boxes of the count and of the number -/
structure FT (w : World) (k : Ck) (n : Int) (W : World) : Prop where
  c : W.heap[w.heap.size]? = some (.cells #[ckv k] 74 (0, 0))
  n : W.heap[w.heap.size + 1]? = some (.cells #[.int .i64 n] 3 (0, 0))
  b : Below w.heap.size w W
theorem FT.below {w W X : World} {k : Ck} {n : Int} (h : FT w k n W) (hb : Below W.heap.size W X) : FT w k n X := ⟨(hb.block _ (Array.getElem?_eq_some_iff.1 h.c).1).trans h.c, (hb.block _ (Array.getElem?_eq_some_iff.1 h.n).1).trans h.n, Below.on h.b hb⟩
theorem FT.cells {w W : World} {k : Ck} {n : Int} (h : FT w k n W) : W.cell? ⟨w.heap.size, 0, none⟩ = some (ckv k) ∧ W.cell? ⟨w.heap.size + 1, 0, none⟩ = some (.int .i64 n) := ⟨(bx1 h.c).1, (bx1 h.n).1⟩
set_option maxRecDepth 100000 in
set_option maxHeartbeats 2000000 in
theorem found_any {w : World} {t : Tr} {v : Value} (k : Ck) (h : Nt w t v) (hs : t.text.size ≤ 1099511627776) (n : Int) (hE : Ev w) :
    Calls Tryd.prog 20 #[v, ckv k, .int .i64 n] w fun e W' => e = .returned (.tuple #[.int .i64 (fnd k t.text n).1, .int .i64 (fnd k t.text n).2]) ∧ Below w.heap.size w W' := by
  have hsum : ∃ T p fS, v = .iface T (.pointer (some p)) ∧ Mt T p "Sum" fS ∧ ∀ W, Below w.heap.size w W → Calls Tryd.prog fS #[.pointer (some p)] W fun e W' => e = .returned (sv (smr t.text)) ∧ Below W.heap.size W W' := by
    obtain ⟨T, p, fS, _, _, _, e, ms, -⟩ := h.nd
    exact ⟨T, p, fS, e, ms.ms, ms.cs⟩
  obtain ⟨T, p, fS, rfl, ⟨m1, m2⟩, cs⟩ := hsum
  have hb0 : Below w.heap.size w ((w.alloc (.cells #[ckv k] 74)).alloc (.cells #[.int .i64 n] 3)) := ((Below.refl _ w).alloc (Nat.le_refl _) _).alloc (by simp) _
  have HF0 : Hid (FT w k n ((w.alloc (.cells #[ckv k] 74)).alloc (.cells #[.int .i64 n] 3)).drew) := by
    have e := push2' w.heap (.cells #[ckv k] 74 (0, 0)) (.cells #[.int .i64 n] 3 (0, 0))
    exact ⟨e.1, e.2, hb0.drew⟩
  have C1 : Hid (∀ W, Hid (FT w k n W) → Calls Tryd.prog fS #[.pointer (some p)] W fun e W' => e = .returned (sv (smr t.text)) ∧ Hid (FT w k n W')) := fun W hW => (cs W hW.out.b).mono fun e W' ⟨k1, k2⟩ => ⟨k1, hW.out.below k2⟩
  have C2 : Hid (∀ W, Hid (FT w k n W) → Calls Tryd.prog 33 #[ckv k, sv (smr t.text)] W fun e W' => e = .returned (.int .i64 (tot k t.text)) ∧ Hid (FT w k n W')) := fun W hW => (sall_any k (smr t.text) W).mono fun e W' ⟨k1, k2⟩ => ⟨by rw [k1, kc_smr], hW.out.below k2⟩
  have htb := tot_bd k t.text
  obtain ⟨mt, hmt⟩ : ∃ m, smr t.text = m := ⟨_, rfl⟩
  obtain ⟨tt, htt⟩ : ∃ m, tot k t.text = m := ⟨_, rfl⟩
  rw [hmt] at C1 C2
  rw [htt] at C2 htb
  by_cases c0 : n < 0
  · have E : Hid (fnd k t.text n = (0, 1)) := by unfold fnd; exact if_neg (by omega)
    clear cs htb C1 C2
    go_enter Tryd.func20, Tryd.ntmps20
    go_upto_region 1 with fail
    generalize hW0 : (w.alloc _).alloc _ = W0
    have HG : Hid (FT w k n W0) := by rw [← hW0]; exact ⟨HF0.out.c, HF0.out.n, hb0⟩
    clear hW0 HF0
    obtain ⟨f1, f2⟩ := HG.out.cells
    have r1 := fun d os => cell_regrown f1 d os
    have r2 := fun d os => cell_regrown f2 d os
    refine wp_region_quiet_below (by kernel_rfl) (by kernel_rfl) ?_
    repeat (go_big_quiet_step (fail))
    refine wpQuiet_nil ?_
    intro _ hw'
    obtain ⟨⟨dq, osq⟩, hw''⟩ := hw'
    subst hw''
    dsimp only
    have HB2 : Hid (Below w.heap.size w (Go.Sort.grow (redrawn W0 dq) osq)) := HG.out.b.trans ((below_regrown W0 dq osq).mono HG.out.b.size)
    go_wp2
    exact bodyPost_ret (v := .tuple #[.int .i64 0, .int .i64 1]) (by simp [results, Tryd.results20, go_sem]) rfl ⟨by rw [E.out], HB2.out⟩
  by_cases c1 : tt ≤ n
  · have E : Hid (fnd k t.text n = (0, 1)) := by unfold fnd; exact if_neg (by omega)
    clear cs htb htt hmt
    go_enter Tryd.func20, Tryd.ntmps20
    go_upto_region 1 with fail
    generalize hW0 : (w.alloc _).alloc _ = W0
    have HF : Hid (FT w k n W0.drew) := by rw [← hW0]; exact HF0.out
    clear hW0 HF0
    obtain ⟨f1, f2⟩ := HF.out.cells
    go_region_held3 (fun w' => w'.cell? ⟨w.heap.size, 0, none⟩ = some (ckv k) ∧ w'.cell? ⟨w.heap.size + 1, 0, none⟩ = some (.int .i64 n)) (go_keep) (first | (go_at_fn fS; refine (C1.out _ HF).mono ?_; clear C1 HF; rintro e w2 ⟨rfl, HF⟩; obtain ⟨f3, f4⟩ := HF.out.cells) | (go_at_call 33; refine (C2.out _ HF).mono ?_; clear C2 HF; rintro e w3 ⟨rfl, HF⟩; obtain ⟨f5, f6⟩ := HF.out.cells))
    all_goals go_wp2
    all_goals exact bodyPost_ret (v := .tuple #[.int .i64 0, .int .i64 1]) (by simp [results, Tryd.results20, go_sem]) rfl ⟨by rw [E.out], HF.out.b⟩
  · obtain ⟨A, M, B, hdn, hT, q1, q2⟩ := dn_cn k t (n := n) (by omega) (by rw [htt]; omega)
    have hpl := pos_loc k A M B q1 q2
    have hf1 := tot_bd k A
    have hf2 := tot_bd k (tl A)
    have hsz : A.size + (M.size + B.size) = t.text.size := by rw [← hT, size_app, size_app]
    have ht1 := tl_size A
    have ht2 := hd_size B
    obtain ⟨F, hF⟩ : ∃ F, tot k A - tot k (tl A) = F := ⟨_, rfl⟩
    have a4 : -32 ≤ F ∧ F ≤ 2199023255552 := by omega
    obtain ⟨y, hy⟩ : ∃ y, pos k (tl A ++ (M ++ hd B)) (n - F) = y := ⟨_, rfl⟩
    rw [hF, hy] at hpl
    rw [hT] at hpl
    have E : Hid (fnd k t.text n = ((A.size : Int) - (tl A).size + y, 0)) := by show _ = _; unfold fnd; rw [if_pos (by omega), hpl]
    have hyb : (A.size : Int) - (tl A).size + y ≤ 1099511627776 := by
      rw [hpl]
      have := (pos_ok k t.text (n := n) (by omega) (by omega)).2.2
      omega
    have CD : Hid (∀ W, Hid (FT w k n W) → Calls Tryd.prog 34 #[.iface T (.pointer (some p)), .func (.func 35) #[] #[.pointer (some ⟨w.heap.size, 0, none⟩), .pointer (some ⟨w.heap.size + 1, 0, none⟩)]] W fun e W' => e = .returned (.tuple #[sv (smr A), .string M, .string (hd B)]) ∧ Hid (FT w k n W')) := fun W hW => by
      have := sdown_any (F := 35) (caps := #[.pointer (some ⟨w.heap.size, 0, none⟩), .pointer (some ⟨w.heap.size + 1, 0, none⟩)]) (fun A B => decide (cn k (A ++ B) A.size ≤ n)) (h.below hW.out.b) hs (fun _ _ => rfl) (hE.below hW.out.b) (fun X A B hX e => found1_any k A B (by have := congrArg ByteArray.size e; rw [size_app] at this; omega) X (hE.below (Below.on hW.out.b hX)) (hW.out.below hX).c (hW.out.below hX).n)
      rw [hdn] at this
      exact this.mono fun e W' ⟨k1, k2⟩ => ⟨k1, hW.out.below k2⟩
    have CF : Hid (∀ W, Hid (FT w k n W) → Calls Tryd.prog 37 #[ckv k, sv (smr A)] W fun e W' => e = .returned (.int .i64 F) ∧ Hid (Below W.heap.size W W')) := fun W hW => (far_any k A (by omega) W (hE.below hW.out.b)).mono fun e W' ⟨k1, k2⟩ => ⟨by rw [k1, hF], k2⟩
    have CS : Hid (∀ W, Hid (FT w k n W) → Calls Tryd.prog 36 #[ckv k, .string (tl A ++ M ++ hd B), .int .i64 (n - F)] W fun e W' => e = .returned (.int .i64 y) ∧ Hid (Below W.heap.size W W')) := fun W hW => by
      rw [app_assoc, ← hy]
      exact (ssearch_any k (tl A ++ (M ++ hd B)) (by rw [size_app, size_app]; omega) (n - F) (by omega) W (hE.below hW.out.b)).mono fun e W' ⟨k1, k2⟩ => ⟨k1, k2⟩
    obtain ⟨mA, hmA⟩ : ∃ m, smr A = m := ⟨_, rfl⟩
    obtain ⟨ZB, hZB⟩ : ∃ Z, hd B = Z := ⟨_, rfl⟩
    have hby : mA.by' = (A.size : Int) := by rw [← hmA]; rfl
    have htl : mA.tl = tl A := by rw [← hmA]; rfl
    rw [← htl] at CS E ht1 hyb
    rw [← hby] at E hyb
    rw [hmA] at CD CF
    rw [hZB] at CD CS ht2
    have a0 : 0 ≤ mA.by' ∧ mA.by' ≤ 1099511627776 := by omega
    have a1 : mA.tl.size ≤ 16 := by omega
    have a2 : M.size ≤ 1099511627776 := by omega
    have a3 : ZB.size ≤ 16 := by omega
    have a5 : 0 ≤ n ∧ n ≤ 2199023255552 := by omega
    have s1 : ¬ 9223372036854775807 < mA.tl.size + M.size := by omega
    have s2 : ¬ 9223372036854775807 < (mA.tl ++ M).size + ZB.size := by rw [size_app]; omega
    have s3 : ¬ 9223372036854775807 < mA.tl.size + M.size + ZB.size := by omega
    have hw1 : IntKind.i64.wrap (n - F) = n - F := by rw [IntKind.wrap_i64]; omega
    have hw2 : IntKind.i64.wrap (mA.by' - mA.tl.size) = mA.by' - mA.tl.size := by rw [IntKind.wrap_i64]; omega
    have hw3 : IntKind.i64.wrap (mA.by' - mA.tl.size + y) = mA.by' - mA.tl.size + y := by rw [IntKind.wrap_i64]; omega
    clear hdn hT q1 q2 hpl hf1 hf2 hsz ht1 ht2 hF hy hmA hZB hby htl cs htb htt hmt hyb h hE hs hb0
    go_enter Tryd.func20, Tryd.ntmps20
    go_upto_region 1 with fail
    generalize hW0 : (w.alloc _).alloc _ = W0
    have HF : Hid (FT w k n W0.drew) := by rw [← hW0]; exact HF0.out
    clear hW0 HF0
    obtain ⟨f1, f2⟩ := HF.out.cells
    go_region_held3 (fun w' => w'.cell? ⟨w.heap.size, 0, none⟩ = some (ckv k) ∧ w'.cell? ⟨w.heap.size + 1, 0, none⟩ = some (.int .i64 n)) (go_keep) (first | (go_at_fn fS; refine (C1.out _ HF).mono ?_; clear C1 HF; rintro e w2 ⟨rfl, HF⟩; obtain ⟨f3, f4⟩ := HF.out.cells) | (go_at_call 33; refine (C2.out _ HF).mono ?_; clear C2 HF; rintro e w3 ⟨rfl, HF⟩; obtain ⟨f5, f6⟩ := HF.out.cells))
    go_upto_region 5 with (go_at_call 34; refine (CD.out _ HF).mono ?_; clear CD HF; rintro e w4 ⟨rfl, HF⟩)
    obtain ⟨W2, hW2⟩ : ∃ W2, (w4.alloc (.cells #[.int .i64 mA.by', .int .i64 mA.un, .int .i64 mA.cl, .int .i64 mA.ce, .int .i64 mA.nl, .string mA.hd, .string mA.tl] 42)) = W2 := ⟨_, rfl⟩
    have H2 : Hid (FT w k n W2.drew) := by rw [← hW2]; exact HF.out.below ((Below.refl _ w4).alloc (Nat.le_refl _) _).drew
    have G2 : Hid (W2.drew.heap[w4.heap.size]? = some (.cells (scs mA) 42 (0, 0))) := by show _ = _; rw [← hW2]; exact World.alloc_heap_new w4 _
    rw [hW2]
    clear hW2 HF f1 f2 f3 f4 f5 f6
    obtain ⟨f1, f2⟩ := H2.out.cells
    obtain ⟨⟨c0, c1, c2, c3, c4, c5, c6⟩, -⟩ := box7 G2.out
    have KP : Hid (∀ X Y : World, X.heap[w4.heap.size]? = some (.cells (scs mA) 42 (0, 0)) → Below X.heap.size X Y → Y.heap[w4.heap.size]? = some (.cells (scs mA) 42 (0, 0))) := fun X Y h hb => (hb.block _ (Array.getElem?_eq_some_iff.1 h).1).trans h
    go_region_held3 (fun w' => w'.cell? ⟨w4.heap.size, 0, none⟩ = some (.int .i64 mA.by') ∧ w'.cell? ⟨w4.heap.size, 1, none⟩ = some (.int .i64 mA.un) ∧ w'.cell? ⟨w4.heap.size, 2, none⟩ = some (.int .i64 mA.cl) ∧ w'.cell? ⟨w4.heap.size, 3, none⟩ = some (.int .i64 mA.ce) ∧ w'.cell? ⟨w4.heap.size, 4, none⟩ = some (.int .i64 mA.nl) ∧ w'.cell? ⟨w4.heap.size, 5, none⟩ = some (.string mA.hd) ∧ w'.cell? ⟨w4.heap.size, 6, none⟩ = some (.string mA.tl) ∧ w'.cell? ⟨w.heap.size, 0, none⟩ = some (ckv k) ∧ w'.cell? ⟨w.heap.size + 1, 0, none⟩ = some (.int .i64 n)) (go_keep) (first | (go_at_call 37; refine (CF.out _ H2).mono ?_; clear CF; rintro e w5 ⟨rfl, HB⟩; have H5 : Hid (FT w k n w5) := H2.out.below HB.out; have G5 : Hid (w5.heap[w4.heap.size]? = some (.cells (scs mA) 42 (0, 0))) := KP.out _ _ G2.out HB.out; clear H2 G2 HB; obtain ⟨f3, f4⟩ := H5.out.cells; obtain ⟨⟨d0, d1, d2, d3, d4, d5, d6⟩, -⟩ := box7 G5.out) | (go_at_call 36; refine (CS.out _ H5).mono ?_; clear CS; rintro e w6 ⟨rfl, HB⟩; have H6 : Hid (FT w k n w6) := H5.out.below HB.out; have G6 : Hid (w6.heap[w4.heap.size]? = some (.cells (scs mA) 42 (0, 0))) := KP.out _ _ G5.out HB.out; clear H5 G5 HB; obtain ⟨f5, f6⟩ := H6.out.cells; obtain ⟨⟨e0, e1, e2, e3, e4, e5, e6⟩, -⟩ := box7 G6.out))
    all_goals go_wp2
    all_goals exact bodyPost_ret (v := .tuple #[.int .i64 (mA.by' - mA.tl.size + y), .int .i64 0]) (by simp [results, Tryd.results20, go_sem]) rfl ⟨by rw [E.out], H6.out.b⟩
end Go.Proofs.YtiehhafbblbbiabDoor
