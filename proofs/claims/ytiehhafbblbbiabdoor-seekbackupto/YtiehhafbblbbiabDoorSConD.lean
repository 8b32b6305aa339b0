/-
  Package seek's far, begun and boundary: what is told of a place by the summary of what lies ahead and the first bytes behind. Conditions: the two tables of unicode/utf8 lie as their text lays them; the texts hold at most 1099511627776 bytes.
-/
import Derived.Test.YtiehhafbblbbiabDoorSConC
import Derived.Test.YtiehhafbblbbiabDoorCPlaces
import Derived.Deep.RegionHeld3
namespace Go.Proofs.YtiehhafbblbbiabDoor
open Go.RowKit Go.Shelf Bod Wid

/-- a place as a value: what lies ahead, the first bytes behind -/
abbrev pcs (m : Sum) (b : ByteArray) : Array Value := #[.int .i64 m.by', .int .i64 m.un, .int .i64 m.cl, .int .i64 m.ce, .int .i64 m.nl, .string m.hd, .string m.tl, .string b]
abbrev plv (m : Sum) (b : ByteArray) : Value := .agg (pcs m b)
theorem box8 {W : World} {b : Nat} {v0 v1 v2 v3 v4 v5 v6 v7 : Value} {t : TypeId} (h : W.heap[b]? = some (.cells #[v0, v1, v2, v3, v4, v5, v6, v7] t (0, 0))) :
    W.cell? ⟨b, 0, none⟩ = some v0 ∧ W.cell? ⟨b, 1, none⟩ = some v1 ∧ W.cell? ⟨b, 2, none⟩ = some v2 ∧ W.cell? ⟨b, 3, none⟩ = some v3 ∧ W.cell? ⟨b, 4, none⟩ = some v4 ∧ W.cell? ⟨b, 5, none⟩ = some v5 ∧ W.cell? ⟨b, 6, none⟩ = some v6 ∧ W.cell? ⟨b, 7, none⟩ = some v7 := by
  simp [World.cell?, h]
/-- a box lies as it was laid -/
def Bo (w : World) (b : Nat) (cs : Array Value) (t : TypeId) (W : World) : Prop := W.heap[b]? = some (.cells cs t (0, 0)) ∧ Below w.heap.size w W
theorem Bo.below {w W X : World} {b : Nat} {cs : Array Value} {t : TypeId} (h : Bo w b cs t W) (hb : Below W.heap.size W X) : Bo w b cs t X := ⟨(hb.block _ (Array.getElem?_eq_some_iff.1 h.1).1).trans h.1, Below.on h.2 hb⟩
theorem tot_bd (k : Ck) (s : ByteArray) : 0 ≤ tot k s ∧ tot k s ≤ 2 * s.size := by
  rw [← ful_tot]
  have := ful_bd k (l := cl s) (cl_n s)
  have := cl_len s
  omega
set_option maxRecDepth 100000 in
set_option maxHeartbeats 2000000 in
theorem far_any (k : Ck) (A : ByteArray) (hA : A.size ≤ 1099511627776) (w : World) (hE : Ev w) :
    Calls Tryd.prog 37 #[ckv k, sv (smr A)] w fun e W' => e = .returned (.int .i64 (tot k A - tot k (tl A))) ∧ Below w.heap.size w W' := by
  have hb := ((Below.refl _ w).alloc (Nat.le_refl _) (.cells (scs (smr A)) 42)).drew
  have H : Hid (Bo w w.heap.size (scs (smr A)) 42 (w.alloc (.cells (scs (smr A)) 42)).drew) := ⟨World.alloc_heap_new w _, hb⟩
  have ht : (smr A).tl = tl A := rfl
  have C1 : Hid (∀ W, Hid (Bo w w.heap.size (scs (smr A)) 42 W) → Calls Tryd.prog 33 #[ckv k, sv (smr A)] W fun e W' => e = .returned (.int .i64 (tot k A)) ∧ Hid (Bo w w.heap.size (scs (smr A)) 42 W')) := fun W h => (sall_any k (smr A) W).mono fun e W' ⟨h1, h2⟩ => ⟨by rw [h1, kc_smr], h.out.below h2⟩
  have C2 : Hid (∀ W, Hid (Bo w w.heap.size (scs (smr A)) 42 W) → Calls Tryd.prog 44 #[ckv k, .string (smr A).tl, .int .i64 ((smr A).tl.size : Int)] W fun e W' => e = .returned (.int .i64 (tot k (tl A))) ∧ Hid (Bo w w.heap.size (scs (smr A)) 42 W')) := fun W h => (counted_any' k (tl A) (by rw [tl_size]; omega) _ W (hE.below h.out.2)).mono fun e W' ⟨h1, h2⟩ => ⟨by rw [h1, ht, cn_end, ful_tot], h.out.below h2⟩
  have t1 := tot_bd k A
  have t2 := tot_bd k (tl A)
  have t3 : (tl A).size ≤ 16 := by rw [tl_size]; omega
  obtain ⟨x, hx⟩ : ∃ x, tot k A = x := ⟨_, rfl⟩
  obtain ⟨y, hy⟩ : ∃ y, tot k (tl A) = y := ⟨_, rfl⟩
  rw [hx] at C1 t1 ⊢
  rw [hy] at C2 t2 ⊢
  have b1 : 0 ≤ x ∧ x ≤ 2199023255552 := by omega
  have b2 : 0 ≤ y ∧ y ≤ 32 := by omega
  have hw : IntKind.i64.wrap (x - y) = x - y := by rw [IntKind.wrap_i64]; omega
  obtain ⟨m, hm⟩ : ∃ m, smr A = m := ⟨_, rfl⟩
  rw [hm] at C1 C2 H hb ht ⊢
  rw [← ht] at t3
  obtain ⟨⟨c0, c1, c2, c3, c4, c5, c6⟩, -⟩ := box7 H.out.1
  clear hE hm hx hy ht t1 t2 hA
  go_enter Tryd.func37, Tryd.ntmps37
  go_wp2
  go_region_held3 (fun w' => w'.cell? ⟨w.heap.size, 0, none⟩ = some (.int .i64 m.by') ∧ w'.cell? ⟨w.heap.size, 1, none⟩ = some (.int .i64 m.un) ∧ w'.cell? ⟨w.heap.size, 2, none⟩ = some (.int .i64 m.cl) ∧ w'.cell? ⟨w.heap.size, 3, none⟩ = some (.int .i64 m.ce) ∧ w'.cell? ⟨w.heap.size, 4, none⟩ = some (.int .i64 m.nl) ∧ w'.cell? ⟨w.heap.size, 5, none⟩ = some (.string m.hd) ∧ w'.cell? ⟨w.heap.size, 6, none⟩ = some (.string m.tl)) (go_keep) (first | (go_at_call 33; refine (C1.out _ H).mono ?_; clear C1 H; rintro e w2 ⟨rfl, H⟩; obtain ⟨⟨z0, z1, z2, z3, z4, z5, z6⟩, -⟩ := box7 H.out.1) | (go_at_call 44; refine (C2.out _ H).mono ?_; clear C2 H; rintro e w3 ⟨rfl, H⟩; obtain ⟨⟨y0, y1, y2, y3, y4, y5, y6⟩, -⟩ := box7 H.out.1))
  all_goals go_wp2
  all_goals go_ret
  all_goals exact ⟨rfl, H.out.2⟩
/-- what begins ahead of a place is told by what is near it -/
theorem cn_place (k : Ck) (A B : ByteArray) : tot k A - tot k (tl A) + cn k (tl A ++ hd B) ((tl A).size : Int) = cn k (A ++ B) (A.size : Int) := by
  have := cn_loc k A noB noB B
  rw [noB_app, noB_app, noB_app, noB_app, noB_size, Nat.add_zero, Nat.add_zero] at this
  omega
theorem cb_place (A B : ByteArray) : cbZ (tl A ++ hd B) ((tl A).size : Int) = cbZ (A ++ B) (A.size : Int) := by
  by_cases hA : A.size = 0
  · have h1 : (tl A).size = 0 := by rw [tl_size]; omega
    rw [hA, h1]
    exact (cb_zero _).trans (cb_zero _).symm
  · by_cases hB : B.size = 0
    · have h1 : (hd B).size = 0 := by rw [hd_size]; omega
      rw [noB_of h1, noB_of hB, app_noB, app_noB]
      exact (cb_end _).trans (cb_end _).symm
    · have z1 := tl_size A
      have z2 := hd_size B
      refine cb_near (by omega) (by rw [size_app]; omega) (by omega) (by rw [size_app]; omega) (by omega) fun d h1 h2 => ?_
      have e1 : un (A ++ B) (A.size - d) = un (tl A ++ B) ((tl A).size - d) := by
        by_cases h : 16 < A.size
        · obtain ⟨p, e, hz⟩ := tl_split A h
          have hs : A.size = p.size + (tl A).size := by rw [← size_app, ← e]
          have : un (p ++ (tl A ++ B)) (p.size + ((tl A).size - d)) = un (tl A ++ B) ((tl A).size - d) := un_right p _ _
          rw [← app_assoc, ← e, show p.size + ((tl A).size - d) = A.size - d by omega] at this
          exact this
        · rw [tl_short (by omega)]
      have e2 : un (tl A ++ B) ((tl A).size - d) = un (tl A ++ hd B) ((tl A).size - d) := by
        by_cases h : 16 < B.size
        · obtain ⟨r, e, hz⟩ := hd_split B h
          have : tl A ++ B = tl A ++ hd B ++ r := by rw [app_assoc, ← e]
          rw [this]
          exact un_left4 _ _ _ (by rw [size_app]; omega)
        · rw [hd_short (by omega)]
      rw [e1, e2]
set_option maxRecDepth 100000 in
set_option maxHeartbeats 2000000 in
theorem begun_any' (k : Ck) (A B : ByteArray) (hA : A.size ≤ 1099511627776) (w : World) (hE : Ev w) :
    Calls Tryd.prog 23 #[plv (smr A) (hd B), ckv k] w fun e W' => e = .returned (.int .i64 (cn k (A ++ B) (A.size : Int))) ∧ Below w.heap.size w W' := by
  have hb := ((Below.refl _ w).alloc (Nat.le_refl _) (.cells (pcs (smr A) (hd B)) 51)).drew
  have H : Hid (Bo w w.heap.size (pcs (smr A) (hd B)) 51 (w.alloc (.cells (pcs (smr A) (hd B)) 51)).drew) := ⟨World.alloc_heap_new w _, hb⟩
  have ht : (smr A).tl = tl A := rfl
  have z1 := tl_size A
  have z2 := hd_size B
  have C1 : Hid (∀ W, Hid (Bo w w.heap.size (pcs (smr A) (hd B)) 51 W) → Calls Tryd.prog 37 #[ckv k, sv (smr A)] W fun e W' => e = .returned (.int .i64 (tot k A - tot k (tl A))) ∧ Hid (Bo w w.heap.size (pcs (smr A) (hd B)) 51 W')) := fun W h => (far_any k A hA W (hE.below h.out.2)).mono fun e W' ⟨h1, h2⟩ => ⟨h1, h.out.below h2⟩
  have C2 : Hid (∀ W, Hid (Bo w w.heap.size (pcs (smr A) (hd B)) 51 W) → Calls Tryd.prog 44 #[ckv k, .string ((smr A).tl ++ hd B), .int .i64 ((smr A).tl.size : Int)] W fun e W' => e = .returned (.int .i64 (cn k (tl A ++ hd B) ((tl A).size : Int))) ∧ Hid (Bo w w.heap.size (pcs (smr A) (hd B)) 51 W')) := fun W h => (counted_any' k (tl A ++ hd B) (by rw [size_app]; omega) _ W (hE.below h.out.2)).mono fun e W' ⟨h1, h2⟩ => ⟨h1, h.out.below h2⟩
  have t1 := tot_bd k A
  have t2 := tot_bd k (tl A)
  have t4 := cnL_bd k ((tl A).size : Int) (l := cl (tl A ++ hd B)) (cl_n _)
  have t5 := cl_len (tl A ++ hd B)
  rw [size_app] at t5
  rw [← cn_place]
  obtain ⟨x, hx⟩ : ∃ x, tot k A - tot k (tl A) = x := ⟨_, rfl⟩
  obtain ⟨y, hy⟩ : ∃ y, cn k (tl A ++ hd B) ((tl A).size : Int) = y := ⟨_, rfl⟩
  have b2 : 0 ≤ y ∧ y ≤ 64 := by rw [← hy]; unfold cn; omega
  rw [hx] at C1 ⊢
  rw [hy] at C2 ⊢
  have b1 : -32 ≤ x ∧ x ≤ 2199023255552 := by omega
  have hw : IntKind.i64.wrap (x + y) = x + y := by rw [IntKind.wrap_i64]; omega
  obtain ⟨m, hm⟩ : ∃ m, smr A = m := ⟨_, rfl⟩
  have t3 : m.tl.size ≤ 16 := by rw [← hm, ht]; omega
  have t6 : (hd B).size ≤ 16 := by omega
  rw [hm] at C1 C2 H hb ⊢
  generalize hd B = Z at *
  obtain ⟨c0, c1, c2, c3, c4, c5, c6, c7⟩ := box8 H.out.1
  have s1 : ¬ 9223372036854775807 < m.tl.size + Z.size := by omega
  clear hE hm hx hy ht t1 t2 t4 t5 hA z1 z2
  go_enter Tryd.func23, Tryd.ntmps23
  go_wp2
  go_region_held3 (fun w' => w'.cell? ⟨w.heap.size, 0, none⟩ = some (.int .i64 m.by') ∧ w'.cell? ⟨w.heap.size, 1, none⟩ = some (.int .i64 m.un) ∧ w'.cell? ⟨w.heap.size, 2, none⟩ = some (.int .i64 m.cl) ∧ w'.cell? ⟨w.heap.size, 3, none⟩ = some (.int .i64 m.ce) ∧ w'.cell? ⟨w.heap.size, 4, none⟩ = some (.int .i64 m.nl) ∧ w'.cell? ⟨w.heap.size, 5, none⟩ = some (.string m.hd) ∧ w'.cell? ⟨w.heap.size, 6, none⟩ = some (.string m.tl) ∧ w'.cell? ⟨w.heap.size, 7, none⟩ = some (.string Z)) (go_keep) (first | (go_at_call 37; refine (C1.out _ H).mono ?_; clear C1 H; rintro e w2 ⟨rfl, H⟩; obtain ⟨z0, z1, z2, z3, z4, z5, z6, z7⟩ := box8 H.out.1) | (go_at_call 44; refine (C2.out _ H).mono ?_; clear C2 H; rintro e w3 ⟨rfl, H⟩; obtain ⟨y0, y1, y2, y3, y4, y5, y6, y7⟩ := box8 H.out.1))
  all_goals go_wp2
  all_goals go_ret
  all_goals exact ⟨by rw [← hw]; rfl, H.out.2⟩
set_option maxRecDepth 100000 in
set_option maxHeartbeats 1000000 in
theorem sbound_any (A B : ByteArray) (w : World) (hE : Ev w) :
    Calls Tryd.prog 29 #[plv (smr A) (hd B)] w fun e W' => e = .returned (.bool (cbZ (A ++ B) (A.size : Int))) ∧ Below w.heap.size w W' := by
  have hb := (Below.refl _ w).alloc (Nat.le_refl _) (.cells (pcs (smr A) (hd B)) 51)
  have ht : (smr A).tl = tl A := rfl
  have z1 := tl_size A
  have z2 := hd_size B
  have C1 : Hid (∀ W, Hid (Below w.heap.size w W) → Calls Tryd.prog 10 #[.string ((smr A).tl ++ hd B), .int .i64 ((smr A).tl.size : Int)] W fun e W' => e = .returned (.bool (cbZ (A ++ B) (A.size : Int))) ∧ Hid (Below w.heap.size w W')) := fun W h => (cbound_any (tl A ++ hd B) _ (by unfold maxLen; rw [size_app]; omega) W (hE.below h.out).t (by rw [ht]; omega)).mono fun e W' ⟨h1, h2⟩ => ⟨by rw [h1, ht, cb_place], Below.on h.out h2⟩
  obtain ⟨m, hm⟩ : ∃ m, smr A = m := ⟨_, rfl⟩
  have t3 : m.tl.size ≤ 16 := by rw [← hm, ht]; omega
  have t6 : (hd B).size ≤ 16 := by omega
  generalize cbZ (A ++ B) (A.size : Int) = R at *
  rw [hm] at C1 hb ⊢
  generalize hd B = Z at *
  have H : Hid (Below w.heap.size w (w.alloc (.cells (pcs m Z) 51))) := hb
  clear hE hm ht z1 z2 hb
  go_enter Tryd.func29, Tryd.ntmps29
  go_wp2_with (go_at_call 10; refine (C1.out _ H).mono ?_; clear C1 H; rintro e w2 ⟨rfl, H⟩)
  go_ret
  exact ⟨rfl, H.out⟩
end Go.Proofs.YtiehhafbblbbiabDoor
