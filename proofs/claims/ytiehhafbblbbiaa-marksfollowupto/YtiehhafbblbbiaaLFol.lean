/-
  The walk of the law MarksFollow: a place goes with what stands there, and the order of places stays. Conditions: the two texts are of at most 1048576 letters each.
-/
import Derived.Test.YtiehhafbblbbiaaELay
import Derived.Test.YtiehhafbblbbiaaEMovC
import Derived.Test.YtiehhafbblbbiaaUMks
import Derived.Deep.RegionHeld3
import Derived.Deep.DeepCutAuto
namespace Go.Proofs.Ytiehhafbblbbiaa
open Go.RowKit

/-- the delta lies in the block b -/
structure DW (w : World) (b : Nat) (d : Dl) (W : World) : Prop where
  bel : Below w.heap.size w W
  blk : W.heap[b]? = some (.cells #[.int .i64 d.a, .string d.o, .string d.i] 64 (0, 0))
theorem DW.cells {w W : World} {b : Nat} {d : Dl} (h : DW w b d W) : W.cell? ⟨b, 0, none⟩ = some (.int .i64 d.a) ∧ W.cell? ⟨b, 1, none⟩ = some (.string d.o) ∧ W.cell? ⟨b, 2, none⟩ = some (.string d.i) := by
  simp [World.cell?, h.blk]
theorem DW.drew {w W : World} {b : Nat} {d : Dl} (h : DW w b d W) : DW w b d W.drew := ⟨⟨h.bel.os, h.bel.tape, h.bel.output, h.bel.size, h.bel.block⟩, h.blk⟩
theorem DW.drewN {w W : World} {b : Nat} {d : Dl} (h : DW w b d W) (n : Nat) : DW w b d (W.drewN n) := ⟨⟨h.bel.os, h.bel.tape, h.bel.output, h.bel.size, h.bel.block⟩, h.blk⟩
theorem DW.below {w W W' : World} {b : Nat} {d : Dl} (h : DW w b d W) (hb : Below W.heap.size W W') : DW w b d W' := ⟨h.bel.trans (hb.mono h.bel.size), (hb.block b (Array.getElem?_eq_some_iff.1 h.blk).1).trans h.blk⟩
theorem DW.alloc {w W : World} {b : Nat} {d : Dl} (h : DW w b d W) (o : Obj) : DW w b d (W.alloc o) := h.below ((Below.refl _ W).alloc (Nat.le_refl _) o)
theorem rdd_at {W : World} {g : Nat} {d : Dl} (h : W.heap[g]? = some (.cells #[.int .i64 d.a, .string d.o, .string d.i] 64 (0, 0))) : RdD W (.slice (some ⟨g, 0, none⟩) 1 1) [d] := by
  refine ⟨_, _, rfl, fun _ => ⟨g, 0, rfl, (Array.getElem?_eq_some_iff.1 h).1, fun k p hk => ?_⟩⟩
  match k, hk with
  | 0, hk => cases hk; simp [World.cell?, h]
  | k + 1, hk => simp at hk
theorem two_new (W : World) (o : Obj) : ((W.alloc o).alloc o).heap[W.heap.size]? = some o ∧ ((W.alloc o).alloc o).heap[W.heap.size + 1]? = some o := by
  have h := World.alloc_heap_new (W.alloc o) o
  rw [World.size_alloc] at h
  exact ⟨(Below.heap_alloc _ _ _ (by simp)).trans (World.alloc_heap_new W o), h⟩
theorem two_kept {W W' : World} {o : Obj} (h : Below ((W.alloc o).alloc o).drew.heap.size ((W.alloc o).alloc o).drew W') : W'.heap[W.heap.size]? = some o ∧ W'.heap[W.heap.size + 1]? = some o := by
  have hs : ((W.alloc o).alloc o).drew.heap.size = W.heap.size + 1 + 1 := by
    show ((W.alloc o).alloc o).heap.size = _
    rw [World.size_alloc, World.size_alloc]
  exact ⟨(h.block _ (by omega)).trans (two_new W o).1, (h.block _ (by omega)).trans (two_new W o).2⟩
theorem new1d (W : World) (o : Obj) : (W.alloc o).drew.heap[W.heap.size]? = some o := World.alloc_heap_new W o
theorem two_newd (W : World) (o : Obj) : ((W.alloc o).alloc o).drew.heap[W.heap.size]? = some o ∧ ((W.alloc o).alloc o).drew.heap[W.heap.size + 1]? = some o := two_new W o
theorem bytes_ext {a b : ByteArray} (h : a.data.toList = b.data.toList) : a = b := by
  apply ByteArray.ext
  exact Array.toList_inj.1 h
theorem ext_end (x : ByteArray) (k : Nat) : (x.extract k x.size).data.toList = x.data.toList.drop k := by
  rw [ByteArray.data_extract, Array.toList_extract, List.extract_eq_take_drop]
  apply List.take_of_length_le
  simp
theorem ext_beg (x : ByteArray) (k : Nat) : (x.extract 0 k).data.toList = x.data.toList.take k := by
  rw [ByteArray.data_extract, Array.toList_extract, List.extract_eq_take_drop]
  simp
/-- what stands behind the place is what stood there -/
theorem tail_same (t s : ByteArray) {I m A : Nat} (h1 : I + m ≤ A) (h2 : A ≤ t.size) :
    (t.extract 0 I ++ s ++ t.extract (I + m) t.size).extract (A + s.size - m) (t.extract 0 I ++ s ++ t.extract (I + m) t.size).size = t.extract A t.size := by
  apply bytes_ext
  have hz : t.data.toList.length = t.size := by simp
  have hzs : s.data.toList.length = s.size := by simp
  rw [ext_end, ext_end, ByteArray.data_append, ByteArray.data_append, Array.toList_append, Array.toList_append, ext_end, ext_beg]
  have e1 : (t.data.toList.take I).length = I := by rw [List.length_take]; omega
  rw [List.drop_append, List.drop_append, List.drop_eq_nil_of_le (by omega), List.drop_eq_nil_of_le (by omega)]
  simp only [List.nil_append, List.length_append, List.drop_drop]
  congr 1
  omega
theorem next_size (t s : ByteArray) {I m : Nat} (h1 : I + m ≤ t.size) : (t.extract 0 I ++ s ++ t.extract (I + m) t.size).size = t.size - m + s.size := by
  simp
  omega
set_option maxRecDepth 100000 in
set_option maxHeartbeats 4000000 in
theorem walk_of (t s : ByteArray) (ia ic ip iq : Int) (w : World) (ht : t.size ≤ 1048576) (hs : s.size ≤ 1048576) (ha : 0 ≤ ia ∧ ia < 65536) (hc : 0 ≤ ic ∧ ic < 65536) (hp : 0 ≤ ip ∧ ip < 65536) (hq : 0 ≤ iq ∧ iq < 65536) :
    Calls Try.prog 7 #[.string t, .string s, .int .u16 ia, .int .u16 ic, .int .u16 ip, .int .u16 iq] w fun e w' => e = .returned (.bool true) ∧ Below w.heap.size w w' := by
  have CL := lays_any w
  obtain ⟨n, hn⟩ : ∃ n, t.size = n := ⟨_, rfl⟩
  have md : ∀ (x : Int) (d : Nat), ∃ k : Nat, x % ((d : Int) + 1) = (k : Int) ∧ k ≤ d := fun x d => by
    have h1 := Int.emod_nonneg x (show (d : Int) + 1 ≠ 0 by omega)
    have h2 := Int.emod_lt_of_pos x (show 0 < (d : Int) + 1 by omega)
    exact ⟨(x % ((d : Int) + 1)).toNat, by omega, by omega⟩
  obtain ⟨I, hI, hIn⟩ := md ia t.size
  obtain ⟨m, hM, hmn⟩ := md ic (t.size - I)
  rw [show ((t.size - I : Nat) : Int) = (t.size : Int) - (I : Int) by omega] at hM
  obtain ⟨A, hA, hAn⟩ := md ip t.size
  obtain ⟨B, hB, hBn⟩ := md iq t.size
  have hIm : ((I : Int) + (m : Int)).toNat = I + m := by omega
  have hz1 : (t.size : Int) + 1 ≠ 0 := by omega
  have hz2 : (t.size : Int) - (I : Int) + 1 ≠ 0 := by omega
  clear md hn
  go_enter Try.func7, Try.ntmps7
  go_wp2_with (go_at_call 9; refine CL.mono ?_; clear CL; rintro e w1 ⟨rfl, hb1⟩; have HB1 : Hid (Below w.heap.size w w1) := hb1; clear hb1)
  simp only [hI, hM]
  obtain ⟨o, ho⟩ : ∃ o, t.extract I (I + m) = o := ⟨_, rfl⟩
  have hos : o.size = m := by rw [← ho]; simp; omega
  have HO : Hid (t.extract I (I + m) = o) := ho
  simp only [ho]
  have hds : Dl.fit ⟨(I : Int), o, s⟩ := ⟨⟨by simp only; omega, by simp only; omega⟩, by simp only; unfold maxLen; omega, by simp only; unfold maxLen; omega⟩
  obtain ⟨z0, z1, z2⟩ := new3 w1 (.int .i64 (I : Int)) (.string o) (.string s) 64
  obtain ⟨W2, hW2⟩ : ∃ W2, w1.alloc (.cells #[.int .i64 (I : Int), .string o, .string s] 64) = W2 := ⟨_, rfl⟩
  rw [hW2] at z0 z1 z2
  rw [hW2]
  obtain ⟨db, hdb⟩ : ∃ db, w1.heap.size = db := ⟨_, rfl⟩
  have HB2 : Hid (DW w db ⟨(I : Int), o, s⟩ W2) := by rw [← hW2, ← hdb]; exact ⟨HB1.out.alloc HB1.out.size _, World.alloc_heap_new w1 _⟩
  rw [hdb] at z0 z1 z2
  simp only [hdb]
  clear hW2 hdb HB1 ho
  have hs1 : (I : Int) ≤ (t.size : Int) := by omega
  have hs2 : (I : Int) + (m : Int) ≤ (t.size : Int) := by omega
  go_quiet (fail)
  go_wp2
  have HB3 : Hid (DW w db ⟨(I : Int), o, s⟩ (W2.drewN nq)) := HB2.out.drewN nq
  obtain ⟨W25, h25⟩ : ∃ W25, W2.drewN nq = W25 := ⟨_, rfl⟩
  rw [h25] at HB3
  rw [h25]
  clear h25 HB2 z0 z1 z2
  go_quiet (fail)
  go_wp2
  simp only [hA, hB]
  have HW3 : Hid (DW w db ⟨(I : Int), o, s⟩ (W25.drewN nq)) := HB3.out.drewN nq
  obtain ⟨W3, hW3⟩ : ∃ W3, W25.drewN nq = W3 := ⟨_, rfl⟩
  rw [hW3] at HW3
  rw [hW3]
  clear hW3 HB3
  have hx := mvP_bd (p := (A : Int)) (d := ⟨(I : Int), o, s⟩) (by omega) (by simp only; omega)
  have hy := mvP_bd (p := (B : Int)) (d := ⟨(I : Int), o, s⟩) (by omega) (by simp only; omega)
  obtain ⟨X, hX⟩ : ∃ X : Nat, mvP (A : Int) ⟨(I : Int), o, s⟩ = (X : Int) := ⟨(mvP (A : Int) ⟨(I : Int), o, s⟩).toNat, by omega⟩
  obtain ⟨Y, hY⟩ : ∃ Y : Nat, mvP (B : Int) ⟨(I : Int), o, s⟩ = (Y : Int) := ⟨(mvP (B : Int) ⟨(I : Int), o, s⟩).toNat, by omega⟩
  have CA : Hid (∀ W g, W.heap[g]? = some (.cells #[.int .i64 (I : Int), .string o, .string s] 64 (0, 0)) → Calls Try.prog 12 #[.int .i64 (A : Int), .slice (some ⟨g, 0, none⟩) 1 1] W fun e W' => e = .returned (.int .i64 (X : Int)) ∧ Below W.heap.size W W') := fun W g h => by
    have := Moved_any (N := 1) (ds := [⟨(I : Int), o, s⟩]) rfl (by decide) (fun d hd => by rw [List.mem_singleton.1 hd]; exact hds) (rdd_at (d := ⟨(I : Int), o, s⟩) h) (A : Int) ⟨by omega, by omega⟩
    rw [show mvs (A : Int) [⟨(I : Int), o, s⟩] = (X : Int) from hX] at this
    exact this
  have CB : Hid (∀ W g, W.heap[g]? = some (.cells #[.int .i64 (I : Int), .string o, .string s] 64 (0, 0)) → Calls Try.prog 12 #[.int .i64 (B : Int), .slice (some ⟨g, 0, none⟩) 1 1] W fun e W' => e = .returned (.int .i64 (Y : Int)) ∧ Below W.heap.size W W') := fun W g h => by
    have := Moved_any (N := 1) (ds := [⟨(I : Int), o, s⟩]) rfl (by decide) (fun d hd => by rw [List.mem_singleton.1 hd]; exact hds) (rdd_at (d := ⟨(I : Int), o, s⟩) h) (B : Int) ⟨by omega, by omega⟩
    rw [show mvs (B : Int) [⟨(I : Int), o, s⟩] = (Y : Int) from hY] at this
    exact this
  rw [mvP_eq (by simp only; omega) (by simp only; omega)] at hX hY
  simp only [hos] at hX hY
  have hns := next_size t s (I := I) (m := m) (by omega)
  have hcase : (A ≤ I ∧ X = A) ∨ (I < A ∧ I + m ≤ A ∧ (t.extract 0 I ++ s ++ t.extract (I + m) t.size).extract X (t.extract 0 I ++ s ++ t.extract (I + m) t.size).size = t.extract A t.size) ∨ (I < A ∧ A < I + m ∧ X = I) := by
    by_cases c1 : (A : Int) ≤ (I : Int)
    · rw [if_pos c1] at hX
      exact .inl ⟨by omega, by omega⟩
    · rw [if_neg c1] at hX
      by_cases c2 : (A : Int) < (I : Int) + (m : Int)
      · rw [if_pos c2] at hX
        exact .inr (.inr ⟨by omega, by omega, by omega⟩)
      · rw [if_neg c2] at hX
        refine .inr (.inl ⟨by omega, by omega, ?_⟩)
        rw [show X = A + s.size - m by omega]
        exact tail_same t s (by omega) hAn
  obtain ⟨nx, hnx⟩ : ∃ nx, t.extract 0 I ++ s ++ t.extract (I + m) t.size = nx := ⟨_, rfl⟩
  rw [hnx] at hcase hns
  rw [hns] at hcase
  simp only [hnx]
  have hord : (A ≤ B ∧ X ≤ Y) ∨ B < A := by
    by_cases c : A ≤ B
    · refine .inl ⟨c, ?_⟩
      split at hX
      · split at hY
        · omega
        · split at hY <;> omega
      · split at hY
        · omega
        · split at hX
          · split at hY <;> omega
          · split at hY <;> omega
    · exact .inr (by omega)
  have hXn : X ≤ nx.size := by
    split at hX
    · omega
    · split at hX <;> omega
  have hYn : Y ≤ nx.size := by
    split at hY
    · omega
    · split at hY <;> omega
  clear hX hY hx hy hnx hds
  go_region_held3 (fun w' => w'.cell? ⟨db, 0, none⟩ = some (.int .i64 (I : Int)) ∧ w'.cell? ⟨db, 1, none⟩ = some (.string o) ∧ w'.cell? ⟨db, 2, none⟩ = some (.string s)) (first | exact HW3.out.cells | exact (HW3.out.alloc _).cells | exact HW3.out.drew.cells | exact (HW3.out.alloc _).drew.cells | exact ((HW3.out.alloc _).alloc _).cells | exact ((HW3.out.alloc _).alloc _).drew.cells)
    (first
      | (go_at_call 12; guard_target = Calls _ _ #[Value.int IntKind.i64 (A : Int), _] (World.drew (World.alloc (World.alloc _ _) _)) _; refine (CA.out _ _ (by first | exact (two_newd _ _).1 | exact (two_newd _ _).2)).mono ?_; clear CA; rintro e w4 ⟨rfl, hb4⟩; have HK : Hid _ := two_kept hb4; have HWn : Hid (DW w db ⟨(I : Int), o, s⟩ w4) := ((HW3.out.alloc _).alloc _).drew.below hb4; clear HW3 hb4; have HW3 := HWn; clear HWn)
      | (go_at_call 12; guard_target = Calls _ _ #[Value.int IntKind.i64 (A : Int), _] (World.drew (World.alloc _ _)) _; refine (CA.out _ _ (new1d _ _)).mono ?_; clear CA; rintro e w4 ⟨rfl, hb4⟩; have HWn : Hid (DW w db ⟨(I : Int), o, s⟩ w4) := (HW3.out.alloc _).drew.below hb4; clear HW3 hb4; have HW3 := HWn; clear HWn)
      | (go_at_call 12; guard_target = Calls _ _ #[Value.int IntKind.i64 (A : Int), _] (World.alloc _ _) _; refine (CA.out _ _ (World.alloc_heap_new _ _)).mono ?_; clear CA; rintro e w4 ⟨rfl, hb4⟩; have HWn : Hid (DW w db ⟨(I : Int), o, s⟩ w4) := (HW3.out.alloc _).below hb4; clear HW3 hb4; have HW3 := HWn; clear HWn)
      | (go_at_call 12; guard_target = Calls _ _ #[Value.int IntKind.i64 (A : Int), _] _ _; refine (CA.out _ _ (by first | exact HK.out.1 | exact HK.out.2)).mono ?_; clear CA; rintro e w4 ⟨rfl, hb4⟩; have HWn : Hid (DW w db ⟨(I : Int), o, s⟩ w4) := HW3.out.below hb4; clear HW3 hb4; have HW3 := HWn; clear HWn)
      | (go_at_call 12; guard_target = Calls _ _ #[Value.int IntKind.i64 (B : Int), _] (World.drew (World.alloc (World.alloc _ _) _)) _; refine (CB.out _ _ (by first | exact (two_newd _ _).1 | exact (two_newd _ _).2)).mono ?_; clear CB; rintro e w4 ⟨rfl, hb4⟩; have HK : Hid _ := two_kept hb4; have HWn : Hid (DW w db ⟨(I : Int), o, s⟩ w4) := ((HW3.out.alloc _).alloc _).drew.below hb4; clear HW3 hb4; have HW3 := HWn; clear HWn)
      | (go_at_call 12; guard_target = Calls _ _ #[Value.int IntKind.i64 (B : Int), _] (World.drew (World.alloc _ _)) _; refine (CB.out _ _ (new1d _ _)).mono ?_; clear CB; rintro e w4 ⟨rfl, hb4⟩; have HWn : Hid (DW w db ⟨(I : Int), o, s⟩ w4) := (HW3.out.alloc _).drew.below hb4; clear HW3 hb4; have HW3 := HWn; clear HWn)
      | (go_at_call 12; guard_target = Calls _ _ #[Value.int IntKind.i64 (B : Int), _] (World.alloc _ _) _; refine (CB.out _ _ (World.alloc_heap_new _ _)).mono ?_; clear CB; rintro e w4 ⟨rfl, hb4⟩; have HWn : Hid (DW w db ⟨(I : Int), o, s⟩ w4) := (HW3.out.alloc _).below hb4; clear HW3 hb4; have HW3 := HWn; clear HWn)
      | (go_at_call 12; guard_target = Calls _ _ #[Value.int IntKind.i64 (B : Int), _] _ _; refine (CB.out _ _ (by first | exact HK.out.1 | exact HK.out.2)).mono ?_; clear CB; rintro e w4 ⟨rfl, hb4⟩; have HWn : Hid (DW w db ⟨(I : Int), o, s⟩ w4) := HW3.out.below hb4; clear HW3 hb4; have HW3 := HWn; clear HWn))
  all_goals (rcases hord with ⟨d1, d2⟩ | d1)
  all_goals (rcases hcase with ⟨c1, e1⟩ | ⟨c1, c2, e1⟩ | ⟨c1, c2, e1⟩)
  all_goals go_wp2
  all_goals try (exfalso; omega)
  all_goals first | (go_ret; exact ⟨by simp, HW3.out.bel⟩) | (go_quiet (fail); go_wp2; go_ret; exact ⟨by simp, ⟨HW3.out.bel.os, HW3.out.bel.tape, HW3.out.bel.output, HW3.out.bel.size, HW3.out.bel.block⟩⟩)
end Go.Proofs.Ytiehhafbblbbiaa
