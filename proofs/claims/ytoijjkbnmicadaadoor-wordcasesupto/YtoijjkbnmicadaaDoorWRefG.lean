/-
  The walks of the document's own copy of package word: Upper, Lower and Capital (At at a boundary with them). Conditions: the text is so short that its lists can be made.
-/
import Derived.Test.YtoijjkbnmicadaaDoorURefE
import Derived.Test.YtoijjkbnmicadaaDoorWRefC
import Derived.Test.YtoijjkbnmicadaaDoorWRefE
import Derived.Test.YtoijjkbnmicadaaDoorWLaw
namespace Go.Proofs.YtoijjkbnmicadaaDoor
open Go.RowKit Go.Sort Bod Wid

theorem extract_one {s : ByteArray} {x : Nat} (h : x < s.size) : (s.extract x (x + 1)).data.toList = [s[x]'h] := by
  rw [Lib.extract_data]
  have hl : x < s.data.toList.length := by rw [← Lib.size_eq]; exact h
  rw [show x + 1 - x = 1 by omega, List.drop_eq_getElem_cons hl]
  simp [ByteArray.getElem_eq_getElem_data]
theorem runits_rd (s : ByteArray) (hs : s.size ≤ 4398046511000) (w : World) (n : Nat) (hn : (offs s 0).length = n) :
    Calls Tryd.prog 65 #[.string s] w fun e W' => ∃ a cap, e = .returned (.slice a n cap) ∧ Hid (∀ (j x : Nat), (offs s 0)[j]? = some x → ∃ g, a = some ⟨g, 0, none⟩ ∧ g < W'.heap.size ∧ W'.cell? ⟨g, j * 2, none⟩ = some (.int .i32 (ch s x)) ∧ W'.cell? ⟨g, j * 2 + 1, none⟩ = some (.int .i64 (sz s x))) ∧ Below w.heap.size w W' := by
  refine (runits_any s (by omega) w).mono ?_
  rintro e W' ⟨v, rfl, h2, h3⟩
  rw [hn] at h2
  rcases h2.2 with ⟨h0, h1⟩ | ⟨g, cap, cur, hv, _⟩
  · refine ⟨none, 0, by rw [h0, h1], fun j x hj => ?_, h3⟩
    have := (List.getElem?_eq_some_iff.1 hj).1
    omega
  · subst hv
    refine ⟨_, cap, rfl, fun j x hj => ?_, h3⟩
    have hjl := (List.getElem?_eq_some_iff.1 hj).1
    obtain ⟨u0, u1⟩ := ucells_get s (offs s 0) j x hj
    exact ⟨g, rfl, (h2.lt g rfl).2, (h2.cellAt (j * 2) (by omega)).trans u0, (h2.cellAt (j * 2 + 1) (by omega)).trans u1⟩

set_option maxRecDepth 100000 in
set_option maxHeartbeats 2000000 in
theorem rformed_up (s : ByteArray) (hs : s.size ≤ 4398046511000) (w : World) :
    Calls Tryd.prog 49 #[.string s, .bool true] w fun e W' => e = .returned (.string (fm (fun _ => upc) s)) ∧ Below w.heap.size w W' := by
  obtain ⟨n, hn⟩ : ∃ n, (offs s 0).length = n := ⟨_, rfl⟩
  have hnb : n ≤ s.size := by rw [← hn]; exact offs_len_le s
  have HN : Hid ((offs s 0).length = n) := hn
  have CU : Hid (Calls Tryd.prog 65 #[.string s] w fun e W' => ∃ a cap, e = .returned (.slice a n cap) ∧ Hid (∀ (j x : Nat), (offs s 0)[j]? = some x → ∃ g, a = some ⟨g, 0, none⟩ ∧ g < W'.heap.size ∧ W'.cell? ⟨g, j * 2, none⟩ = some (.int .i32 (ch s x)) ∧ W'.cell? ⟨g, j * 2 + 1, none⟩ = some (.int .i64 (sz s x))) ∧ Below w.heap.size w W') := runits_rd s hs w n hn
  have CF : Hid (∀ (c : Int) W, Calls Tryd.prog 13 #[.int .i32 c] W fun e W' => e = .returned (.int .i32 (upc c)) ∧ Below W.heap.size W W') := fun c W => rupof_any c W
  have CE : Hid (∀ (c : Int) W, Lib.validRune c = true → Calls Tryd.prog 75 #[.slice (some ⟨W.heap.size, 0, none⟩) 1 1] (W.alloc (.cells #[.int .i32 c] 21)) fun e W' => e = .returned (.string ⟨(Lib.encodeRune c).toArray⟩) ∧ Below W.heap.size W W') := fun c W hv => by
    have := rencode_core [c] W.heap.size 0 1 (W.alloc (.cells #[.int .i32 c] 21)) (by simp) (fun j hj => by have : j = 0 := (by simpa using hj); subst this; simp) (by simp)
    refine this.mono ?_
    rintro e w' ⟨rfl, hb⟩
    exact ⟨by simp [encs, hv], ((Below.refl _ W).alloc (Nat.le_refl _) _).trans (hb.mono (by simp))⟩
  clear hn
  go_enter Tryd.func49, Tryd.ntmps49
  go_wp2_with (go_at_call 65; refine CU.out.mono ?_; clear CU; rintro e w1 ⟨la, lc, rfl, HG, hb1⟩)
  go_loopw [8, 7, 6] (fun t8 t7 t6 wr => ∃ (pre : List Nat) (i : Nat) (x : ByteArray), t8 = .int .i64 pre.length ∧ t7 = .int .i64 i ∧ t6 = .string x ∧ i ≤ s.size ∧ B s i ∧ pre ++ offs s i = offs s 0 ∧ x.data.toList = pre.flatMap (pc (fun _ => upc) s) ∧ Below w1.heap.size w1 wr ∧ Below w.heap.size w wr) (fun _ t7 _ _ => s.size - (intOf t7).toNat)
  case atStart => exact ⟨[], 0, ⟨#[]⟩, rfl, rfl, rfl, Nat.zero_le _, B_zero s, rfl, rfl, Below.refl _ _, hb1⟩
  case round =>
    obtain ⟨pre, i, x, rfl, rfl, rfl, hi, hBi, hpre, hx, hB1, hB⟩ := hrel
    have hpl := congrArg List.length hpre
    rw [List.length_append, HN.out] at hpl
    by_cases hlt : i < s.size
    · have hpos := sz_pos hlt
      have hin := sz_in hlt
      rw [offs_step hlt, List.length_cons] at hpl
      have hat : (offs s 0)[pre.length]? = some i := by rw [← hpre, offs_step hlt]; simp
      obtain ⟨g, rfl, hgl, d0, d1⟩ := HG.out _ _ hat
      have hkl : (pre.length : Int) < n := by omega
      have r0 : wr.cell? ⟨g, pre.length * 2, none⟩ = some (.int .i32 (ch s i)) := (hB1.cell (p := ⟨g, pre.length * 2, none⟩) hgl).trans d0
      have r1 : wr.cell? ⟨g, pre.length * 2 + 1, none⟩ = some (.int .i64 (sz s i)) := (hB1.cell (p := ⟨g, pre.length * 2 + 1, none⟩) hgl).trans d1
      have HR1 : Hid (∀ W, Below wr.heap.size wr W → W.cell? ⟨g, pre.length * 2 + 1, none⟩ = some (.int .i64 (sz s i))) := fun W hW => (hW.cell (p := ⟨g, pre.length * 2 + 1, none⟩) (Nat.lt_of_lt_of_le hgl hB1.size)).trans r1
      have HP : Hid (B s (i + sz s i) ∧ pre ++ [i] ++ offs s (i + sz s i) = offs s 0) := ⟨B_next hBi hlt, by rw [← hpre, offs_step hlt]; simp⟩
      have HX : Hid (x.data.toList = pre.flatMap (pc (fun _ => upc) s)) := hx
      have hsi : (i : Int) + sz s i ≤ 9223372036854775807 := by omega
      have HB1 : Hid (Below w1.heap.size w1 wr) := hB1
      have hxs : x.size ≤ 4 * s.size := by
        rw [Lib.size_eq, hx]
        have h1 := flat_four upc s pre
        omega
      by_cases hneg : ch s i < 0
      · have HE : Hid (pc (fun _ => upc) s i = (s.extract i (i + 1)).data.toList) := by
          show _ = _
          unfold pc
          rw [if_pos hneg, get_bang hlt, extract_one hlt]
        have HS1 : Hid (sz s i = 1) := (ch_neg hneg).2
        have hi1 : i + 1 ≤ s.size := by omega
        clear HG hat d0 d1 hx hpre hBi CF CE hB1
        go_wp2
        exact ⟨⟨pre ++ [i], i + sz s i, x ++ s.extract i (i + 1), by simp, by first | rfl | simp, rfl, hin, HP.out.1, HP.out.2, by rw [data_app, HX.out, List.flatMap_append, List.flatMap_singleton, HE.out], HB1.out, hB⟩, by simp [intOf]; omega⟩
      · have hv := gd_valid (g := fun _ => upc) gd_up 0 (good_bytes hlt (by omega)).1
        have HE : Hid (pc (fun _ => upc) s i = Lib.encodeRune (upc (ch s i))) := by show _ = _; unfold pc; rw [if_neg hneg]
        have cF := CF.out (ch s i) wr
        have CE1 : Hid (∀ W, Below wr.heap.size wr W → Calls Tryd.prog 75 #[.slice (some ⟨W.heap.size, 0, none⟩) 1 1] (W.alloc (.cells #[.int .i32 (upc (ch s i))] 21)) fun e W' => ∃ t : ByteArray, e = .returned (.string t) ∧ t.data.toList = Lib.encodeRune (upc (ch s i)) ∧ t.size ≤ 4 ∧ Below wr.heap.size wr W') := fun W hW => (CE.out _ W hv).mono fun e W' ⟨h1, h2⟩ => ⟨_, h1, rfl, by
          have := (Lib.runeCells_le (upc (ch s i))).2
          rw [Lib.size_eq]
          show (Lib.encodeRune _).length ≤ 4
          rw [encR_len]
          simpa [Lib.runeCells] using this, hW.trans (h2.mono hW.size)⟩
        have HB : Hid (Below w.heap.size w wr) := hB
        generalize upc (ch s i) = fc at cF CE1 HE
        clear HG hat d0 d1 hx hpre hBi CF CE hB1 hB hv
        go_wp2_with (first | (go_at_call 13; refine cF.mono ?_; clear cF; rintro e w2 ⟨rfl, hb2⟩) | (go_at_call 75; refine (CE1.out _ hb2).mono ?_; clear CE1; rintro e w3 ⟨t, rfl, ht, hts, hb3⟩; have r3 := HR1.out w3 hb3))
        exact ⟨⟨pre ++ [i], i + sz s i, x ++ t, by simp, by first | rfl | simp, rfl, hin, HP.out.1, HP.out.2, by rw [data_app, HX.out, List.flatMap_append, List.flatMap_singleton, HE.out, ht], HB1.out.trans (hb3.mono HB1.out.size), HB.out.trans (hb3.mono HB.out.size)⟩, by simp [intOf]; omega⟩
    · have hk2 : ¬ ((pre.length : Int) < n) := by rw [offs_end (by omega)] at hpl; simp at hpl; omega
      have HE : Hid (x = fm (fun _ => upc) s) := by
        show _ = _
        have : pre = offs s 0 := by rw [← hpre, offs_end (by omega)]; simp
        have h2 : x.data.toList = (fm (fun _ => upc) s).data.toList := by
          rw [hx, this, fm_data, fs, ← sg_all s s.size 0 (by omega)]
        exact ByteArray.ext (Array.ext' h2)
      clear HG hx hpre hBi CF CE
      go_wp2
      go_ret
      exact ⟨ret_str HE.out, hB⟩

set_option maxRecDepth 100000 in
set_option maxHeartbeats 2000000 in
theorem rformed_low (s : ByteArray) (hs : s.size ≤ 4398046511000) (w : World) :
    Calls Tryd.prog 49 #[.string s, .bool false] w fun e W' => e = .returned (.string (fm (fun _ => lowc) s)) ∧ Below w.heap.size w W' := by
  obtain ⟨n, hn⟩ : ∃ n, (offs s 0).length = n := ⟨_, rfl⟩
  have hnb : n ≤ s.size := by rw [← hn]; exact offs_len_le s
  have HN : Hid ((offs s 0).length = n) := hn
  have CU : Hid (Calls Tryd.prog 65 #[.string s] w fun e W' => ∃ a cap, e = .returned (.slice a n cap) ∧ Hid (∀ (j x : Nat), (offs s 0)[j]? = some x → ∃ g, a = some ⟨g, 0, none⟩ ∧ g < W'.heap.size ∧ W'.cell? ⟨g, j * 2, none⟩ = some (.int .i32 (ch s x)) ∧ W'.cell? ⟨g, j * 2 + 1, none⟩ = some (.int .i64 (sz s x))) ∧ Below w.heap.size w W') := runits_rd s hs w n hn
  have CF : Hid (∀ (c : Int) W, Calls Tryd.prog 15 #[.int .i32 c] W fun e W' => e = .returned (.int .i32 (lowc c)) ∧ Below W.heap.size W W') := fun c W => rlowof_any c W
  have CE : Hid (∀ (c : Int) W, Lib.validRune c = true → Calls Tryd.prog 75 #[.slice (some ⟨W.heap.size, 0, none⟩) 1 1] (W.alloc (.cells #[.int .i32 c] 21)) fun e W' => e = .returned (.string ⟨(Lib.encodeRune c).toArray⟩) ∧ Below W.heap.size W W') := fun c W hv => by
    have := rencode_core [c] W.heap.size 0 1 (W.alloc (.cells #[.int .i32 c] 21)) (by simp) (fun j hj => by have : j = 0 := (by simpa using hj); subst this; simp) (by simp)
    refine this.mono ?_
    rintro e w' ⟨rfl, hb⟩
    exact ⟨by simp [encs, hv], ((Below.refl _ W).alloc (Nat.le_refl _) _).trans (hb.mono (by simp))⟩
  clear hn
  go_enter Tryd.func49, Tryd.ntmps49
  go_wp2_with (go_at_call 65; refine CU.out.mono ?_; clear CU; rintro e w1 ⟨la, lc, rfl, HG, hb1⟩)
  go_loopw [8, 7, 6] (fun t8 t7 t6 wr => ∃ (pre : List Nat) (i : Nat) (x : ByteArray), t8 = .int .i64 pre.length ∧ t7 = .int .i64 i ∧ t6 = .string x ∧ i ≤ s.size ∧ B s i ∧ pre ++ offs s i = offs s 0 ∧ x.data.toList = pre.flatMap (pc (fun _ => lowc) s) ∧ Below w1.heap.size w1 wr ∧ Below w.heap.size w wr) (fun _ t7 _ _ => s.size - (intOf t7).toNat)
  case atStart => exact ⟨[], 0, ⟨#[]⟩, rfl, rfl, rfl, Nat.zero_le _, B_zero s, rfl, rfl, Below.refl _ _, hb1⟩
  case round =>
    obtain ⟨pre, i, x, rfl, rfl, rfl, hi, hBi, hpre, hx, hB1, hB⟩ := hrel
    have hpl := congrArg List.length hpre
    rw [List.length_append, HN.out] at hpl
    by_cases hlt : i < s.size
    · have hpos := sz_pos hlt
      have hin := sz_in hlt
      rw [offs_step hlt, List.length_cons] at hpl
      have hat : (offs s 0)[pre.length]? = some i := by rw [← hpre, offs_step hlt]; simp
      obtain ⟨g, rfl, hgl, d0, d1⟩ := HG.out _ _ hat
      have hkl : (pre.length : Int) < n := by omega
      have r0 : wr.cell? ⟨g, pre.length * 2, none⟩ = some (.int .i32 (ch s i)) := (hB1.cell (p := ⟨g, pre.length * 2, none⟩) hgl).trans d0
      have r1 : wr.cell? ⟨g, pre.length * 2 + 1, none⟩ = some (.int .i64 (sz s i)) := (hB1.cell (p := ⟨g, pre.length * 2 + 1, none⟩) hgl).trans d1
      have HR1 : Hid (∀ W, Below wr.heap.size wr W → W.cell? ⟨g, pre.length * 2 + 1, none⟩ = some (.int .i64 (sz s i))) := fun W hW => (hW.cell (p := ⟨g, pre.length * 2 + 1, none⟩) (Nat.lt_of_lt_of_le hgl hB1.size)).trans r1
      have HP : Hid (B s (i + sz s i) ∧ pre ++ [i] ++ offs s (i + sz s i) = offs s 0) := ⟨B_next hBi hlt, by rw [← hpre, offs_step hlt]; simp⟩
      have HX : Hid (x.data.toList = pre.flatMap (pc (fun _ => lowc) s)) := hx
      have hsi : (i : Int) + sz s i ≤ 9223372036854775807 := by omega
      have HB1 : Hid (Below w1.heap.size w1 wr) := hB1
      have hxs : x.size ≤ 4 * s.size := by
        rw [Lib.size_eq, hx]
        have h1 := flat_four lowc s pre
        omega
      by_cases hneg : ch s i < 0
      · have HE : Hid (pc (fun _ => lowc) s i = (s.extract i (i + 1)).data.toList) := by
          show _ = _
          unfold pc
          rw [if_pos hneg, get_bang hlt, extract_one hlt]
        have HS1 : Hid (sz s i = 1) := (ch_neg hneg).2
        have hi1 : i + 1 ≤ s.size := by omega
        clear HG hat d0 d1 hx hpre hBi CF CE hB1
        go_wp2
        exact ⟨⟨pre ++ [i], i + sz s i, x ++ s.extract i (i + 1), by simp, by first | rfl | simp, rfl, hin, HP.out.1, HP.out.2, by rw [data_app, HX.out, List.flatMap_append, List.flatMap_singleton, HE.out], HB1.out, hB⟩, by simp [intOf]; omega⟩
      · have hv := gd_valid (g := fun _ => lowc) gd_low 0 (good_bytes hlt (by omega)).1
        have HE : Hid (pc (fun _ => lowc) s i = Lib.encodeRune (lowc (ch s i))) := by show _ = _; unfold pc; rw [if_neg hneg]
        have cF := CF.out (ch s i) wr
        have CE1 : Hid (∀ W, Below wr.heap.size wr W → Calls Tryd.prog 75 #[.slice (some ⟨W.heap.size, 0, none⟩) 1 1] (W.alloc (.cells #[.int .i32 (lowc (ch s i))] 21)) fun e W' => ∃ t : ByteArray, e = .returned (.string t) ∧ t.data.toList = Lib.encodeRune (lowc (ch s i)) ∧ t.size ≤ 4 ∧ Below wr.heap.size wr W') := fun W hW => (CE.out _ W hv).mono fun e W' ⟨h1, h2⟩ => ⟨_, h1, rfl, by
          have := (Lib.runeCells_le (lowc (ch s i))).2
          rw [Lib.size_eq]
          show (Lib.encodeRune _).length ≤ 4
          rw [encR_len]
          simpa [Lib.runeCells] using this, hW.trans (h2.mono hW.size)⟩
        have HB : Hid (Below w.heap.size w wr) := hB
        generalize lowc (ch s i) = fc at cF CE1 HE
        clear HG hat d0 d1 hx hpre hBi CF CE hB1 hB hv
        go_wp2_with (first | (go_at_call 15; refine cF.mono ?_; clear cF; rintro e w2 ⟨rfl, hb2⟩) | (go_at_call 75; refine (CE1.out _ hb2).mono ?_; clear CE1; rintro e w3 ⟨t, rfl, ht, hts, hb3⟩; have r3 := HR1.out w3 hb3))
        exact ⟨⟨pre ++ [i], i + sz s i, x ++ t, by simp, by first | rfl | simp, rfl, hin, HP.out.1, HP.out.2, by rw [data_app, HX.out, List.flatMap_append, List.flatMap_singleton, HE.out, ht], HB1.out.trans (hb3.mono HB1.out.size), HB.out.trans (hb3.mono HB.out.size)⟩, by simp [intOf]; omega⟩
    · have hk2 : ¬ ((pre.length : Int) < n) := by rw [offs_end (by omega)] at hpl; simp at hpl; omega
      have HE : Hid (x = fm (fun _ => lowc) s) := by
        show _ = _
        have : pre = offs s 0 := by rw [← hpre, offs_end (by omega)]; simp
        have h2 : x.data.toList = (fm (fun _ => lowc) s).data.toList := by
          rw [hx, this, fm_data, fs, ← sg_all s s.size 0 (by omega)]
        exact ByteArray.ext (Array.ext' h2)
      clear HG hx hpre hBi CF CE
      go_wp2
      go_ret
      exact ⟨ret_str HE.out, hB⟩

set_option maxRecDepth 100000 in
theorem rupper_any (s : ByteArray) (hs : s.size ≤ 4398046511000) (w : World) : Calls Tryd.prog 24 #[.string s] w fun e W' => e = .returned (.string (fm (fun _ => upc) s)) ∧ Below w.heap.size w W' := by
  have cF := rformed_up s hs w
  go_enter Tryd.func24, Tryd.ntmps24
  go_wp2_with (go_at_call 49; refine cF.mono ?_; clear cF; rintro e w1 ⟨rfl, hb1⟩)
  go_ret
  exact ⟨rfl, hb1⟩
set_option maxRecDepth 100000 in
theorem rlower_any (s : ByteArray) (hs : s.size ≤ 4398046511000) (w : World) : Calls Tryd.prog 26 #[.string s] w fun e W' => e = .returned (.string (fm (fun _ => lowc) s)) ∧ Below w.heap.size w W' := by
  have cF := rformed_low s hs w
  go_enter Tryd.func26, Tryd.ntmps26
  go_wp2_with (go_at_call 49; refine cF.mono ?_; clear cF; rintro e w1 ⟨rfl, hb1⟩)
  go_ret
  exact ⟨rfl, hb1⟩
end Go.Proofs.YtoijjkbnmicadaaDoor
