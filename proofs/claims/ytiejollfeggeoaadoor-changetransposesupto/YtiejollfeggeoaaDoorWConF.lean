/-
  What package word's Capital answers: the first unit of each word in its upper form, all else in its lower form. Conditions: the two tables of unicode/utf8 lie as their text lays them; the text is so short that the answer can be made.
-/
import Derived.Test.YtiejollfeggeoaaDoorWConE
import Derived.Test.YtiejollfeggeoaaDoorPkC
namespace Go.Proofs.YtiejollfeggeoaaDoor
open Go.RowKit Go.Shelf Bod Wid

/-- while Capital writes: the builder at n, the list of the words at lv -/
structure CS (w : World) (lv : Value) (ws : List (Nat × Nat)) (out : List UInt8) (W : World) : Prop where
  bl : ∃ p v, Bld w.heap.size (w.heap.size + 1) (Lib.byteCells out) W p v
  row : W.ownsRow (w.heap.size + 1) 70 2 lv ws.length (spc ws)
  bel : Below w.heap.size w W
theorem row_wr {b hi B n : Nat} {v : Value} {xs : List Value} {W W' : World} (h : Wr b hi W W') (hr : W.ownsRow B 70 2 v n xs) (hb : ∀ vs, W.heap[b]? ≠ some (.cells vs 70 (0, 0))) : W'.ownsRow B 70 2 v n xs := by
  refine ⟨hr.1, hr.2.imp id fun ⟨g, cap, cur, h1, h2, h3, h4⟩ => ⟨g, cap, cur, h1, h2, ?_, h4⟩⟩
  exact h.2.2.2.2 g _ h3 (fun e => by subst e; exact hb _ h3) (fun _ vs fz e => by cases e)
theorem CS.below {w : World} {lv : Value} {ws : List (Nat × Nat)} {out : List UInt8} {W W' : World} (h : CS w lv ws out W) (hb : Below W.heap.size W W') : CS w lv ws out W' :=
  ⟨h.bl.imp fun _ h => h.imp fun _ h => h.kept (grown_of_below hb) (by simp) (by simp), h.row.kept ⟨hb.os, hb.tape, hb.output, hb.size, fun k hk _ => hb.block k hk⟩ (row := none) (by cases lv.ownBlock <;> simp), h.bel.trans (hb.mono h.bel.size)⟩
theorem CS.wr {w : World} {lv : Value} {ws : List (Nat × Nat)} {out out' : List UInt8} {W W' : World} (h : CS w lv ws out W) (hw : Wr w.heap.size (w.heap.size + 1) W W') (hb : ∃ p v, Bld w.heap.size (w.heap.size + 1) (Lib.byteCells out') W' p v) : CS w lv ws out' W' := by
  obtain ⟨p, v, hv⟩ := h.bl
  exact ⟨hb, row_wr hw h.row (fun vs e => by rw [hv.box] at e; cases e), hw.below (Nat.le_refl _) (by omega) (Nat.le_refl _) h.bel⟩
theorem CS.cells {w : World} {lv : Value} {ws : List (Nat × Nat)} {out : List UInt8} {W : World} (h : CS w lv ws out W) {k : Nat} {p : Nat × Nat} (hk : ws[k]? = some p) : ∃ g cap, lv = .slice (some ⟨g, 0, none⟩) ws.length cap ∧ W.cell? ⟨g, k * 2, none⟩ = some (.int .i64 p.1) ∧ W.cell? ⟨g, k * 2 + 1, none⟩ = some (.int .i64 p.2) := by
  have hkl := (List.getElem?_eq_some_iff.1 hk).1
  have hl := spc_len ws
  obtain ⟨e0, e1⟩ := spc_get ws k p hk
  rcases h.row.2 with ⟨_, h1⟩ | ⟨g, cap, cur, hv, _⟩
  · omega
  · subst hv
    exact ⟨g, cap, rfl, (h.row.cellAt (k * 2) (by omega)).trans e0, (h.row.cellAt (k * 2 + 1) (by omega)).trans e1⟩
theorem CS.len {w : World} {lv : Value} {ws : List (Nat × Nat)} {out : List UInt8} {W : World} (h : CS w lv ws out W) : ∃ a cap, lv = .slice a ws.length cap := by
  rcases h.row.2 with ⟨h0, h1⟩ | ⟨g, cap, cur, hv, _⟩
  · exact ⟨_, _, by rw [h0, h1]⟩
  · exact ⟨_, _, hv⟩
theorem CS.write {w : World} {lv : Value} {ws : List (Nat × Nat)} {out : List UInt8} {W : World} (h : CS w lv ws out W) (t : ByteArray) (hl : out.length + t.size ≤ 140737488355328) (hW : w.heap.size + 1 ≤ W.heap.size) :
    Calls Tryd.prog 29 #[.pointer (some ⟨w.heap.size, 0, none⟩), .string t] W fun e w' => (∃ u, e = .returned u) ∧ CS w lv ws (out ++ t.data.toList) w' ∧ Wr w.heap.size (w.heap.size + 1) W w' := by
  obtain ⟨p, v, hv⟩ := h.bl
  refine (wstr_any t hv (by omega) hW (by rw [Lib.byteCells_length]; exact hl)).mono ?_
  rintro e w' ⟨h1, h2, h3⟩
  refine ⟨h1, h.wr h3 ?_, h3⟩
  rw [byteCells_app, ← strCells_eq]
  exact h2
/-- .. and the word that is looked at, at Bx -/
structure CX (w : World) (lv : Value) (ws : List (Nat × Nat)) (Bx : Nat) (p : Nat × Nat) (out : List UInt8) (W : World) : Prop where
  cs : CS w lv ws out W
  bx : W.heap[Bx]? = some (.cells #[.int .i64 p.1, .int .i64 p.2] 70 (0, 0))
  lt : w.heap.size < Bx
theorem CX.cell {w : World} {lv : Value} {ws : List (Nat × Nat)} {Bx : Nat} {p : Nat × Nat} {out : List UInt8} {W : World} (h : CX w lv ws Bx p out W) : W.cell? ⟨Bx, 0, none⟩ = some (.int .i64 p.1) := by simp [World.cell?, h.bx]
theorem CX.size {w : World} {lv : Value} {ws : List (Nat × Nat)} {Bx : Nat} {p : Nat × Nat} {out : List UInt8} {W : World} (h : CX w lv ws Bx p out W) : w.heap.size + 1 ≤ W.heap.size := by
  have := (Array.getElem?_eq_some_iff.1 h.bx).1
  have := h.lt
  omega
theorem CX.below {w : World} {lv : Value} {ws : List (Nat × Nat)} {Bx : Nat} {p : Nat × Nat} {out : List UInt8} {W W' : World} (h : CX w lv ws Bx p out W) (hb : Below W.heap.size W W') : CX w lv ws Bx p out W' :=
  ⟨h.cs.below hb, (hb.block _ (Array.getElem?_eq_some_iff.1 h.bx).1).trans h.bx, h.lt⟩
theorem CX.write {w : World} {lv : Value} {ws : List (Nat × Nat)} {Bx : Nat} {p : Nat × Nat} {out : List UInt8} {W : World} (h : CX w lv ws Bx p out W) (t : ByteArray) (hl : out.length + t.size ≤ 140737488355328) :
    Calls Tryd.prog 29 #[.pointer (some ⟨w.heap.size, 0, none⟩), .string t] W fun e w' => (∃ u, e = .returned u) ∧ CX w lv ws Bx p (out ++ t.data.toList) w' := by
  refine (h.cs.write t hl h.size).mono ?_
  rintro e w' ⟨h1, h2, h3⟩
  exact ⟨h1, h2, h3.2.2.2.2 _ _ h.bx (by have := h.lt; omega) (fun _ vs fz e => by cases e), h.lt⟩
theorem CS.str {w : World} {lv : Value} {ws : List (Nat × Nat)} {out : List UInt8} {W : World} (h : CS w lv ws out W) :
    Calls Tryd.prog 30 #[.pointer (some ⟨w.heap.size, 0, none⟩)] W fun e w' => e = .returned (.string ⟨out.toArray⟩) ∧ Below w.heap.size w w' := by
  obtain ⟨p, v, hv⟩ := h.bl
  have hbl : Lib.IsBuilderF 74 5 w.heap.size w.heap.size (Lib.byteCells out) W := by
    have row := row_lower hv.row (show w.heap.size ≤ w.heap.size + 1 by omega)
    have hne : v.ownBlock ≠ some w.heap.size := fun e => by have := hv.far e; omega
    have hbox := hv.box
    refine Lib.IsBuilderF.of ?_
    rcases hv.adr with rfl | rfl
    · exact .inl ⟨Nat.le_refl _, v, hbox, row, hne⟩
    · exact .inr ⟨Nat.le_refl _, v, hbox, row, hne⟩
  refine (Tryd.Builder_String_any_k w.heap.size w.heap.size out W hbl h.bel.size).mono ?_
  rintro e w' ⟨h1, _, h2, _⟩
  exact ⟨h1, h.bel.trans h2⟩
theorem ret_str {a b : ByteArray} (h : a = b) : Ending.returned (.string a) = .returned (.string b) := by rw [h]
theorem sub_size {s : ByteArray} {a b : Nat} : (s.extract a b).size ≤ s.size := by simp; omega

set_option maxRecDepth 100000 in
set_option maxHeartbeats 2000000 in
theorem capital_any (s : ByteArray) (hs : s.size ≤ maxLen) (hm : s.size ≤ 4398046511104) (w : World) (hT : Lib.Utf8Tabs 1 2 w) (hlo0 : 1 < w.heap.size) (hlo1 : 2 < w.heap.size) :
    Calls Tryd.prog 57 #[.string s] w fun e W' => e = .returned (.string (fm (capG (words s)) s)) ∧ Below w.heap.size w W' := by
  have hsm : s.size ≤ 9223372036854775807 := by unfold maxLen at hs; omega
  have cS := spans_any s hs hm (w.alloc (.cells #[.pointer none, .slice none 0 0] 74)) (tabs_below hT ((Below.refl _ w).alloc (Nat.le_refl _) _)) (Nat.lt_of_lt_of_le hlo0 (by simp)) (Nat.lt_of_lt_of_le hlo1 (by simp))
  have H0 : Hid (∀ W v, W.ownsRow (w.alloc (.cells #[.pointer none, .slice none 0 0] 74)).heap.size 70 2 v (words s).length (spc (words s)) → Below (w.alloc (.cells #[.pointer none, .slice none 0 0] 74)).heap.size (w.alloc (.cells #[.pointer none, .slice none 0 0] 74)) W → CS w v (words s) [] W) := fun W v hr hb => by
    have hbx := (hb.block w.heap.size (by simp)).trans (World.alloc_heap_new w _)
    exact ⟨⟨_, _, hbx, World.ownsRow_nil _ _ _ _, .inl rfl⟩, by simpa using hr, ((Below.refl _ w).alloc (Nat.le_refl _) _).trans (hb.mono (by simp))⟩
  -- what the calls answer wherever they are made
  have CL : Hid (∀ (t : ByteArray) W, t.size ≤ s.size → Below w.heap.size w W → Calls Tryd.prog 56 #[.string t] W fun e W' => e = .returned (.string (fm (fun _ => lowc) t)) ∧ Below W.heap.size W W') := fun t W ht hW => lower_any t (Nat.le_trans ht hs) (by omega) W (tabs_below hT hW) (Nat.lt_of_lt_of_le hlo0 hW.size) (Nat.lt_of_lt_of_le hlo1 hW.size)
  have CU : Hid (∀ (t : ByteArray) W, t.size ≤ s.size → Below w.heap.size w W → Calls Tryd.prog 55 #[.string t] W fun e W' => e = .returned (.string (fm (fun _ => upc) t)) ∧ Below W.heap.size W W') := fun t W ht hW => upper_any t (Nat.le_trans ht hs) (by omega) W (tabs_below hT hW) (Nat.lt_of_lt_of_le hlo0 hW.size) (Nat.lt_of_lt_of_le hlo1 hW.size)
  have CN : Hid (∀ (a : Nat) W, B s a → a < s.size → Below w.heap.size w W → Calls Tryd.prog 58 #[.string s, .int .i64 a] W fun e W' => e = .returned (.int .i64 ((a + sz s a : Nat) : Int)) ∧ Below W.heap.size W W') := fun a W hB ha hW => by
    have := next_any s a hs W (tabs_below hT hW)
    rwa [next_B hB ha] at this
  have HLN : Hid (∀ d, B s d → (fs (capG (words s)) s 0 d).length = d) := fun d hd => by rw [fs_len (gd_cap _) hd d 0 (by omega) (Nat.zero_le _)]; omega
  go_enter Tryd.func57, Tryd.ntmps57
  go_wp2_with (go_at_call 15; refine cS.mono ?_; clear cS; rintro e w1 ⟨lv, rfl, hr1, hb1⟩; have h1 := H0.out w1 lv hr1 hb1; clear hr1 hb1 H0; obtain ⟨la, lc, rfl⟩ := h1.len; have HC1 : Hid (CS w (.slice la (words s).length lc) (words s) [] w1) := h1; clear h1)
  go_loopw [11, 4] (fun t11 t4 wr => ∃ (k d : Nat), t11 = .int .i64 k ∧ t4 = .int .i64 d ∧ k ≤ (words s).length ∧ CapI s k d ∧ CS w (.slice la (words s).length lc) (words s) (fs (capG (words s)) s 0 d) wr) (fun t11 _ _ => (words s).length - (intOf t11).toNat)
  case atStart => exact ⟨0, 0, rfl, rfl, Nat.zero_le _, capI_zero s, by rw [fs_nil (Nat.le_refl _)]; exact HC1.out⟩
  case round =>
    clear HC1
    obtain ⟨k, d, rfl, rfl, hk, hI, hC⟩ := hrel
    have hdl := HLN.out d hI.b
    have hds := hI.b.1
    have hwl := words_len s
    by_cases hlt : k < (words s).length
    · obtain ⟨p, hp⟩ : ∃ p, (words s)[k]? = some p := ⟨_, List.getElem?_eq_getElem hlt⟩
      obtain ⟨g, cap, hv, c0, c1⟩ := hC.cells hp
      cases hv
      obtain ⟨e1, e2, e3, e4, e5⟩ := word_B (List.mem_of_getElem? hp)
      obtain ⟨hdp, hI2⟩ := hI.next hp
      have hzi := sz_in e2
      have hpq : p.1 ≤ p.1 + sz s p.1 := by omega
      have HI2 : Hid (CapI s (k + 1) (p.1 + sz s p.1)) := hI2
      have HST : Hid (fs (capG (words s)) s 0 (p.1 + sz s p.1) = fs (capG (words s)) s 0 d ++ (fm (fun _ => lowc) (s.extract d p.1)).data.toList ++ (fm (fun _ => upc) (s.extract p.1 (p.1 + sz s p.1))).data.toList) := by
        show _ = _
        rw [fm_sub e1 hdp, fm_sub (B_next e1 e2) (by omega)]
        exact cap_step hI hp
      have HX0 : Hid (CX w (.slice (some ⟨g, 0, none⟩) (words s).length lc) (words s) wr.heap.size p (fs (capG (words s)) s 0 d) (wr.alloc (.cells #[.int .i64 p.1, .int .i64 p.2] 70))) := by
        obtain ⟨_, _, hbv⟩ := hC.bl
        exact ⟨hC.below ((Below.refl _ wr).alloc (Nat.le_refl _) _), World.alloc_heap_new wr _, (Array.getElem?_eq_some_iff.1 hbv.box).1⟩
      have HL1 : Hid ((fm (fun _ => lowc) (s.extract d p.1)).size ≤ s.size) := by show _ ≤ _; rw [fm_size gd_low]; exact sub_size
      have HL2 : Hid ((fm (fun _ => upc) (s.extract p.1 (p.1 + sz s p.1))).size ≤ s.size) := by show _ ≤ _; rw [fm_size gd_up]; exact sub_size
      have cN := CN.out p.1 _ e1 e2 HX0.out.cs.bel
      have CL1 : Hid (∀ W, Below w.heap.size w W → Calls Tryd.prog 56 #[.string (s.extract d p.1)] W fun e W' => e = .returned (.string (fm (fun _ => lowc) (s.extract d p.1))) ∧ Below W.heap.size W W') := fun W hW => CL.out _ W sub_size hW
      have CU1 : Hid (∀ W, Below w.heap.size w W → Calls Tryd.prog 55 #[.string (s.extract p.1 (p.1 + sz s p.1))] W fun e W' => e = .returned (.string (fm (fun _ => upc) (s.extract p.1 (p.1 + sz s p.1)))) ∧ Below W.heap.size W W') := fun W hW => CU.out _ W sub_size hW
      have HDL : Hid ((fs (capG (words s)) s 0 d).length = d) := hdl
      generalize fm (fun _ => lowc) (s.extract d p.1) = t1 at HST HL1 CL1
      generalize fm (fun _ => upc) (s.extract p.1 (p.1 + sz s p.1)) = t2 at HST HL2 CU1
      generalize hout : fs (capG (words s)) s 0 d = out at HST HX0 HDL
      clear hC hI hI2 CL CU CN hp e1 e3 e5 hdl hout HLN
      generalize p.1 + sz s p.1 = q at hzi hpq HI2 HST HL2 CU1 cN
      go_wp2_with (first | (go_at_call 58; refine cN.mono ?_; clear cN; rintro e w2 ⟨rfl, hb2⟩; have HX2 := HX0.out.below hb2; have x2 := HX2.cell; clear hb2 HX0) | (go_at_call 56; refine (CL1.out _ HX2.cs.bel).mono ?_; clear CL1; rintro e w3 ⟨rfl, hb3⟩; have HX3 := HX2.below hb3; have cW := HX3.write t1 (by have h1 := HL1.out; have h2 := HDL.out; omega); clear hb3 x2 HX2) | (go_at_call 29; refine cW.mono ?_; clear cW; rintro e w4 ⟨⟨u4, rfl⟩, HX4⟩; have x4 := HX4.cell; clear HX3) | (go_at_call 55; refine (CU1.out _ HX4.cs.bel).mono ?_; clear CU1; rintro e w5 ⟨rfl, hb5⟩; have HX5 := HX4.below hb5; have cV := HX5.write t2 (by have h1 := HL1.out; have h2 := HDL.out; have h3 := HL2.out; rw [List.length_append, ← Lib.size_eq]; omega); clear hb5 x4 HX4) | (go_at_call 29; refine cV.mono ?_; clear cV; rintro e w6 ⟨⟨u6, rfl⟩, HX6⟩; clear HX5))
      exact ⟨⟨k + 1, q, by first | rfl | simp, rfl, by omega, HI2.out, by rw [HST.out]; exact HX6.cs⟩, by simp [intOf]; omega⟩
    · have hke : k = (words s).length := by omega
      have hI' : CapI s (words s).length d := hke ▸ hI
      have hnl : ¬ ((k : Int) < ((words s).length : Int)) := by omega
      clear hke
      have cL := CL.out (s.extract d s.size) wr sub_size hC.bel
      have HEN : Hid (fm (capG (words s)) s = ⟨(fs (capG (words s)) s 0 d ++ (fm (fun _ => lowc) (s.extract d s.size)).data.toList).toArray⟩) := by
        show _ = _
        rw [fm_sub (B_end s) hds, ← cap_end hI']
      have HL1 : Hid ((fm (fun _ => lowc) (s.extract d s.size)).size ≤ s.size) := by show _ ≤ _; rw [fm_size gd_low]; exact sub_size
      have HDL : Hid ((fs (capG (words s)) s 0 d).length = d) := hdl
      have HC : Hid (CS w (.slice la (words s).length lc) (words s) (fs (capG (words s)) s 0 d) wr) := hC
      have HSZ : Hid (w.heap.size + 1 ≤ wr.heap.size) := by obtain ⟨_, _, hbv⟩ := hC.bl; exact (Array.getElem?_eq_some_iff.1 hbv.box).1
      have hle : (d : Int) ≤ s.size := by omega
      generalize fm (fun _ => lowc) (s.extract d s.size) = t1 at HEN HL1 cL
      generalize fs (capG (words s)) s 0 d = out at HEN HDL HC
      clear hC hI hI' CL CU CN hdl HLN hlt
      go_wp2_with (first | (go_at_call 56; refine cL.mono ?_; clear cL; rintro e w2 ⟨rfl, hb2⟩; have hC2 := HC.out.below hb2; have cW := hC2.write t1 (by have h1 := HL1.out; have h2 := HDL.out; omega) (Nat.le_trans HSZ.out hb2.size); clear hb2 hC2) | (go_at_call 29; refine cW.mono ?_; clear cW; rintro e w3 ⟨⟨u, rfl⟩, hC3, _⟩; have cS := hC3.str; clear hC3) | (go_at_call 30; refine cS.mono ?_; clear cS; rintro e w4 ⟨rfl, hb4⟩))
      go_ret
      exact ⟨ret_str HEN.out.symm, hb4⟩
end Go.Proofs.YtiejollfeggeoaaDoor
