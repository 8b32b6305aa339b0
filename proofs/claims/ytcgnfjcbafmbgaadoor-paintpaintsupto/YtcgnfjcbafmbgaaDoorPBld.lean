/-
  Package paint, walked: write, begin, Row. Conditions: the tables lie as their text lays them; no more than 2^47 bytes are written.
-/
import Derived.Test.YtcgnfjcbafmbgaaDoorWBuild
import Derived.Test.YtcgnfjcbafmbgaaDoorPGo
namespace Go.Proofs.YtcgnfjcbafmbgaaDoor
open Go.RowKit Go.Shelf Bod Wid
theorem row_lowerP {W : World} {base base' c n : Nat} {e : TypeId} {v : Value} {xs : List Value} (h : W.ownsRow base e c v n xs) (hb : base' ≤ base) : W.ownsRow base' e c v n xs :=
  ⟨h.1, h.2.imp id fun ⟨g, cap, cur, h1, h2, h3⟩ => ⟨g, cap, cur, h1, by omega, h3⟩⟩
/-- a builder at b, made when the world was w, holds out; all that was there stands -/
structure Bs (b : Nat) (w : World) (out : List UInt8) (W : World) : Prop where
  at_ : w.heap.size = b
  bl : ∃ p v, Bld b (b + 1) (Lib.byteCells out) W p v
  bel : Below w.heap.size w W
theorem Bs.size {b : Nat} {w W : World} {out : List UInt8} (h : Bs b w out W) : b + 1 ≤ W.heap.size := by
  obtain ⟨p, v, hv⟩ := h.bl
  exact (Array.getElem?_eq_some_iff.1 hv.box).1
theorem Bs.next {b : Nat} {w W W' : World} {out : List UInt8} (h : Bs b w out W) (hb : Below W.heap.size W W') : Bs b w out W' := by
  obtain ⟨p, v, hv⟩ := h.bl
  exact ⟨h.at_, ⟨p, v, (hb.block _ (Array.getElem?_eq_some_iff.1 hv.box).1).trans hv.box, ⟨hv.row.1, hv.row.2.imp id fun ⟨g, cap, cur, h1, h2, h3, h4⟩ => ⟨g, cap, cur, h1, h2, (hb.block g (Array.getElem?_eq_some_iff.1 h3).1).trans h3, h4⟩⟩, hv.adr⟩, h.bel.trans (hb.mono h.bel.size)⟩
theorem Bs.new (w : World) : Bs w.heap.size w [] (w.alloc (.cells #[.pointer none, .slice none 0 0] 44)) :=
  ⟨rfl, ⟨_, _, World.alloc_heap_new _ _, World.ownsRow_nil _ _ _ _, .inl rfl⟩, (Below.refl _ w).alloc (Nat.le_refl _) _⟩
theorem Bs.put {b : Nat} {w W : World} {out : List UInt8} (h : Bs b w out W) (t : ByteArray) (hl : out.length + t.size ≤ 140737488355328) :
    Calls Tryd.prog 30 #[.pointer (some ⟨b, 0, none⟩), .string t] W fun e W' => (∃ u, e = .returned u) ∧ Hid (Bs b w (out ++ t.data.toList) W') := by
  obtain ⟨p, v, hv⟩ := h.bl
  refine (wstr_any t hv (Nat.lt_succ_self _) h.size (by rw [Lib.byteCells_length]; exact hl)).mono ?_
  rintro e W' ⟨h1, ⟨p', v', h2⟩, h3⟩
  refine ⟨h1, h.at_, ⟨p', v', ?_⟩, ?_⟩
  · have e1 : Lib.byteCells (out ++ t.data.toList) = Lib.byteCells out ++ Lib.strCells t := by rw [Lib.strCells_eq]; simp [Lib.byteCells]
    rw [e1]
    exact h2
  · have hs := h.size
    have ha := h.at_
    refine ⟨h3.1.trans h.bel.os, h3.2.1.trans h.bel.tape, h3.2.2.1.trans h.bel.output, Nat.le_trans h.bel.size h3.2.2.2.1, fun j hj => ?_⟩
    have hjw : j < W.heap.size := by have := h.bel.size; omega
    have e : W.heap[j]? = some W.heap[j] := Array.getElem?_eq_getElem hjw
    rw [h3.2.2.2.2 j _ e (by omega) (fun h => by omega), ← e]
    exact h.bel.block j hj
theorem Bs.str {b : Nat} {w W : World} {out : List UInt8} (h : Bs b w out W) :
    Calls Tryd.prog 23 #[.pointer (some ⟨b, 0, none⟩)] W fun e W' => e = .returned (.string ⟨out.toArray⟩) ∧ Below w.heap.size w W' := by
  obtain ⟨p, v, hv⟩ := h.bl
  have hbl : Lib.IsBuilderF 44 5 b b (Lib.byteCells out) W := by
    have row := row_lowerP hv.row (show b ≤ b + 1 by omega)
    have hne : v.ownBlock ≠ some b := fun e => by have := hv.far e; omega
    have hbox := hv.box
    refine Lib.IsBuilderF.of ?_
    rcases hv.adr with rfl | rfl
    · exact .inl ⟨Nat.le_refl _, v, hbox, row, hne⟩
    · exact .inr ⟨Nat.le_refl _, v, hbox, row, hne⟩
  refine (Tryd.Builder_String_any_k b b out W hbl (by have := h.size; omega)).mono ?_
  rintro e w' ⟨h1, _, h2, _⟩
  exact ⟨h1, h.bel.trans (by rw [h.at_]; exact h2)⟩
theorem rowL_take {l : List Cel} {j : Nat} {c : Cel} (h : l[j]? = some c) : rowL (l.take (j + 1)) = rowL (l.take j) ++ c.tx.data.toList := by
  rw [List.take_add_one, h, rowL_app]
  simp [rowL]
theorem rowL_len (l : List Cel) (j : Nat) : (rowL (l.take j)).length ≤ (rowL l).length := by
  have : rowL l = rowL (l.take j) ++ rowL (l.drop j) := by rw [← rowL_app, List.take_append_drop]
  rw [this, List.length_append]
  omega
set_option maxRecDepth 100000 in
set_option maxHeartbeats 1000000 in
theorem write_any {b : Nat} {w0 : World} {out : List UInt8} (v : Value) (l : List Cel) (hn : l.length ≤ 2147483648) (hl : out.length + (rowL l).length ≤ 140737488355328) (w : World) (h0 : Bs b w0 out w) (h : RdCe w0 v l) :
    Calls Tryd.prog 22 #[.pointer (some ⟨b, 0, none⟩), v] w fun e W' => (∃ u, e = .returned u) ∧ Hid (Bs b w0 (out ++ rowL l) W') := by
  obtain ⟨a, k, rfl, hc⟩ := h.get
  obtain ⟨n, hln⟩ : ∃ n, l.length = n := ⟨_, rfl⟩
  have H0 : Hid (Bs b w0 out w) := h0
  have HL : Hid (l.length = n ∧ n ≤ 2147483648 ∧ ∀ j, out.length + (rowL (l.take j)).length ≤ 140737488355328) := ⟨hln, by omega, fun j => by have := rowL_len l j; omega⟩
  have HC : Hid (∀ (j : Nat) c, l[j]? = some c → ∀ Y, Below w0.heap.size w0 Y → ∃ g o, a = some ⟨g, o, none⟩ ∧ Y.cell? ⟨g, o + j * 2, none⟩ = some (.string c.tx) ∧ Y.cell? ⟨g, o + j * 2 + 1, none⟩ = some (.int .i64 c.sp)) := fun j c hj Y hY => by
    obtain ⟨g, o, e, c0, c1⟩ := hc j c hj
    exact ⟨g, o, e, (hY.cell (p := ⟨g, o + j * 2, none⟩) (World.block_lt_of_cell? w0 _ c0)).trans c0, (hY.cell (p := ⟨g, o + j * 2 + 1, none⟩) (World.block_lt_of_cell? w0 _ c1)).trans c1⟩
  rw [hln]
  clear hc h h0 hl hn hln
  go_enter Tryd.func22, Tryd.ntmps22
  go_wp2
  go_loopw [8] (fun t wr => ∃ j : Nat, j ≤ n ∧ t = .int .i64 j ∧ Hid (Bs b w0 (out ++ rowL (l.take j)) wr)) (fun t _ => n - (intOf t).toNat)
  case atStart => exact ⟨0, Nat.zero_le _, rfl, by have := H0.out; show Bs _ _ _ _; simpa [rowL] using this⟩
  case round =>
    obtain ⟨j, hj, rfl, HB⟩ := hrel
    by_cases hlt : j < n
    · obtain ⟨c, hcj⟩ : ∃ c, l[j]? = some c := ⟨l[j]'(by rw [HL.out.1]; exact hlt), List.getElem?_eq_getElem _⟩
      obtain ⟨g, o, rfl, x0, x1⟩ := HC.out j c hcj wr HB.out.bel
      have HT : Hid (rowL (l.take (j + 1)) = rowL (l.take j) ++ c.tx.data.toList) := rowL_take hcj
      have hlt' : (j : Int) < (n : Int) := by omega
      have HLT : Hid (j < n ∧ n ≤ 2147483648) := ⟨hlt, HL.out.2.1⟩
      have HX : Hid (Bs b w0 (out ++ rowL (l.take j)) (wr.alloc (.cells #[.string c.tx, .int .i64 c.sp] 40))) := HB.out.next ((Below.refl _ wr).alloc (Nat.le_refl _) _)
      have HP : Hid (Calls Tryd.prog 30 #[.pointer (some ⟨b, 0, none⟩), .string c.tx] (wr.alloc (.cells #[.string c.tx, .int .i64 c.sp] 40)) fun e W' => (∃ u, e = .returned u) ∧ Hid (Bs b w0 (out ++ rowL (l.take (j + 1))) W')) := by
        rw [HT.out, ← List.append_assoc]
        refine HX.out.put c.tx ?_
        have h1 := HL.out.2.2 (j + 1)
        have e : c.tx.data.toList.length = c.tx.size := Array.length_toList
        rw [HT.out, List.length_append] at h1
        rw [List.length_append]
        omega
      clear hcj hlt HC
      go_wp2_with (go_at_call 30; refine HP.out.mono ?_; clear HP; rintro e w2 ⟨⟨u, rfl⟩, HB2⟩)
      exact ⟨⟨j + 1, by have := HLT.out; omega, by first | rw [w64t (by have := HLT.out; omega)] | (simp; done), HB2⟩, by have := HLT.out; first | (rw [w64t (by omega)]; simp [intOf]; omega) | (simp [intOf]; omega)⟩
    · obtain rfl : j = n := by omega
      have hf : l.take j = l := List.take_of_length_le (by have := HL.out.1; omega)
      have hd : ¬ (j : Int) < (j : Int) := by omega
      go_wp2
      go_end0
      rw [hf] at HB
      exact ⟨⟨_, rfl⟩, HB⟩
set_option maxRecDepth 100000 in
set_option maxHeartbeats 1000000 in
theorem begin_any {b : Nat} {w0 : World} {out : List UInt8} (r : Int) (hl : out.length + 46 ≤ 140737488355328) (w : World) (hw : Pw w0) (h0 : Bs b w0 out w) :
    Calls Tryd.prog 31 #[.pointer (some ⟨b, 0, none⟩), .int .i64 r] w fun e W' => (∃ u, e = .returned u) ∧ Hid (Bs b w0 (out ++ gotoL r 0) W') := by
  have CG : Hid (Calls Tryd.prog 12 #[.agg #[.int .i64 r, .int .i64 0]] w fun e w' => e = .returned (.string ⟨(gotoL r 0).toArray⟩) ∧ Hid (Below w.heap.size w w')) := goto_any r 0 w (hw.below h0.bel)
  have CP : Hid (∀ W, Below w.heap.size w W → Calls Tryd.prog 30 #[.pointer (some ⟨b, 0, none⟩), .string ⟨(gotoL r 0).toArray⟩] W fun e W' => (∃ u, e = .returned u) ∧ Hid (Bs b w0 (out ++ gotoL r 0) W')) := fun W hW => by
    have := (h0.next hW).put ⟨(gotoL r 0).toArray⟩ (by have := gotoL_len r 0; show _ + (gotoL r 0).toArray.size ≤ _; simp; omega)
    simpa using this
  clear hw h0
  go_enter Tryd.func31, Tryd.ntmps31
  go_wp2_with (first
    | (go_at_call 12; refine CG.out.mono ?_; clear CG; rintro e w1 ⟨rfl, HB1⟩)
    | (go_at_call 30; refine (CP.out _ HB1.out).mono ?_; clear CP; rintro e w2 ⟨⟨u, rfl⟩, HB2⟩))
  go_end0
  exact ⟨⟨_, rfl⟩, HB2⟩
set_option maxRecDepth 100000 in
set_option maxHeartbeats 1000000 in
theorem prow_any (v : Value) (l : List Cel) (hn : l.length ≤ 2147483648) (hl : (rowL l).length ≤ 140737488355328) (w : World) (h : RdCe w v l) :
    Calls Tryd.prog 8 #[v] w fun e w' => e = .returned (.string ⟨(rowL l).toArray⟩) ∧ Below w.heap.size w w' := by
  have CW : Hid (Calls Tryd.prog 22 #[.pointer (some ⟨w.heap.size, 0, none⟩), v] (w.alloc (.cells #[.pointer none, .slice none 0 0] 44)) fun e W' => (∃ u, e = .returned u) ∧ Hid (Bs w.heap.size w (rowL l) W')) := by
    have := write_any v l hn (by simpa using hl) _ (Bs.new w) h
    rw [List.nil_append] at this
    exact this
  obtain ⟨a, k, rfl, -⟩ := h
  clear hn hl
  go_enter Tryd.func8, Tryd.ntmps8
  go_wp2_with (first
    | (go_at_call 22; refine CW.out.mono ?_; clear CW; rintro e w1 ⟨⟨u, rfl⟩, HB1⟩)
    | (go_at_call 23; refine HB1.out.str.mono ?_; rintro e w2 ⟨rfl, HB2⟩))
  go_ret
  exact ⟨rfl, HB2⟩
end Go.Proofs.YtcgnfjcbafmbgaaDoor
