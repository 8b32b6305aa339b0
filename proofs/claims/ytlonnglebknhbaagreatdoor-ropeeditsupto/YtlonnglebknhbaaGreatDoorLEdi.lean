/-
  The law RopeEdits returns true for every text and all edits: each rope has its text, what was cut and the errors are the document's, the shape is kept, and all ropes ahead are as they were. Its conditions: text and edits hold together at most 1048576 values and letters; the two tables of unicode/utf8 start as the program's text lays them (the card ties that).
-/
import Derived.Test.YtlonnglebknhbaaGreatDoorRRight
import Derived.Test.YtlonnglebknhbaaGreatDoorRLaw
import Derived.Test.YtlonnglebknhbaaGreatDoorRRefR
import Derived.Test.YtlonnglebknhbaaGreatDoorUEds
import Derived.Deep.RegionHeld3
import Derived.Test.YtlonnglebknhbaaGreatDoorURegInv
namespace Go.Proofs.YtlonnglebknhbaaGreatDoor.ropeEdits
open Go.RowKit Go.Shelf Bod Wid

abbrev ptr (b : Nat) : Value := .pointer (some ⟨b, 0, none⟩)
/-- the list of ropes -/
def Lr (w : World) (ts : List Tr) (v : Value) (W : World) : Prop := ∃ xs, W.ownsRow w.heap.size 24 1 v ts.length xs ∧ ∀ (k : Nat) t, ts[k]? = some t → ∃ b, xs[k]? = some (ptr b) ∧ Rp W t (ptr b)
/-- the list of the document's ropes -/
def Lw (w : World) (ts : List Tr) (u : Value) (W : World) : Prop := W.ownsRow w.heap.size 28 1 u ts.length (ts.map fun t => .string t.text)
/-- both, as they stand -/
structure LS (w : World) (ts : List Tr) (v u : Value) (W : World) : Prop where
  lr : Lr w ts v W
  lw : Lw w ts u W
  b : Below w.heap.size w W
theorem Lr.below {w W X : World} {ts : List Tr} {v : Value} (h : Lr w ts v W) (hb : Below W.heap.size W X) : Lr w ts v X := by
  obtain ⟨xs, h1, h2⟩ := h
  exact ⟨xs, row_below' h1 hb, fun k t hk => by obtain ⟨b, e1, e2⟩ := h2 k t hk; exact ⟨b, e1, e2.below hb⟩⟩
theorem LS.below {w W X : World} {ts : List Tr} {v u : Value} (h : LS w ts v u W) (hb : Below W.heap.size W X) : LS w ts v u X := ⟨h.lr.below hb, row_below' h.lw hb, Below.on h.b hb⟩
theorem Lr.cell {w W : World} {ts : List Tr} {v : Value} (h : Lr w ts v W) (hn : ts ≠ []) : ∃ g cap, v = .slice (some ⟨g, 0, none⟩) ts.length cap ∧ g < W.heap.size ∧ ∀ (k : Nat) t, ts[k]? = some t → ∃ b, W.cell? ⟨g, k, none⟩ = some (ptr b) ∧ Rp W t (ptr b) := by
  obtain ⟨xs, h1, h2⟩ := h
  rcases h1.2 with ⟨_, h0⟩ | ⟨g, cap, cur, hv, _, hgb, _⟩
  · exact absurd (List.length_eq_zero_iff.1 h0) hn
  · refine ⟨g, cap, hv, (Array.getElem?_eq_some_iff.1 hgb).1, fun k t hk => ?_⟩
    obtain ⟨b, e1, e2⟩ := h2 k t hk
    rw [hv] at h1
    exact ⟨b, by rw [h1.cellAt _ (by have := (List.getElem?_eq_some_iff.1 hk).1; omega)]; exact e1, e2⟩
theorem Lw.cell {w W : World} {ts : List Tr} {v : Value} (h : Lw w ts v W) (hn : ts ≠ []) : ∃ g cap, v = .slice (some ⟨g, 0, none⟩) ts.length cap ∧ g < W.heap.size ∧ ∀ (k : Nat) t, ts[k]? = some t → W.cell? ⟨g, k, none⟩ = some (.string t.text) := by
  have h1 : W.ownsRow _ _ _ _ _ _ := h
  rcases h1.2 with ⟨_, h0⟩ | ⟨g, cap, cur, hv, _, hgb, _⟩
  · exact absurd (List.length_eq_zero_iff.1 h0) hn
  · refine ⟨g, cap, hv, (Array.getElem?_eq_some_iff.1 hgb).1, fun k t hk => ?_⟩
    rw [hv] at h1
    rw [h1.cellAt _ (by have := (List.getElem?_eq_some_iff.1 hk).1; omega), List.getElem?_map, hk]
    rfl
theorem one_row {w W : World} {x : Value} {t : TypeId} (hb : w.heap.size ≤ W.heap.size) : (W.alloc (.cells #[x] t)).ownsRow w.heap.size t 1 (.slice (some ⟨W.heap.size, 0, none⟩) 1 1) 1 [x] :=
  ⟨rfl, .inr ⟨W.heap.size, 1, #[x], rfl, hb, World.alloc_heap_new W _, Nat.le_refl _, by decide, rfl, rfl⟩⟩
theorem infoRP : (Tryz.prog.info? 24).map (fun i => (i.zero, i.size, i.bytes)) = some (some (.pointer none), 1, 8) := by kernel_rfl
theorem infoFR : (Tryz.prog.info? 28).map (fun i => (i.zero, i.size, i.bytes)) = some (some (.agg #[.string ⟨#[]⟩]), 1, 16) := by kernel_rfl
/-- a block of another type stays where a row grows -/
theorem blk_grown {W W' : World} {base size n k : Nat} {T1 T2 : TypeId} {v : Value} {xs : List Value} {vs : Array Value} {fz : Nat × Nat} (hr : W.ownsRow base T1 size v n xs) (hg : W.grownBy W' v.ownBlock) (hne : T2 ≠ T1) (h : W.heap[k]? = some (.cells vs T2 fz)) : W'.heap[k]? = some (.cells vs T2 fz) :=
  (hg.block k (Array.getElem?_eq_some_iff.1 h).1 fun e => by
    obtain ⟨us, hv⟩ := row_block hr e.symm
    rw [hv] at h
    simp only [Option.some.injEq, Obj.cells.injEq] at h
    exact hne h.2.1.symm).trans h
theorem at_grown {W W' : World} {base size n : Nat} {T : TypeId} {v : Value} {xs : List Value} (hr : W.ownsRow base T size v n xs) (hg : W.grownBy W' v.ownBlock) (h1 : 128 ≠ T) (h2 : 134 ≠ T) : ∀ {t : Tr} {x : Value}, At W t x → At W' t x
  | .leaf _, _, ⟨b, e1, e2⟩ => ⟨b, e1, blk_grown hr hg h1 e2⟩
  | .knot _ _, _, ⟨b, x, y, e1, e2, e3, e4⟩ => ⟨b, x, y, e1, blk_grown hr hg h2 e2, at_grown hr hg h1 h2 e3, at_grown hr hg h1 h2 e4⟩
theorem rp_grown {W W' : World} {base size n : Nat} {T : TypeId} {v x : Value} {xs : List Value} {t : Tr} (hr : W.ownsRow base T size v n xs) (hg : W.grownBy W' v.ownBlock) (h1 : 128 ≠ T) (h2 : 134 ≠ T) (h3 : 68 ≠ T) (h : Rp W t x) : Rp W' t x := by
  rcases h with h | ⟨b, y, e1, e2, e3⟩
  · exact .inl h
  · exact .inr ⟨b, y, e1, blk_grown hr hg h3 e2, e3.imp id (at_grown hr hg h1 h2)⟩
theorem row_grown {W W' : World} {base size n base' n' : Nat} {T1 T2 : TypeId} {v u : Value} {xs ys : List Value} (hr : W.ownsRow base T1 size v n xs) (hg : W.grownBy W' v.ownBlock) (hne : T2 ≠ T1) (h : W.ownsRow base' T2 1 u n' ys) : W'.ownsRow base' T2 1 u n' ys :=
  ⟨h.1, h.2.imp id fun ⟨g, cap, cur, e1, e2, e3, e4⟩ => ⟨g, cap, cur, e1, e2, blk_grown hr hg hne e3, e4⟩⟩
theorem c1' {W : World} {k : Nat} {v : Value} {t : TypeId} (h : W.heap[k]? = some (.cells #[v] t (0, 0))) : W.cell? ⟨k, 0, none⟩ = some v := by unfold World.cell?; rw [h]; rfl
/-- the box of an edit -/
def Bx3 (W : World) (bx : Nat) (x : Ed) : Prop := W.heap[bx]? = some (.cells #[.int .i64 x.a, .int .i64 x.c, .string x.p] 32 (0, 0))
theorem Bx3.below {W X : World} {bx : Nat} {x : Ed} (h : Bx3 W bx x) (hb : Below W.heap.size W X) : Bx3 X bx x := (hb.block _ (Array.getElem?_eq_some_iff.1 h).1).trans h
theorem Bx3.cells {W : World} {bx : Nat} {x : Ed} (h : Bx3 W bx x) : W.cell? ⟨bx, 0, none⟩ = some (.int .i64 x.a) ∧ W.cell? ⟨bx, 1, none⟩ = some (.int .i64 x.c) ∧ W.cell? ⟨bx, 2, none⟩ = some (.string x.p) ∧ bx < W.heap.size := by
  refine ⟨?_, ?_, ?_, (Array.getElem?_eq_some_iff.1 h).1⟩ <;> (unfold World.cell?; rw [h]; rfl)
theorem edb_len : ∀ l : List Ed, l.length ≤ edb l
  | [] => Nat.le_refl _
  | x :: l => by have := edb_len l; simp only [List.length_cons, edb]; omega
theorem edb_app : ∀ a b : List Ed, edb (a ++ b) = edb a + edb b
  | [], b => by simp [edb]
  | x :: a, b => by have := edb_app a b; simp only [List.cons_append, edb]; omega
theorem edb_take {l : List Ed} {k : Nat} {x : Ed} (h : l[k]? = some x) : edb (l.take (k + 1)) = edb (l.take k) + (x.p.size + 1) ∧ edb (l.take (k + 1)) ≤ edb l := by
  have e : l.take (k + 1) = l.take k ++ [x] := by rw [List.take_add_one, h]; rfl
  refine ⟨by rw [e, edb_app]; simp [edb], ?_⟩
  have := edb_app (l.take (k + 1)) (l.drop (k + 1))
  rw [List.take_append_drop] at this
  omega
/-- the bytes of all texts stay below a bound -/
def Bd (ts : List Tr) (M : Nat) : Prop := ∀ t ∈ ts, Good t ∧ t.text.size ≤ M
/-- what Replace makes of the last rope -/
def wrk (t : Tr) (x : Ed) : Option Tr := if 0 ≤ x.a ∧ 0 ≤ x.c ∧ x.a + x.c ≤ (t.text.size : Int) then some (rep t x.a.toNat (x.a.toNat + x.c.toNat) x.p) else none
set_option maxRecDepth 100000 in
set_option maxHeartbeats 2000000 in
theorem walk (s : ByteArray) (v : Value) (es : List Ed) (w : World) (hv : RdE w v es) (hz : s.size + edb es ≤ 1048576) (hf : ∀ x ∈ es, x.fit) (hE : Ev w) :
    Calls Tryz.prog 3 #[.string s, v] w fun e w' => e = .returned (.bool true) ∧ Below w.heap.size w w' := by
  obtain ⟨a0, cap, rfl, hcell⟩ := hv
  have tT := tof_text s
  have C0 : Hid (Calls Tryz.prog 9 #[] w fun e W' => e = .returned (.bool true) ∧ Hid (Below w.heap.size w W')) := (holds_any w hE).mono fun e W' ⟨h1, h2⟩ => ⟨h1, h2⟩
  have C1 : Hid (∀ W, Hid (Below w.heap.size w W) → Calls Tryz.prog 10 #[.string s] W fun e W' => ∃ b, e = .returned (ptr b) ∧ Hid (Lr w [tof s] (.slice (some ⟨W'.heap.size, 0, none⟩) 1 1) (W'.alloc (.cells #[ptr b] 24)) ∧ Below w.heap.size w (W'.alloc (.cells #[ptr b] 24)))) := fun W hW => (rnew_any s (by unfold B40; omega) W (hE.below hW)).mono fun e W' h => by
    obtain ⟨b, h1, h2, h3⟩ := MkR.rp h
    have hb := (Below.refl _ W').alloc (Nat.le_refl _) (.cells #[ptr b] 24)
    refine ⟨b, h1, ⟨_, one_row (Below.on hW h3).size, fun k t hk => ?_⟩, Below.on (Below.on hW h3) hb⟩
    match k, hk with
    | 0, hk => cases hk; exact ⟨b, rfl, h2.below hb⟩
    | k + 1, hk => simp at hk
  have C2 : Hid (∀ W v, Hid (Lr w [tof s] v W ∧ Below w.heap.size w W) → Calls Tryz.prog 11 #[.string s] W fun e W' => e = .returned (vr s) ∧ Hid (LS w [tof s] v (.slice (some ⟨W'.heap.size, 0, none⟩) 1 1) (W'.alloc (.cells #[.string s] 28)))) := fun W v ⟨h1, hW⟩ => (fnew_any s W).mono fun e W' ⟨k1, k2⟩ => by
    have hb := (Below.refl _ W').alloc (Nat.le_refl _) (.cells #[.string s] 28)
    refine ⟨k1, (h1.below k2).below hb, ?_, Below.on (Below.on hW k2) hb⟩
    have := one_row (x := .string s) (t := 28) (Below.on hW k2).size
    show World.ownsRow _ _ _ _ _ _ [.string (tof s).text]
    rw [tT]
    exact this
  have HCE : Hid (∀ k x, es[k]? = some x → ∃ g o, a0 = some ⟨g, o, none⟩ ∧ g < w.heap.size ∧ w.cell? ⟨g, o + k * 3, none⟩ = some (.int .i64 x.a) ∧ w.cell? ⟨g, o + k * 3 + 1, none⟩ = some (.int .i64 x.c) ∧ w.cell? ⟨g, o + k * 3 + 2, none⟩ = some (.string x.p)) := fun k x hk => by
    obtain ⟨g, o, e, hg, hc⟩ := hcell (fun h => by rw [h] at hk; simp at hk)
    exact ⟨g, o, e, hg, hc k x hk⟩
  have R1 : Hid (∀ (t : Tr) (i c : Nat) (p : ByteArray) (ts : List Tr) (v u : Value) (b bx : Nat) (W : World), Good t → t.text.size + p.size ≤ 1099511627776 → i + c ≤ t.text.size → Hid (Rp W t (ptr b) ∧ Bx3 W bx ⟨i, c, p⟩ ∧ LS w ts v u W) → Calls Tryz.prog 12 #[ptr b, .int .i64 i, .int .i64 c, .string p] W fun e W' => ∃ r, e = .returned (.tuple #[ptr r, .string (t.text.extract i (i + c)), .int .i64 0]) ∧ Hid (Rp W' (rep t i (i + c) p) (ptr r) ∧ Bx3 W' bx ⟨i, c, p⟩ ∧ LS w ts v u W') ∧ Hid (Below W.heap.size W W')) := fun t i c p ts v u b bx W hG hs hc ⟨h1, h2, h3⟩ => (Go.Proofs.YtlonnglebknhbaaGreatDoor.rrep_ok h1 hG i c p hs hc (hE.below h3.b)).mono fun e W' ⟨r, k1, k2, k3⟩ => ⟨r, k1, ⟨k2, h2.below k3, h3.below k3⟩, k3⟩
  go_enter Tryz.func3, Tryz.ntmps3
  go_wp2_with (first | (go_at_call 9; refine C0.out.mono ?_; clear C0; rintro e w1 ⟨rfl, H⟩) | (go_at_call 10; refine (C1.out _ H).mono ?_; clear C1 H; rintro e w2 ⟨b, rfl, H⟩) | (go_at_call 11; refine (C2.out _ _ H).mono ?_; clear C2 H; rintro e w3 ⟨rfl, H⟩))
  have HF : Hid (∀ x ∈ es, x.fit) := hf
  have HEL : Hid (es.length ≤ 1048576) := by have := edb_len es; show _ ≤ _; omega
  have HZ : Hid (s.size + edb es ≤ 1048576) := hz
  have HE : Hid (Ev w) := hE
  clear hE hcell hf tT
  go_loopw [5, 6, 27] (fun t5 t6 t27 wr => ∃ (k : Nat) (ts : List Tr), t27 = .int .i64 k ∧ k ≤ es.length ∧ ts ≠ [] ∧ ts.length ≤ k + 1 ∧ Hid (Bd ts (s.size + edb (es.take k)) ∧ LS w ts t5 t6 wr)) (fun _ _ t27 _ => es.length - (intOf t27).toNat)
  case atStart =>
    refine ⟨0, [tof s], rfl, Nat.zero_le _, by simp, by simp, fun t ht => ?_, H.out⟩
    rw [List.mem_singleton.1 ht, tof_text]
    exact ⟨tof_good s, by simp [edb]⟩
  case round =>
    clear H
    obtain ⟨k, ts, rfl, hk, hne, hlen, HX⟩ := hrel
    by_cases c : k < es.length
    · obtain ⟨x, hx⟩ : ∃ x, es[k]? = some x := ⟨es[k], List.getElem?_eq_getElem c⟩
      obtain ⟨ge, oe, rfl, hge, d0, d1, d2⟩ := HCE.out k x hx
      obtain ⟨m, hm⟩ : ∃ m, ts.length = m + 1 := ⟨ts.length - 1, by have := List.length_pos_iff.2 hne; omega⟩
      have hmb : m ≤ 1048576 := by have := HEL.out; omega
      have hkb : k < 1048576 := by have := HEL.out; omega
      obtain ⟨t, ht⟩ : ∃ t, ts[m]? = some t := ⟨ts[m]'(by omega), List.getElem?_eq_getElem _⟩
      obtain ⟨g1, cap1, rfl, l1, cc1⟩ := HX.out.2.lr.cell hne
      obtain ⟨g2, cap2, rfl, l2, cc2⟩ := HX.out.2.lw.cell hne
      obtain ⟨b, x1, x2⟩ := cc1 m t ht
      have x3 := cc2 m t ht
      have hbw := HX.out.2.b
      have d0' := (hbw.cell (p := ⟨ge, _, none⟩) hge).trans d0
      have d1' := (hbw.cell (p := ⟨ge, _, none⟩) hge).trans d1
      have d2' := (hbw.cell (p := ⟨ge, _, none⟩) hge).trans d2
      have lge : ge < wr.heap.size := Nat.lt_of_lt_of_le hge hbw.size
      have HM : Hid (ts.length = m + 1) := hm
      rw [hm] at HX ⊢
      clear hm
      clear d0 d1 d2 hbw cc1 cc2
      obtain ⟨xa, xc, xp⟩ := x
      by_cases ok : 0 ≤ xa ∧ 0 ≤ xc ∧ xa + xc ≤ (t.text.size : Int)
      · obtain ⟨i, rfl⟩ : ∃ i : Nat, xa = i := ⟨xa.toNat, by omega⟩
        obtain ⟨j, rfl⟩ : ∃ j : Nat, xc = j := ⟨xc.toNat, by omega⟩
        have hb := ((Below.refl _ wr).alloc (Nat.le_refl _) (.cells #[.int .i64 (i : Int), .int .i64 (j : Int), .string xp] 32)).drew
        have H : Hid (Rp (wr.alloc (.cells #[.int .i64 (i : Int), .int .i64 (j : Int), .string xp] 32)).drew t (ptr b) ∧ Bx3 (wr.alloc (.cells #[.int .i64 (i : Int), .int .i64 (j : Int), .string xp] 32)).drew wr.heap.size ⟨i, j, xp⟩ ∧ LS w ts (.slice (some ⟨g1, 0, none⟩) (m + 1) cap1) (.slice (some ⟨g2, 0, none⟩) (m + 1) cap2) (wr.alloc (.cells #[.int .i64 (i : Int), .int .i64 (j : Int), .string xp] 32)).drew) := ⟨x2.below hb, World.alloc_heap_new wr _, HX.out.2.below hb⟩
        have e1 : (m : Int) + 1 - 1 = m := by omega
        have i0 : (0 : Int) ≤ (m : Int) := by omega
        have i1 : (m : Int) < ((m + 1 : Nat) : Int) := by omega
        have i2 : (m : Int) < (m : Int) + 1 := by omega
        have i3 : m < m + 1 := by omega
        have hG : Good t ∧ t.text.size ≤ s.size + edb (es.take k) := HX.out.1 t (List.mem_of_getElem? ht)
        have hzz : t.text.size + xp.size ≤ 1099511627776 := by have := hG.2; have e := edb_take hx; simp only at e; have := HZ.out; omega
        have R1' := fun ts v u bx W => R1.out t i j xp ts v u b bx W hG.1 hzz (by omega)
        have R2 : Hid _ := R1'
        have hGt := hG.1
        have HBD : Hid (Bd ts (s.size + edb (es.take k))) := HX.out.1
        clear R1' hG HX
        go_wp2
        have y1 : (wr.alloc (.cells #[.int .i64 (i : Int), .int .i64 (j : Int), .string xp] 32)).drew.cell? ⟨g1, m, none⟩ = some (ptr b) := (hb.cell (p := ⟨g1, m, none⟩) l1).trans x1
        have hgl : g1 < (wr.alloc (.cells #[.int .i64 (i : Int), .int .i64 (j : Int), .string xp] 32)).drew.heap.size := Nat.lt_of_lt_of_le l1 hb.size
        go_region_held3 (fun w' => w'.cell? ⟨g1, m, none⟩ = some (ptr b) ∧ w'.cell? ⟨wr.heap.size, 0, none⟩ = some (.int .i64 (i : Int)) ∧ w'.cell? ⟨wr.heap.size, 1, none⟩ = some (.int .i64 (j : Int)) ∧ w'.cell? ⟨wr.heap.size, 2, none⟩ = some (.string xp)) (go_keep) (first | (go_at_call 12; refine (R2.out _ _ _ _ _ H).mono ?_; clear R2 H; rintro e w4 ⟨r, rfl, H, HB4⟩; obtain ⟨q1, q2, q3, q4⟩ := H.out.2.1.cells; have q5 : w4.cell? ⟨g1, m, none⟩ = some (ptr b) := (HB4.out.cell (p := ⟨g1, m, none⟩) hgl).trans y1))
        obtain ⟨RT, hRT⟩ : ∃ T, rep t i (i + j) xp = T := ⟨_, rfl⟩
        have HRT : Hid (Good RT ∧ RT.text = rpT t.text i j xp) := by rw [← hRT]; exact rep_ok xp hGt (by omega) (by omega)
        rw [hRT] at H
        clear hRT x1 x2 y1 hgl q1 q2 q3 q4 q5 hb d0' d1' d2' HB4
        have H4 : Hid (Rp w4 RT (ptr r) ∧ LS w ts (.slice (some ⟨g1, 0, none⟩) (m + 1) cap1) (.slice (some ⟨g2, 0, none⟩) (m + 1) cap2) w4) := ⟨H.out.1, H.out.2.2⟩
        obtain ⟨u1, u2, u3, u4⟩ := H.out.2.1.cells
        have u5 : w4.cell? ⟨g2, m, none⟩ = some (.string t.text) := by
          obtain ⟨g2', cap2', e, l, cc⟩ := H.out.2.2.lw.cell hne
          simp at e
          rw [e.1]
          exact cc m t ht
        have u6 : g2 < w4.heap.size := by
          obtain ⟨g2', cap2', e, l, cc⟩ := H.out.2.2.lw.cell hne
          simp at e
          rw [e.1]
          exact l
        clear H
        have FR1 : Hid (∀ W, Calls Tryz.prog 13 #[vr t.text, .int .i64 (i : Int), .int .i64 (j : Int), .string xp] W fun e W' => e = .returned (.tuple #[vr (rpT t.text i j xp), .string (t.text.extract i (i + j)), .int .i64 0]) ∧ Hid (Below W.heap.size W W')) := fun W => (frep_ok t.text i j xp hzz (by omega) W).mono fun e W' ⟨k1, k2⟩ => ⟨k1, k2⟩
        rw [← HRT.out.2] at FR1
        have HGR : Hid (Good RT ∧ RT.text.size ≤ t.text.size + xp.size) := ⟨HRT.out.1, by rw [HRT.out.2]; unfold rpT; rw [size_app, size_app, size_extract _ _ _ (by omega), size_extract _ _ _ (Nat.le_refl _)]; omega⟩
        have HBD2 : Hid (Bd (ts ++ [RT]) (s.size + edb (es.take (k + 1)))) := fun y hy => by
          have e := edb_take hx
          simp only at e
          rcases List.mem_append.1 hy with hy | hy
          · have := HBD.out y hy; exact ⟨this.1, by omega⟩
          · rw [List.mem_singleton.1 hy]
            have h1 := HBD.out t (List.mem_of_getElem? ht)
            exact ⟨HGR.out.1, by have := HGR.out.2; omega⟩
        clear HRT HBD HGR
        generalize t.text.extract i (i + j) = O at FR1 ⊢
        go_wp2
        go_cut [13, 14, 15] (fun v13 v14 v15 wx => ∃ q, v13 = ptr q ∧ v14 = .string O ∧ v15 = .int .i64 0 ∧ g2 < q ∧ Hid (wx.heap[q]? = some (.cells #[.string RT.text] 28 (0, 0)) ∧ Below w4.heap.size w4 wx))
        case first =>
          have n1 := World.new_ne w4 ⟨g2, m, none⟩ u5
          have n2 := World.new_ne w4 ⟨wr.heap.size, 0, none⟩ u1
          have n3 := World.new_ne w4 ⟨wr.heap.size, 1, none⟩ u2
          have n4 := World.new_ne w4 ⟨wr.heap.size, 2, none⟩ u3
          go_region_held3 (fun w' => w'.cell? ⟨g2, m, none⟩ = some (.string t.text) ∧ w'.cell? ⟨wr.heap.size, 0, none⟩ = some (.int .i64 (i : Int)) ∧ w'.cell? ⟨wr.heap.size, 1, none⟩ = some (.int .i64 (j : Int)) ∧ w'.cell? ⟨wr.heap.size, 2, none⟩ = some (.string xp)) (go_keep) (first | (go_at_call 13; refine (FR1.out w4.drew).mono ?_; clear FR1; rintro e w5 ⟨rfl, HB5⟩; have z1 := (HB5.out.cell (p := ⟨g2, m, none⟩) u6).trans u5; have z2 := (HB5.out.cell (p := ⟨wr.heap.size, 0, none⟩) u4).trans u1; have z3 := (HB5.out.cell (p := ⟨wr.heap.size, 1, none⟩) u4).trans u2; have z4 := (HB5.out.cell (p := ⟨wr.heap.size, 2, none⟩) u4).trans u3; have HB6 : Hid (Below w4.heap.size w4 w5) := Below.on ((Below.refl _ w4).drew) HB5.out) | (go_at_call 13; refine (FR1.out (w4.alloc (.cells #[.string ⟨#[]⟩] 28)).drew).mono ?_; clear FR1; rintro e w5 ⟨rfl, HB5⟩; have HB6 : Hid (Below w4.heap.size w4 w5) := Below.on ((Below.refl _ w4).alloc (Nat.le_refl _) (.cells #[.string ⟨#[]⟩] 28)).drew HB5.out; have z1 := (HB6.out.cell (p := ⟨g2, m, none⟩) u6).trans u5; have z2 := (HB6.out.cell (p := ⟨wr.heap.size, 0, none⟩) u4).trans u1; have z3 := (HB6.out.cell (p := ⟨wr.heap.size, 1, none⟩) u4).trans u2; have z4 := (HB6.out.cell (p := ⟨wr.heap.size, 2, none⟩) u4).trans u3; have HQ : Hid (w5.heap[w4.heap.size]? = some (.cells #[.string ⟨#[]⟩] 28 (0, 0))) := (HB5.out.block _ (by simp)).trans (World.alloc_heap_new w4 _); obtain ⟨z5, z6⟩ := box1 HQ.out; have z7 : w4.heap.size < w5.heap.size := (Array.getElem?_eq_some_iff.1 HQ.out).1))
          all_goals (go_wp2_with fail; go_meet; first | exact ⟨_, rfl, rfl, rfl, Nat.lt_of_lt_of_le u6 HB6.out.size, World.alloc_heap_new w5 _, HB6.out.alloc HB6.out.size _⟩ | exact ⟨_, rfl, rfl, rfl, u6, set1 (i := 0) (.string RT.text) HQ.out, HB6.out.setCell (p := ⟨w4.heap.size, 0, none⟩) (Nat.le_refl _) _⟩)
        case rest =>
          obtain ⟨q, rfl, rfl, rfl, hgq, HC⟩ := hcut
          obtain ⟨xs, hrow, hels⟩ := (H4.out.2.below HC.out.2).lr
          obtain ⟨i0, hi, hz0, hz1, hz2⟩ := info_parts infoRP
          obtain ⟨i1', hi', hz0', hz1', hz2'⟩ := info_parts infoFR
          have hqc := c1' HC.out.1
          have hql := (Array.getElem?_eq_some_iff.1 HC.out.1).1
          have hbw : Below w.heap.size w wc := (H4.out.2.below HC.out.2).b
          have HB : Hid (∀ Z, Below wc.heap.size wc Z → Z.ownsRow w.heap.size 24 1 (.slice (some ⟨g1, 0, none⟩) (m + 1) cap1) (m + 1) xs ∧ Z.heap[q]? = some (.cells #[.string RT.text] 28 (0, 0)) ∧ Z.ownsRow w.heap.size 28 1 (.slice (some ⟨g2, 0, none⟩) (m + 1) cap2) (m + 1) (ts.map fun t => .string t.text) ∧ w.heap.size ≤ Z.heap.size) := fun Z hZ => by
            have h1 := row_below' hrow hZ
            have h2 := row_below' (H4.out.2.below HC.out.2).lw hZ
            rw [HM.out] at h1 h2
            exact ⟨h1, (hZ.block _ hql).trans HC.out.1, h2, Nat.le_trans hbw.size hZ.size⟩
          have HFIN : Hid (∀ Z w9 v9, Below wc.heap.size wc Z → w9.ownsRow w.heap.size 24 1 v9 (m + 1 + 1) (xs ++ [ptr r]) → Z.grownBy w9 (some g1) → Lr w (ts ++ [RT]) v9 w9 ∧ Below w.heap.size w w9 ∧ w9.heap[q]? = some (.cells #[.string RT.text] 28 (0, 0)) ∧ w9.ownsRow w.heap.size 28 1 (.slice (some ⟨g2, 0, none⟩) (m + 1) cap2) (m + 1) (ts.map fun t => .string t.text) ∧ w.heap.size ≤ w9.heap.size ∧ w9.cell? ⟨q, 0, none⟩ = some (.string RT.text)) := fun Z w9 v9 hZ h9 hg => by
            obtain ⟨z1, z2, z3, z4⟩ := HB.out Z hZ
            have hx := fun (t : Tr) (x : Value) (h : Rp wc t x) => rp_grown (v := .slice (some ⟨g1, 0, none⟩) (m + 1) cap1) z1 hg (by decide) (by decide) (by decide) (h.below hZ)
            have hq9 := blk_grown (v := .slice (some ⟨g1, 0, none⟩) (m + 1) cap1) z1 hg (by decide) z2
            refine ⟨⟨xs ++ [ptr r], by rw [List.length_append, HM.out]; exact h9, fun k t hk => ?_⟩, (Below.on hbw hZ).grown hg (by omega) (fun j e => (z1.lt j e).1), hq9, row_grown (v := .slice (some ⟨g1, 0, none⟩) (m + 1) cap1) z1 hg (by decide) z3, Nat.le_trans z4 hg.size, c1' hq9⟩
            have hxl : xs.length = m + 1 := by have := hrow.1; rw [HM.out] at this; omega
            have hml := HM.out
            by_cases hk' : k < ts.length
            · rw [List.getElem?_append_left hk'] at hk
              obtain ⟨b, e1, e2⟩ := hels k t hk
              exact ⟨b, by rw [List.getElem?_append_left (by omega)]; exact e1, hx _ _ e2⟩
            · rw [List.getElem?_append_right (by omega)] at hk
              have hk0 : k - ts.length = 0 := by
                have := (List.getElem?_eq_some_iff.1 hk).1
                simp at this
                omega
              rw [hk0] at hk
              cases hk
              exact ⟨r, by rw [List.getElem?_append_right (by omega), show k - xs.length = 0 by omega]; rfl, hx _ _ (H4.out.1.below HC.out.2)⟩
          clear H4 FR1 u1 u2 u3 u4 u5 u6 hels hrow
          go_wp2
          have HFIN2 : Hid (∀ (w9 : World) (v9 : Value) (Z w10 : World) (u10 : Value), Hid (Lr w (ts ++ [RT]) v9 w9 ∧ Below w.heap.size w w9 ∧ w9.heap[q]? = some (.cells #[.string RT.text] 28 (0, 0)) ∧ w9.ownsRow w.heap.size 28 1 (.slice (some ⟨g2, 0, none⟩) (m + 1) cap2) (m + 1) (ts.map fun t => .string t.text) ∧ w.heap.size ≤ w9.heap.size) → Below w9.heap.size w9 Z → w10.ownsRow w.heap.size 28 1 u10 (m + 1 + 1) ((ts.map fun t => .string t.text) ++ [.string RT.text]) → Z.grownBy w10 (some g2) → LS w (ts ++ [RT]) v9 u10 w10 ∧ w10.cell? ⟨q, 0, none⟩ = some (.string RT.text)) := fun w9 v9 Z w10 u10 ⟨a1, a2, a3, a4, a5⟩ hZ h10 hg => by
            have z1 := row_below' a4 hZ
            have z2 := (hZ.block _ (Array.getElem?_eq_some_iff.1 a3).1).trans a3
            obtain ⟨ys, b1, b2⟩ := a1.below hZ
            have hq10 := (hg.block q (Array.getElem?_eq_some_iff.1 z2).1 (fun e => by have := Option.some.inj e; omega)).trans z2
            refine ⟨⟨⟨ys, row_grown (v := .slice (some ⟨g2, 0, none⟩) (m + 1) cap2) z1 hg (by decide) b1, fun k t hk => ?_⟩, ?_, (Below.on a2 hZ).grown hg (Nat.le_trans a5 hZ.size) (fun j e => (z1.lt j e).1)⟩, c1' hq10⟩
            · obtain ⟨b, e1, e2⟩ := b2 k t hk
              exact ⟨b, e1, rp_grown (v := .slice (some ⟨g2, 0, none⟩) (m + 1) cap2) z1 hg (by decide) (by decide) (by decide) e2⟩
            · show World.ownsRow _ _ _ _ _ _ _
              rw [List.length_append, HM.out, List.map_append]
              exact h10
          have bZ1 : Below wc.heap.size wc (wc.alloc (.cells #[ptr r] 24)).drew := ((Below.refl _ wc).alloc (Nat.le_refl _) _).drew
          have bZ2 : Below wc.heap.size wc ((wc.alloc (.cells #[ptr r] 24)).alloc (.cells #[.string RT.text] 28)).drew := (((Below.refl _ wc).alloc (Nat.le_refl _) _).alloc (by simp) _).drew
          have bZ3 : Below wc.heap.size wc ((wc.alloc (.cells #[.string RT.text] 28)).alloc (.cells #[ptr r] 24)).drew := (((Below.refl _ wc).alloc (Nat.le_refl _) _).alloc (by simp) _).drew
          have nZ1 : (wc.alloc (.cells #[ptr r] 24)).drew.heap[wc.heap.size]? = some (.cells #[ptr r] 24 (0, 0)) := World.alloc_heap_new wc _
          have nZ2 : ((wc.alloc (.cells #[ptr r] 24)).alloc (.cells #[.string RT.text] 28)).drew.heap[wc.heap.size]? = some (.cells #[ptr r] 24 (0, 0)) ∧ ((wc.alloc (.cells #[ptr r] 24)).alloc (.cells #[.string RT.text] 28)).drew.heap[wc.heap.size + 1]? = some (.cells #[.string RT.text] 28 (0, 0)) := push2' wc.heap _ _
          have nZ3 : ((wc.alloc (.cells #[.string RT.text] 28)).alloc (.cells #[ptr r] 24)).drew.heap[wc.heap.size]? = some (.cells #[.string RT.text] 28 (0, 0)) ∧ ((wc.alloc (.cells #[.string RT.text] 28)).alloc (.cells #[ptr r] 24)).drew.heap[wc.heap.size + 1]? = some (.cells #[ptr r] 24 (0, 0)) := push2' wc.heap _ _
          go_region_held3 (fun w' => w'.cell? ⟨q, 0, none⟩ = some (.string RT.text)) (go_keep) (first | (refine step_append_own rfl (.tmp 81) (.tmp 83) 26 rfl w.heap.size 24 i0 _ 1 8 Tryz.underlying26 hi hz0 hz1 hz2 rfl (by decide) _ (m + 1) xs rfl (HB.out _ bZ1).1 ⟨wc.heap.size, 0, none⟩ 1 1 [ptr r] rfl rfl (fun j u h => World.news_of_block nZ1 j u h) (by simp [Value.oneCell']) (by unfold maxLen; omega) (by omega) (HB.out _ bZ1).2.2.2 ?_; intro v9 w9 hrow9 hg9; obtain ⟨k1, k2, k3, k4, k5, k6⟩ := HFIN.out _ w9 v9 bZ1 hrow9 hg9; have HA : Hid (Lr w (ts ++ [RT]) v9 w9 ∧ Below w.heap.size w w9 ∧ w9.heap[q]? = some (.cells #[.string RT.text] 28 (0, 0)) ∧ w9.ownsRow w.heap.size 28 1 (.slice (some ⟨g2, 0, none⟩) (m + 1) cap2) (m + 1) (ts.map fun t => .string t.text) ∧ w.heap.size ≤ w9.heap.size) := ⟨k1, k2, k3, k4, k5⟩; clear hrow9 hg9 k1 k2 k3 k4 k5 HFIN) | (refine step_append_own rfl (.tmp 81) (.tmp 83) 26 rfl w.heap.size 24 i0 _ 1 8 Tryz.underlying26 hi hz0 hz1 hz2 rfl (by decide) _ (m + 1) xs rfl (HB.out _ bZ2).1 ⟨wc.heap.size, 0, none⟩ 1 1 [ptr r] rfl rfl (fun j u h => World.news_of_block nZ2.1 j u h) (by simp [Value.oneCell']) (by unfold maxLen; omega) (by omega) (HB.out _ bZ2).2.2.2 ?_; intro v9 w9 hrow9 hg9; obtain ⟨k1, k2, k3, k4, k5, k6⟩ := HFIN.out _ w9 v9 bZ2 hrow9 hg9; have HA : Hid (Lr w (ts ++ [RT]) v9 w9 ∧ Below w.heap.size w w9 ∧ w9.heap[q]? = some (.cells #[.string RT.text] 28 (0, 0)) ∧ w9.ownsRow w.heap.size 28 1 (.slice (some ⟨g2, 0, none⟩) (m + 1) cap2) (m + 1) (ts.map fun t => .string t.text) ∧ w.heap.size ≤ w9.heap.size) := ⟨k1, k2, k3, k4, k5⟩; have n9 : Hid (w9.heap[wc.heap.size + 1]? = some (.cells #[.string RT.text] 28 (0, 0))) := blk_grown (HB.out _ bZ2).1 hg9 (by decide) nZ2.2; clear hrow9 hg9 k1 k2 k3 k4 k5 HFIN) | (refine step_append_own rfl (.tmp 81) (.tmp 83) 26 rfl w.heap.size 24 i0 _ 1 8 Tryz.underlying26 hi hz0 hz1 hz2 rfl (by decide) _ (m + 1) xs rfl (HB.out _ bZ3).1 ⟨wc.heap.size + 1, 0, none⟩ 1 1 [ptr r] rfl rfl (fun j u h => World.news_of_block nZ3.2 j u h) (by simp [Value.oneCell']) (by unfold maxLen; omega) (by omega) (HB.out _ bZ3).2.2.2 ?_; intro v9 w9 hrow9 hg9; obtain ⟨k1, k2, k3, k4, k5, k6⟩ := HFIN.out _ w9 v9 bZ3 hrow9 hg9; have HA : Hid (Lr w (ts ++ [RT]) v9 w9 ∧ Below w.heap.size w w9 ∧ w9.heap[q]? = some (.cells #[.string RT.text] 28 (0, 0)) ∧ w9.ownsRow w.heap.size 28 1 (.slice (some ⟨g2, 0, none⟩) (m + 1) cap2) (m + 1) (ts.map fun t => .string t.text) ∧ w.heap.size ≤ w9.heap.size) := ⟨k1, k2, k3, k4, k5⟩; have n9 : Hid (w9.heap[wc.heap.size]? = some (.cells #[.string RT.text] 28 (0, 0))) := blk_grown (HB.out _ bZ3).1 hg9 (by decide) nZ3.1; clear hrow9 hg9 k1 k2 k3 k4 k5 HFIN) | (refine step_append_own rfl (.tmp 85) (.tmp 87) 30 rfl w.heap.size 28 i1' _ 1 16 Tryz.underlying30 hi' hz0' hz1' hz2' rfl (by decide) _ (m + 1) (ts.map fun t => .string t.text) rfl (row_below' HA.out.2.2.2.1 ((Below.refl _ w9).alloc (Nat.le_refl _) (.cells #[.string RT.text] 28))) ⟨w9.heap.size, 0, none⟩ 1 1 [.string RT.text] rfl rfl (fun j u h => World.news_of_block (World.alloc_heap_new w9 _) j u h) (by simp [Value.oneCell']) (by unfold maxLen; omega) (by omega) (Nat.le_trans HA.out.2.2.2.2 (((Below.refl _ w9).alloc (Nat.le_refl _) (.cells #[.string RT.text] 28))).size) ?_; intro u10 w10 hrow10 hg10; obtain ⟨HS, k7⟩ := HFIN2.out w9 v9 _ w10 u10 HA ((Below.refl _ w9).alloc (Nat.le_refl _) (.cells #[.string RT.text] 28)) hrow10 hg10; have HS2 : Hid (LS w (ts ++ [RT]) v9 u10 w10) := HS; clear hrow10 hg10 HS HA HFIN2) | (refine step_append_own rfl (.tmp 85) (.tmp 87) 30 rfl w.heap.size 28 i1' _ 1 16 Tryz.underlying30 hi' hz0' hz1' hz2' rfl (by decide) _ (m + 1) (ts.map fun t => .string t.text) rfl (row_below' HA.out.2.2.2.1 (Below.refl _ w9)) ⟨wc.heap.size + 1, 0, none⟩ 1 1 [.string RT.text] rfl rfl (fun j u h => World.news_of_block n9.out j u h) (by simp [Value.oneCell']) (by unfold maxLen; omega) (by omega) HA.out.2.2.2.2 ?_; intro u10 w10 hrow10 hg10; obtain ⟨HS, k7⟩ := HFIN2.out w9 v9 _ w10 u10 HA (Below.refl _ w9) hrow10 hg10; have HS2 : Hid (LS w (ts ++ [RT]) v9 u10 w10) := HS; clear hrow10 hg10 HS HA HFIN2) | (refine step_append_own rfl (.tmp 85) (.tmp 87) 30 rfl w.heap.size 28 i1' _ 1 16 Tryz.underlying30 hi' hz0' hz1' hz2' rfl (by decide) _ (m + 1) (ts.map fun t => .string t.text) rfl (row_below' HA.out.2.2.2.1 (Below.refl _ w9)) ⟨wc.heap.size, 0, none⟩ 1 1 [.string RT.text] rfl rfl (fun j u h => World.news_of_block n9.out j u h) (by simp [Value.oneCell']) (by unfold maxLen; omega) (by omega) HA.out.2.2.2.2 ?_; intro u10 w10 hrow10 hg10; obtain ⟨HS, k7⟩ := HFIN2.out w9 v9 _ w10 u10 HA (Below.refl _ w9) hrow10 hg10; have HS2 : Hid (LS w (ts ++ [RT]) v9 u10 w10) := HS; clear hrow10 hg10 HS HA HFIN2))
          all_goals go_wp2
          all_goals exact ⟨⟨k + 1, ts ++ [RT], by go_num, by omega, by simp, (by rw [List.length_append, HM.out]; simp; have := HM.out; omega), HBD2.out, HS2.out⟩, by simp [intOf]; omega⟩
      · have hG : Good t ∧ t.text.size ≤ s.size + edb (es.take k) := HX.out.1 t (List.mem_of_getElem? ht)
        have hft : (-9223372036854775808 ≤ xa ∧ xa ≤ 9223372036854775807) ∧ (-9223372036854775808 ≤ xc ∧ xc ≤ 9223372036854775807) := HF.out _ (List.mem_of_getElem? hx)
        have hno : xa < 0 ∨ xc < 0 ∨ (t.text.size : Int) < xa + xc := by omega
        have e0 := edb_take hx
        simp only at e0
        have hzz : t.text.size ≤ 1099511627776 := by have := hG.2; have := HZ.out; omega
        have HBD : Hid (Bd ts (s.size + edb (es.take (k + 1)))) := fun y hy => by have := HX.out.1 y hy; exact ⟨this.1, by omega⟩
        have R2 : Hid (∀ W, Hid (Rp W t (ptr b)) → Calls Tryz.prog 12 #[ptr b, .int .i64 xa, .int .i64 xc, .string xp] W fun e W' => e = .returned (.tuple #[.pointer none, .string ⟨#[]⟩, .int .i64 1]) ∧ Hid (Below W.heap.size W W')) := fun W h => (rrep_no h.out hzz xa xc xp hft.1 hno).mono fun e W' ⟨k1, k2⟩ => ⟨k1, k2⟩
        have FR1 : Hid (∀ W, Calls Tryz.prog 13 #[vr t.text, .int .i64 xa, .int .i64 xc, .string xp] W fun e W' => e = .returned (.tuple #[vr ⟨#[]⟩, .string ⟨#[]⟩, .int .i64 1]) ∧ Hid (Below W.heap.size W W')) := fun W => (frep_no t.text xa xc xp hzz hft.1 hno W).mono fun e W' ⟨k1, k2⟩ => ⟨k1, k2⟩
        have hb := ((Below.refl _ wr).alloc (Nat.le_refl _) (.cells #[.int .i64 xa, .int .i64 xc, .string xp] 32)).drew
        have H : Hid (Rp (wr.alloc (.cells #[.int .i64 xa, .int .i64 xc, .string xp] 32)).drew t (ptr b)) := x2.below hb
        have HLS : Hid (LS w ts (.slice (some ⟨g1, 0, none⟩) (m + 1) cap1) (.slice (some ⟨g2, 0, none⟩) (m + 1) cap2) wr) := HX.out.2
        have e1 : (m : Int) + 1 - 1 = m := by omega
        have i0 : (0 : Int) ≤ (m : Int) := by omega
        have i1 : (m : Int) < ((m + 1 : Nat) : Int) := by omega
        have i2 : (m : Int) < (m : Int) + 1 := by omega
        have i3 : m < m + 1 := by omega
        have y1 : (wr.alloc (.cells #[.int .i64 xa, .int .i64 xc, .string xp] 32)).drew.cell? ⟨g1, m, none⟩ = some (ptr b) := (hb.cell (p := ⟨g1, m, none⟩) l1).trans x1
        have y2 : (wr.alloc (.cells #[.int .i64 xa, .int .i64 xc, .string xp] 32)).drew.cell? ⟨g2, m, none⟩ = some (.string t.text) := (hb.cell (p := ⟨g2, m, none⟩) l2).trans x3
        have y3 : Bx3 (wr.alloc (.cells #[.int .i64 xa, .int .i64 xc, .string xp] 32)).drew wr.heap.size ⟨xa, xc, xp⟩ := World.alloc_heap_new wr _
        have hgl : g1 < (wr.alloc (.cells #[.int .i64 xa, .int .i64 xc, .string xp] 32)).drew.heap.size := Nat.lt_of_lt_of_le l1 hb.size
        have hgl2 : g2 < (wr.alloc (.cells #[.int .i64 xa, .int .i64 xc, .string xp] 32)).drew.heap.size := Nat.lt_of_lt_of_le l2 hb.size
        have HY3 : Hid (Bx3 (wr.alloc (.cells #[.int .i64 xa, .int .i64 xc, .string xp] 32)).drew wr.heap.size ⟨xa, xc, xp⟩) := y3
        have HBB : Hid (Below wr.heap.size wr (wr.alloc (.cells #[.int .i64 xa, .int .i64 xc, .string xp] 32)).drew) := hb
        clear R1 hG HX e0 hft hno hzz HF HZ y3 hb ok
        go_wp2
        go_region_held3 (fun w' => w'.cell? ⟨g1, m, none⟩ = some (ptr b) ∧ w'.cell? ⟨wr.heap.size, 0, none⟩ = some (.int .i64 xa) ∧ w'.cell? ⟨wr.heap.size, 1, none⟩ = some (.int .i64 xc) ∧ w'.cell? ⟨wr.heap.size, 2, none⟩ = some (.string xp)) (go_keep) (first | (go_at_call 12; refine (R2.out _ H).mono ?_; clear R2 H; rintro e w4 ⟨rfl, HB4⟩; obtain ⟨q1, q2, q3, q4⟩ := (HY3.out.below HB4.out).cells; have q5 : w4.cell? ⟨g1, m, none⟩ = some (ptr b) := (HB4.out.cell (p := ⟨g1, m, none⟩) hgl).trans y1; have q6 : w4.cell? ⟨g2, m, none⟩ = some (.string t.text) := (HB4.out.cell (p := ⟨g2, m, none⟩) hgl2).trans y2))
        have u6 : g2 < w4.heap.size := Nat.lt_of_lt_of_le hgl2 HB4.out.size
        have HB7 : Hid (Below wr.heap.size wr w4) := Below.on HBB.out HB4.out
        clear y1 y2 hgl hgl2 HY3 HBB HB4 d0' d1' d2' x1 x2 x3
        go_wp2
        go_cut [13, 14, 15] (fun v13 v14 v15 wx => ∃ q, v13 = ptr q ∧ v14 = .string ⟨#[]⟩ ∧ v15 = .int .i64 1 ∧ Hid (Below w4.heap.size w4 wx))
        case first =>
          have n1 := World.new_ne w4 ⟨g2, m, none⟩ q6
          have n2 := World.new_ne w4 ⟨wr.heap.size, 0, none⟩ q1
          have n3 := World.new_ne w4 ⟨wr.heap.size, 1, none⟩ q2
          have n4 := World.new_ne w4 ⟨wr.heap.size, 2, none⟩ q3
          go_region_held3 (fun w' => w'.cell? ⟨g2, m, none⟩ = some (.string t.text) ∧ w'.cell? ⟨wr.heap.size, 0, none⟩ = some (.int .i64 xa) ∧ w'.cell? ⟨wr.heap.size, 1, none⟩ = some (.int .i64 xc) ∧ w'.cell? ⟨wr.heap.size, 2, none⟩ = some (.string xp)) (go_keep) (first | (go_at_call 13; refine (FR1.out w4.drew).mono ?_; clear FR1; rintro e w5 ⟨rfl, HB5⟩; have z1 := (HB5.out.cell (p := ⟨g2, m, none⟩) u6).trans q6; have z2 := (HB5.out.cell (p := ⟨wr.heap.size, 0, none⟩) q4).trans q1; have z3 := (HB5.out.cell (p := ⟨wr.heap.size, 1, none⟩) q4).trans q2; have z4 := (HB5.out.cell (p := ⟨wr.heap.size, 2, none⟩) q4).trans q3; have HB6 : Hid (Below w4.heap.size w4 w5) := Below.on ((Below.refl _ w4).drew) HB5.out) | (go_at_call 13; refine (FR1.out (w4.alloc (.cells #[.string ⟨#[]⟩] 28)).drew).mono ?_; clear FR1; rintro e w5 ⟨rfl, HB5⟩; have HB6 : Hid (Below w4.heap.size w4 w5) := Below.on ((Below.refl _ w4).alloc (Nat.le_refl _) (.cells #[.string ⟨#[]⟩] 28)).drew HB5.out; have z1 := (HB6.out.cell (p := ⟨g2, m, none⟩) u6).trans q6; have z2 := (HB6.out.cell (p := ⟨wr.heap.size, 0, none⟩) q4).trans q1; have z3 := (HB6.out.cell (p := ⟨wr.heap.size, 1, none⟩) q4).trans q2; have z4 := (HB6.out.cell (p := ⟨wr.heap.size, 2, none⟩) q4).trans q3; have HQ : Hid (w5.heap[w4.heap.size]? = some (.cells #[.string ⟨#[]⟩] 28 (0, 0))) := (HB5.out.block _ (by simp)).trans (World.alloc_heap_new w4 _); obtain ⟨z5, z6⟩ := box1 HQ.out; have z7 : w4.heap.size < w5.heap.size := (Array.getElem?_eq_some_iff.1 HQ.out).1))
          all_goals (go_wp2_with fail; go_meet; first | exact ⟨_, rfl, rfl, rfl, HB6.out.alloc HB6.out.size _⟩ | exact ⟨_, rfl, rfl, rfl, HB6.out.setCell (p := ⟨w4.heap.size, 0, none⟩) (Nat.le_refl _) _⟩)
        case rest =>
          obtain ⟨q, rfl, rfl, rfl, HC⟩ := hcut
          go_wp2
          exact ⟨⟨k + 1, ts, by go_num, by omega, hne, by have := HM.out; omega, HBD.out, HLS.out.below (Below.on HB7.out HC.out)⟩, by simp [intOf]; omega⟩
    · have hke : k = es.length := by omega
      obtain ⟨m, hm⟩ : ∃ m, ts.length = m + 1 := ⟨ts.length - 1, by have := List.length_pos_iff.2 hne; omega⟩
      have hmb : m ≤ 1048576 := by have := HEL.out; omega
      obtain ⟨g1, cap1, rfl, l1, cc1⟩ := HX.out.2.lr.cell hne
      obtain ⟨g2, cap2, rfl, l2, cc2⟩ := HX.out.2.lw.cell hne
      have HM : Hid (ts.length = m + 1) := hm
      rw [hm] at HX ⊢
      clear cc1 cc2 l1 l2 R1 hm
      have e1 : (m : Int) + 1 - 1 = m := by omega
      have HBD : Hid (∀ t ∈ ts, Good t ∧ t.text.size ≤ 1099511627776) := fun t ht => by
        have := HX.out.1 t ht
        rw [hke, List.take_length] at this
        exact ⟨this.1, by have := HZ.out; omega⟩
      have HLS : Hid (LS w ts (.slice (some ⟨g1, 0, none⟩) (m + 1) cap1) (.slice (some ⟨g2, 0, none⟩) (m + 1) cap2) wr) := HX.out.2
      have C4 : Hid (∀ W b t, t ∈ ts → Hid (Rp W t (ptr b) ∧ LS w ts (.slice (some ⟨g1, 0, none⟩) (m + 1) cap1) (.slice (some ⟨g2, 0, none⟩) (m + 1) cap2) W) → Calls Tryz.prog 14 #[ptr b, .string t.text] W fun e W' => e = .returned (.bool true) ∧ Hid (Below W.heap.size W W')) := fun W b t ht ⟨h1, h2⟩ => (right_any h1 (HBD.out t ht).1 (HBD.out t ht).2 (HE.out.below h2.b)).mono fun e W' ⟨k1, k2⟩ => ⟨k1, k2⟩
      clear HX HBD hke
      go_wp2
      obtain ⟨wo, hwo⟩ : ∃ wo, wo = wr := ⟨_, rfl⟩
      subst hwo
      go_loopw [16] (fun t16 wq => ∃ n : Nat, t16 = .int .i64 ((n : Int) - 1) ∧ n ≤ m + 1 ∧ Hid (LS w ts (.slice (some ⟨g1, 0, none⟩) (m + 1) cap1) (.slice (some ⟨g2, 0, none⟩) (m + 1) cap2) wq)) (fun t16 _ => (intOf t16 + 1).toNat)
      case atStart => exact ⟨m + 1, by simp, Nat.le_refl _, HLS⟩
      case round =>
        clear HLS
        obtain ⟨n, rfl, hn, HLS⟩ := hrel
        by_cases d : n = 0
        · subst d
          clear C4
          go_wp2
          go_ret
          exact ⟨rfl, HLS.out.b⟩
        · obtain ⟨i, rfl⟩ : ∃ i, n = i + 1 := ⟨n - 1, by omega⟩
          obtain ⟨t, ht⟩ : ∃ t, ts[i]? = some t := ⟨ts[i]'(by rw [HM.out]; omega), List.getElem?_eq_getElem _⟩
          have htm := List.mem_of_getElem? ht
          obtain ⟨b, x1, x2⟩ : ∃ b, wr.cell? ⟨g1, i, none⟩ = some (ptr b) ∧ Rp wr t (ptr b) := by
            obtain ⟨g1', cap1', e, l, cc⟩ := HLS.out.lr.cell hne
            simp at e
            rw [e.1]
            exact cc i t ht
          obtain ⟨x3, l1, l2⟩ : wr.cell? ⟨g2, i, none⟩ = some (.string t.text) ∧ g1 < wr.heap.size ∧ g2 < wr.heap.size := by
            obtain ⟨g1', cap1', e', l', -⟩ := HLS.out.lr.cell hne
            obtain ⟨g2', cap2', e, l, cc⟩ := HLS.out.lw.cell hne
            simp at e e'
            rw [e.1, e'.1]
            exact ⟨cc i t ht, l', l⟩
          have H : Hid (Rp wr.drew t (ptr b) ∧ LS w ts (.slice (some ⟨g1, 0, none⟩) (m + 1) cap1) (.slice (some ⟨g2, 0, none⟩) (m + 1) cap2) wr.drew) := ⟨x2.below (Below.refl _ wr).drew, HLS.out.below (Below.refl _ wr).drew⟩
          have C5 : Hid (Calls Tryz.prog 14 #[ptr b, .string t.text] wr.drew fun e W' => e = .returned (.bool true) ∧ Hid (Below wr.heap.size wr W')) := (C4.out _ b t htm H).mono fun e W' ⟨k1, k2⟩ => ⟨k1, Below.on (Below.refl _ wr).drew k2⟩
          have i0 : (0 : Int) ≤ (i : Int) := by omega
          have i1 : (i : Int) < ((m + 1 : Nat) : Int) := by omega
          have i2 : (i : Int) < (m : Int) + 1 := by omega
          have i3 : i < m + 1 := by omega
          have e2 : ((i + 1 : Nat) : Int) - 1 = i := by omega
          clear C4 H x2 ht htm
          go_wp2
          go_region_held3 (fun w' => w'.cell? ⟨g1, i, none⟩ = some (ptr b) ∧ w'.cell? ⟨g2, i, none⟩ = some (.string t.text)) (go_keep) (first | (go_at_call 14; refine C5.out.mono ?_; clear C5; rintro e w4 ⟨rfl, HB4⟩; have q1 := (HB4.out.cell (p := ⟨g1, i, none⟩) l1).trans x1; have q2 := (HB4.out.cell (p := ⟨g2, i, none⟩) l2).trans x3))
          go_wp2
          exact ⟨⟨i, by first | rfl | go_num, by omega, HLS.out.below HB4.out⟩, by simp [intOf]⟩
theorem walk_of {H : Type} {d : DataW H} (s : ByteArray) (a0 : Option Addr) (len cap : Nat) (w : World) (hT : Lib.Utf8Tabs 1 2 w) (hlo0 : 1 < w.heap.size) (hlo1 : 2 < w.heap.size) (_hs : s.size ≤ 140737488351232) (es : List Ed) (hS : RdE w (.slice a0 len cap) es) (hu : edb es ≤ Rows.uptoBulk d ∧ ∀ x ∈ es, x.fit) (hk : Rows.uptoSmall H ([DataW.lit (.string s.data.toList), d] ++ []) = true) :
    Calls Tryz.prog 3 #[.string s, .slice a0 len cap] w fun e w' => e = .returned (.bool true) ∧ Below w.heap.size w w' := by
  have h : Rows.uptoBulkAll ([DataW.lit (H := H) (.string s.data.toList), d] ++ []) ≤ 1048576 := of_decide_eq_true hk
  simp only [List.append_nil, Rows.uptoBulkAll, Rows.uptoBulk] at h
  exact walk s _ es w hS (by rw [Lib.size_eq]; have := hu.1; omega) hu.2 ⟨hT, hlo0, hlo1⟩
end Go.Proofs.YtlonnglebknhbaaGreatDoor.ropeEdits
