/-
  The document's own pen of layer 20, laid and Places. Conditions: those of each theorem.
-/
import Derived.Maps.AppendAt
import Derived.Lib.AppendZeros
import Derived.Test.YtfjoklbiocniiaaDoorKBase
import Derived.Test.YtfjoklbiocniiaaDoorOTrm
import Derived.Lib.SmallJoins
import Derived.BigRegion
import Derived.Test.YtfjoklbiocniiaaDoorOSmf
import Derived.Test.YtfjoklbiocniiaaDoorOFit
import Derived.Test.YtfjoklbiocniiaaDoorPkY
import Derived.Test.YtfjoklbiocniiaaDoorORsm
import Derived.Test.YtfjoklbiocniiaaDoorPkYW
import Derived.Test.YtfjoklbiocniiaaDoorPkUD
import Derived.BigQuiet
namespace Go.Proofs.YtfjoklbiocniiaaDoor
open Go.RowKit Go.Shelf Bod Wid
theorem own_formO {W : World} {base c n : Nat} {e : TypeId} {v : Value} {xs : List Value} (h : W.ownsRow base e c v n xs) : ∃ a k, v = .slice a n k := by
  rcases h.2 with ⟨h0, h1⟩ | ⟨g, cap, cur, hv, _⟩
  · exact ⟨_, _, by rw [h0, h1]⟩
  · exact ⟨_, _, hv⟩
theorem own_nextO {W W' : World} {base c n : Nat} {e : TypeId} {v : Value} {xs : List Value} (h : W.ownsRow base e c v n xs) (hb : Below W.heap.size W W') : W'.ownsRow base e c v n xs :=
  ⟨h.1, h.2.imp id fun ⟨g, cap, cur, h1, h2, h3, h4⟩ => ⟨g, cap, cur, h1, h2, (hb.block g (Array.getElem?_eq_some_iff.1 h3).1).trans h3, h4⟩⟩
theorem own_farO {W W' : World} {base c n : Nat} {e : TypeId} {v : Value} {xs : List Value} {row : Option Nat} (h : W.ownsRow base e c v n xs) (hg : W.grownBy W' row) (hne : ∀ g, v.ownBlock = some g → row ≠ some g) : W'.ownsRow base e c v n xs :=
  ⟨h.1, h.2.imp id fun ⟨g, cap, cur, h1, h2, h3, h4⟩ => ⟨g, cap, cur, h1, h2, (hg.block g (Array.getElem?_eq_some_iff.1 h3).1 (fun e => hne g (by rw [h1]; rfl) e.symm)).trans h3, h4⟩⟩
theorem own_blkO {W : World} {base c n g : Nat} {e : TypeId} {v : Value} {xs : List Value} (h : W.ownsRow base e c v n xs) (hg : v.ownBlock = some g) : (∃ cur, W.heap[g]? = some (.cells cur e (0, 0))) ∧ base ≤ g ∧ g < W.heap.size := by
  rcases h.2 with ⟨h0, _⟩ | ⟨g', cap', cur, hv, hb, hgb, _⟩
  · rw [h0] at hg; cases hg
  · rw [hv] at hg; cases hg; exact ⟨⟨_, hgb⟩, hb, (Array.getElem?_eq_some_iff.1 hgb).1⟩
/-- blocks of two kinds are two blocks -/
theorem own_ty {W : World} {base c n b : Nat} {e t : TypeId} {v : Value} {xs : List Value} {cur : Array Value} (h : W.ownsRow base e c v n xs) (hb : W.heap[b]? = some (.cells cur t (0, 0))) (hne : t ≠ e) : v.ownBlock ≠ some b := fun hg => by
  obtain ⟨⟨cur', h1⟩, -⟩ := own_blkO h hg
  rw [hb] at h1
  cases h1
  exact hne rfl
/-- blocks of other kinds than the pen's stay -/
structure KT (X Y : World) : Prop where
  size : X.heap.size ≤ Y.heap.size
  keep : ∀ (k : Nat) (cs : Array Value) (t : TypeId) (fz : Nat × Nat), X.heap[k]? = some (.cells cs t fz) → t ≠ 42 → t ≠ 40 → t ≠ 51 → Y.heap[k]? = some (.cells cs t fz)
theorem KT.refl (X : World) : KT X X := ⟨Nat.le_refl _, fun _ _ _ _ h _ _ _ => h⟩
theorem KT.trans {X Y Z : World} (h : KT X Y) (h2 : KT Y Z) : KT X Z := ⟨Nat.le_trans h.size h2.size, fun k cs t fz a b c d => h2.keep k cs t fz (h.keep k cs t fz a b c d) b c d⟩
theorem KT.below {X Y : World} (h : Below X.heap.size X Y) : KT X Y := ⟨h.size, fun k _ _ _ a _ _ _ => (h.block k (Array.getElem?_eq_some_iff.1 a).1).trans a⟩
theorem KT.grown {X Y : World} {row : Option Nat} (h : X.grownBy Y row) (hr : ∀ g, row = some g → ∃ cs t fz, X.heap[g]? = some (.cells cs t fz) ∧ (t = 42 ∨ t = 40 ∨ t = 51)) : KT X Y := ⟨h.size, fun k cs t fz a b c d => (h.block k (Array.getElem?_eq_some_iff.1 a).1 (fun e => by
  obtain ⟨cs', t', fz', h1, h2⟩ := hr k e.symm
  rw [a] at h1
  cases h1
  rcases h2 with q | q | q
  · exact b q
  · exact c q
  · exact d q)).trans a⟩
/-- the document's pen at pb -/
structure Pn (B pb : Nat) (w0 : World) (pw r c : Int) (rows : List (List Cel)) (W : World) : Prop where
  lo : B ≤ pb
  bel : Below B w0 W
  kt : KT w0 W
  ex : ∃ rv vs, W.heap[pb]? = some (.cells #[.int .i64 pw, rv, .int .i64 r, .int .i64 c] 51 (0, 0)) ∧ W.ownsRow B 40 1 rv rows.length vs ∧ (∀ (i : Nat) v l, vs[i]? = some v → rows[i]? = some l → W.ownsRow B 42 2 v l.length (ccs l)) ∧ ∀ (i j : Nat) v v' g, vs[i]? = some v → vs[j]? = some v' → i ≠ j → v.ownBlock = some g → v'.ownBlock ≠ some g
theorem infoLC : (Tryd.prog.info? 40).map (fun i => (i.zero, i.size, i.bytes)) = some (some (.slice none 0 0), 1, 24) := by kernel_rfl
set_option maxRecDepth 100000 in
set_option maxHeartbeats 1000000 in
theorem rdown_any {B pb : Nat} {w0 : World} {pw r c : Int} {rows : List (List Cel)} (hr : 0 ≤ r ∧ r ≤ 4294967296) (hn : rows.length ≤ 1073741824) (W : World) (h : Pn B pb w0 pw r c rows W) :
    Calls Tryd.prog 69 #[.pointer (some ⟨pb, 0, none⟩)] W fun e W' => (∃ u, e = .returned u) ∧ Hid (Pn B pb w0 pw (r + 1) 0 (rows ++ [[]]) W') := by
  obtain ⟨i0, hi0, hz0, hz1, hz2⟩ := info_parts infoLC
  obtain ⟨hlo, hbel, hkt, rv, vs, hbox, hown, hrw, hdis⟩ := h
  have hvl : vs.length = rows.length := by have := hown.1; omega
  obtain ⟨av, kv, rfl⟩ := own_formO hown
  have hpl : pb < W.heap.size := (Array.getElem?_eq_some_iff.1 hbox).1
  have hb1 : Below W.heap.size W (W.alloc (.cells #[.slice none 0 0] 40)) := (Below.refl _ W).alloc (Nat.le_refl _) _
  have hBW := hbel.size
  have hown1 := own_nextO hown hb1
  obtain ⟨v3, w3, hrun, h2, h3, -, h5⟩ := run_append_own_at (P := Tryd.prog) (w := W.alloc (.cells #[.slice none 0 0] 40)) B 26 26 40 i0 (.slice none 0 0) 1 24 Tryd.underlying26 hi0 hz0 hz1 hz2 rfl (by omega) (.slice av rows.length kv) rows.length vs hown1 ⟨W.heap.size, 0, none⟩ 1 1 [.slice none 0 0] rfl (fun j u hu => by
    match j, hu with
    | 0, hu => obtain rfl := Option.some.inj hu; simp [Addr.add]
    | j + 1, hu => simp at hu) (by intro u hu; simp at hu; subst hu; rfl) (by unfold maxLen; omega) (by omega) (by simp; omega)
  have hne : (Value.slice av rows.length kv).ownBlock ≠ some pb := own_ty hown hbox (by decide)
  have hbox3 : w3.heap[pb]? = some (.cells #[.int .i64 pw, .slice av rows.length kv, .int .i64 r, .int .i64 c] 51 (0, 0)) := (h3.block pb (by simp; omega) (fun e => hne e.symm)).trans ((hb1.block pb hpl).trans hbox)
  obtain ⟨a3, k3, rfl⟩ := own_formO h2
  obtain ⟨⟨x0, x1, x2, x3⟩, -⟩ := box4 hbox
  obtain ⟨⟨y0, y1, y2, y3⟩, g0, g1, g2, g3⟩ := box4 hbox3
  have m1 : wrap64 (r + 1) = r + 1 := by unfold wrap64; omega
  have hG : w3.grownBy (((w3.setCell ⟨pb, 1, none⟩ (.slice a3 (rows.length + 1) k3)).setCell ⟨pb, 2, none⟩ (.int .i64 (r + 1))).setCell ⟨pb, 3, none⟩ (.int .i64 0)) (some pb) := ((gcell w3 pb 1 _).trans (gcell _ pb 2 _)).trans (gcell _ pb 3 _)
  have hs1 := set1 (i := 1) (.slice a3 (rows.length + 1) k3) hbox3
  have hs2 := set1 (i := 2) (.int .i64 (r + 1)) hs1
  have hs3 := set1 (i := 3) (.int .i64 0) hs2
  have HF : Hid (Pn B pb w0 pw (r + 1) 0 (rows ++ [[]]) (((w3.setCell ⟨pb, 1, none⟩ (.slice a3 (rows.length + 1) k3)).setCell ⟨pb, 2, none⟩ (.int .i64 (r + 1))).setCell ⟨pb, 3, none⟩ (.int .i64 0))) := by
    have hb3 : Below B w0 w3 := (hbel.alloc (by omega) _).grown h3 (by simp; omega) (fun e he => (own_blkO hown1 he).2.1)
    refine ⟨hlo, ((hb3.setCell (by show B ≤ pb; exact hlo) _).setCell (by show B ≤ pb; exact hlo) _).setCell (by show B ≤ pb; exact hlo) _, hkt.trans ((KT.below hb1).trans ((KT.grown h3 (fun g e => by obtain ⟨⟨cur, c1⟩, -⟩ := own_blkO hown1 e; exact ⟨_, _, _, c1, .inr (.inl rfl)⟩)).trans (KT.grown hG (fun g e => by cases e; exact ⟨_, _, _, hbox3, .inr (.inr rfl)⟩)))), .slice a3 (rows.length + 1) k3, vs ++ [.slice none 0 0], by simpa using hs3, ?_, ?_, ?_⟩
    · rw [List.length_append]
      exact own_farO h2 hG (fun g e1 e2 => own_ty h2 hbox3 (by decide) (by rw [e1, ← e2]))
    · intro i v l h1 h2'
      by_cases hi : i < rows.length
      · rw [List.getElem?_append_left (by omega)] at h1
        rw [List.getElem?_append_left hi] at h2'
        have q0 := own_nextO (hrw i v l h1 h2') hb1
        have q1 := own_farO q0 h3 (fun g e1 e2 => by
          obtain ⟨⟨cur, c1⟩, -⟩ := own_blkO hown1 e2
          exact own_ty q0 c1 (by decide) e1)
        exact own_farO q1 hG (fun g e1 e2 => own_ty q1 hbox3 (by decide) (by rw [e1, ← e2]))
      · have hij : i = rows.length := by have := (List.getElem?_eq_some_iff.1 h2').1; simp at this; omega
        subst hij
        rw [List.getElem?_append_right (by omega), hvl, Nat.sub_self] at h1
        rw [List.getElem?_append_right (by omega), Nat.sub_self] at h2'
        obtain rfl : Value.slice none 0 0 = v := by simpa using h1
        obtain rfl : [] = l := by simpa using h2'
        exact World.ownsRow_nil _ _ _ _
    · intro i j v v' g h1 h2' hij hg hg'
      by_cases hi : i < vs.length
      · by_cases hj : j < vs.length
        · rw [List.getElem?_append_left hi] at h1
          rw [List.getElem?_append_left hj] at h2'
          exact hdis i j v v' g h1 h2' hij hg hg'
        · rw [List.getElem?_append_right (by omega)] at h2'
          obtain rfl : Value.slice none 0 0 = v' := by
            have hlt := (List.getElem?_eq_some_iff.1 h2').1
            simp at hlt
            rw [hlt] at h2'
            simpa using h2'
          cases hg'
      · rw [List.getElem?_append_right (by omega)] at h1
        obtain rfl : Value.slice none 0 0 = v := by
          have hlt := (List.getElem?_eq_some_iff.1 h1).1
          simp at hlt
          rw [hlt] at h1
          simpa using h1
        cases hg
  clear hs1 hs2 hs3 hG hbox hbox3 h2 h3 h5 hown hown1 hrw hdis hne hb1 hvl hbel hkt hlo hBW
  go_enter Tryd.func69, Tryd.ntmps69
  go_wp2_with (at_builtin; refine Lib.wpList_append_run _ rfl _ _ 26 26 rfl _ _ rfl rfl _ w3 hrun ?_; clear hrun)
  go_end0
  exact ⟨⟨_, rfl⟩, HF⟩
end Go.Proofs.YtfjoklbiocniiaaDoor
namespace Go.Proofs.YtfjoklbiocniiaaDoor
open Go.RowKit Go.Shelf Bod Wid
theorem row_putO {W : World} {base n c g i : Nat} {e : TypeId} {u : Value} {xs : List Value} (h : W.ownsRow base e 1 (.slice (some ⟨g, 0, none⟩) n c) n xs) : (W.setCell ⟨g, i, none⟩ u).ownsRow base e 1 (.slice (some ⟨g, 0, none⟩) n c) n (xs.set i u) := by
  obtain ⟨hl, h⟩ := h
  refine ⟨by rw [List.length_set]; exact hl, ?_⟩
  rcases h with ⟨h1, _⟩ | ⟨g', cap, cur, h1, h2, h3, h4, h5, h6, h7⟩
  · cases h1
  · obtain ⟨e, _, rfl⟩ := Value.slice.inj h1
    cases e
    refine .inr ⟨g, c, _, rfl, h2, set1 _ h3, h4, h5, by simpa using h6, ?_⟩
    rw [← h7, Array.toList_setIfInBounds, List.take_set]
/-- the last row gets one cell more: what the pen is then, the place apart -/
theorem Pn.lay {B pb : Nat} {w0 : World} {pw r c : Int} {rs : List (List Cel)} {l : List Cel} {W : World} (h : Pn B pb w0 pw r c (rs ++ [l]) W) (x : Cel) (hl : l.length ≤ 4294967296) :
    ∃ (g kc : Nat) (v : Value) (kv : Option Addr × Nat), v = .slice kv.1 l.length kv.2 ∧ g ≠ pb ∧ W.heap[pb]? = some (.cells #[.int .i64 pw, .slice (some ⟨g, 0, none⟩) (rs.length + 1) kc, .int .i64 r, .int .i64 c] 51 (0, 0)) ∧ W.cell? ⟨g, rs.length, none⟩ = some v ∧ W.frozen? ⟨g, rs.length, none⟩ = false ∧
      ∃ v3 w3, (Builtin.append_ #[40, 40] 40 #[v, .slice (some ⟨W.heap.size, 0, none⟩) 1 1]).run Tryd.prog (W.alloc (.cells #[.string x.tx, .int .i64 x.sp] 42)) = .ok v3 w3 ∧ (∃ a k, v3 = .slice a (l.length + 1) k) ∧
        w3.heap[pb]? = some (.cells #[.int .i64 pw, .slice (some ⟨g, 0, none⟩) (rs.length + 1) kc, .int .i64 r, .int .i64 c] 51 (0, 0)) ∧ w3.cell? ⟨g, rs.length, none⟩ = some v ∧ w3.frozen? ⟨g, rs.length, none⟩ = false ∧ W.heap.size ≤ w3.heap.size ∧
        ∀ (c' : Int) Y, Below w3.heap.size w3 Y → Pn B pb w0 pw r c' (rs ++ [l ++ [x]]) ((Y.setCell ⟨g, rs.length, none⟩ v3).setCell ⟨pb, 3, none⟩ (.int .i64 c')) := by
  obtain ⟨i0, hi0, hz0, hz1, hz2⟩ := info_parts infoCE
  obtain ⟨hlo, hbel, hkt, rv, vs, hbox, hown, hrw, hdis⟩ := h
  rw [show (rs ++ [l]).length = rs.length + 1 by simp] at hown
  have hvl : vs.length = rs.length + 1 := by have := hown.1; simpa using this
  obtain ⟨g, kc, rfl⟩ : ∃ g kc, rv = .slice (some ⟨g, 0, none⟩) (rs.length + 1) kc := by
    rcases hown.2 with ⟨_, h0⟩ | ⟨g, cap, _, hv, _⟩
    · simp at h0
    · exact ⟨g, cap, hv⟩
  obtain ⟨v, hv⟩ : ∃ v, vs[rs.length]? = some v := ⟨vs[rs.length]'(by omega), List.getElem?_eq_getElem _⟩
  have hvr := hrw rs.length v l hv (by simp)
  obtain ⟨av, kv, rfl⟩ := own_formO hvr
  have hgo := hown
  have hpl : pb < W.heap.size := (Array.getElem?_eq_some_iff.1 hbox).1
  have hgb := own_blkO hown (g := g) rfl
  have hcell : W.cell? ⟨g, rs.length, none⟩ = some (.slice av l.length kv) := (hown.cellAt rs.length (by simp)).trans hv
  have hfr : W.frozen? ⟨g, rs.length, none⟩ = false := by obtain ⟨⟨cur, hc⟩, -⟩ := hgb; simp [World.frozen?, hc]
  have hb1 : Below W.heap.size W (W.alloc (.cells #[.string x.tx, .int .i64 x.sp] 42)) := (Below.refl _ W).alloc (Nat.le_refl _) _
  have hBW := hbel.size
  have hvr1 := own_nextO hvr hb1
  obtain ⟨v3, w3, hrun, h2, h3, -, h5⟩ := run_append_own_at (P := Tryd.prog) (w := W.alloc (.cells #[.string x.tx, .int .i64 x.sp] 42)) B 40 40 42 i0 (.agg #[.string ⟨#[]⟩, .int .i64 0]) 2 24 Tryd.underlying40 hi0 hz0 hz1 hz2 rfl (by omega) (.slice av l.length kv) l.length (ccs l) hvr1 ⟨W.heap.size, 0, none⟩ 1 1 [.string x.tx, .int .i64 x.sp] rfl (fun j u hu => by
    match j, hu with
    | 0, hu => obtain rfl := Option.some.inj hu; simp [Addr.add]
    | 1, hu => obtain rfl := Option.some.inj hu; simp [Addr.add]
    | j + 2, hu => simp at hu) (by intro u hu; simp at hu; rcases hu with rfl | rfl <;> rfl) (by unfold maxLen; omega) (by omega) (by simp; omega)
  have hne1 : (Value.slice av l.length kv).ownBlock ≠ some pb := own_ty hvr hbox (by decide)
  have hne2 : (Value.slice av l.length kv).ownBlock ≠ some g := by obtain ⟨⟨cur, hc⟩, -⟩ := hgb; exact own_ty hvr hc (by decide)
  have hgp : g ≠ pb := fun e => own_ty hown hbox (by decide) (by rw [← e]; rfl)
  have k0 : ∀ b, b < W.heap.size → (Value.slice av l.length kv).ownBlock ≠ some b → w3.heap[b]? = W.heap[b]? := fun b hb hn => (h3.block b (by simp; omega) (fun e => hn e.symm)).trans (hb1.block b hb)
  have hbox3 := (k0 pb hpl hne1).trans hbox
  have hg3 := k0 g hgb.2.2 hne2
  have hsz3 : W.heap.size ≤ w3.heap.size := Nat.le_trans hb1.size h3.size
  refine ⟨g, kc, _, (av, kv), rfl, hgp, hbox, hcell, hfr, v3, w3, hrun, own_formO h2, hbox3, (World.cell?_of_block hg3).trans hcell, (World.frozen?_of_block (a := ⟨g, rs.length, none⟩) hg3).trans hfr, hsz3, fun c' Y hY => ?_⟩
  have hbY := (hY.block pb (Nat.lt_of_lt_of_le hpl hsz3)).trans hbox3
  have hrvY : Y.ownsRow B 40 1 (.slice (some ⟨g, 0, none⟩) (rs.length + 1) kc) (rs.length + 1) vs := own_nextO (own_farO (own_nextO hown hb1) h3 (fun b e1 e2 => by cases e1; exact hne2 e2)) hY
  have hG1 : Y.grownBy (Y.setCell ⟨g, rs.length, none⟩ v3) (some g) := gcell Y g _ _
  have hG2 := gcell (Y.setCell ⟨g, rs.length, none⟩ v3) pb 3 (.int .i64 c')
  have hb5 := set1 (i := 3) (.int .i64 c') ((hG1.block pb (by have := hY.size; omega) (fun e => hgp (Option.some.inj e).symm)).trans hbY)
  have hbel3 : Below B w0 w3 := (hbel.alloc (by omega) _).grown h3 (by simp; omega) (fun e he => (own_blkO hvr1 he).2.1)
  -- a row that is another one stays
  have stay : ∀ {n : Nat} {z : Value} {xs : List Value}, Y.ownsRow B 42 2 z n xs → ((Y.setCell ⟨g, rs.length, none⟩ v3).setCell ⟨pb, 3, none⟩ (.int .i64 c')).ownsRow B 42 2 z n xs := fun hz => by
    obtain ⟨⟨cur, hc⟩, -⟩ := own_blkO hrvY (g := g) rfl
    have q1 := own_farO hz hG1 (fun b e1 e2 => own_ty hz hc (by decide) (by rw [e1, ← e2]))
    exact own_farO q1 hG2 (fun b e1 e2 => own_ty hz hbY (by decide) (by rw [e1, ← e2]))
  refine ⟨hlo, ((hbel3.trans (hY.mono (by have := hgb.2; omega))).setCell (by show B ≤ g; exact hgb.2.1) _).setCell (by show B ≤ pb; exact hlo) _, hkt.trans ((KT.below hb1).trans ((KT.grown h3 (fun b e => by obtain ⟨⟨cur, c1⟩, -⟩ := own_blkO hvr1 e; exact ⟨_, _, _, c1, .inl rfl⟩)).trans ((KT.below hY).trans ((KT.grown hG1 (fun b e => by cases e; obtain ⟨⟨cur, c1⟩, -⟩ := own_blkO hrvY (g := g) rfl; exact ⟨_, _, _, c1, .inr (.inl rfl)⟩)).trans (KT.grown hG2 (fun b e => by cases e; exact ⟨_, _, _, (hG1.block pb (by have := hY.size; omega) (fun e => hgp (Option.some.inj e).symm)).trans hbY, .inr (.inr rfl)⟩)))))), _, vs.set rs.length v3, by simpa using hb5, ?_, ?_, ?_⟩
  · rw [List.length_append]
    exact own_farO (row_putO hrvY) hG2 (fun b e1 e2 => by cases e1; exact hgp (Option.some.inj e2).symm)
  · intro i z l' h1 h2'
    by_cases hi : i < rs.length
    · rw [List.getElem?_append_left hi] at h2'
      rw [List.getElem?_set_ne (by omega)] at h1
      have q0 := hrw i z l' h1 (by rw [List.getElem?_append_left hi]; exact h2')
      exact stay (own_nextO (own_farO (own_nextO q0 hb1) h3 (fun b e1 e2 => hdis i rs.length z _ b h1 hv (by omega) e1 e2)) hY)
    · have hij : i = rs.length := by have := (List.getElem?_eq_some_iff.1 h2').1; simp at this; omega
      subst hij
      rw [List.getElem?_append_right (by omega), Nat.sub_self] at h2'
      rw [List.getElem?_set_self (by omega)] at h1
      obtain rfl := Option.some.inj h1
      obtain rfl : l ++ [x] = l' := by simpa using h2'
      rw [ccs_app, List.length_append]
      exact stay (own_nextO h2 hY)
  · intro i j z z' b h1 h2' hij hb hb'
    have old : ∀ (k : Nat) (z : Value), k ≠ rs.length → (vs.set rs.length v3)[k]? = some z → vs[k]? = some z := fun k z hk h => by rwa [List.getElem?_set_ne (by omega)] at h
    have new : ∀ (z : Value), (vs.set rs.length v3)[rs.length]? = some z → z = v3 := fun z h => by rw [List.getElem?_set_self (by omega)] at h; exact (Option.some.inj h).symm
    have lt : ∀ (k : Nat) (z : Value), vs[k]? = some z → z.ownBlock = some b → b < W.heap.size := fun k z hk hb => by
      have hkl := (List.getElem?_eq_some_iff.1 hk).1
      exact (own_blkO (hrw k z _ hk (List.getElem?_eq_getElem (by simp; omega))) hb).2.2
    by_cases hi : i = rs.length
    · subst hi
      obtain rfl := new z h1
      have q := old j z' (by omega) h2'
      rcases h5 with h5 | h5
      · exact hdis rs.length j _ z' b hv q hij (h5 ▸ hb) hb'
      · rw [h5] at hb
        have := lt j z' q hb'
        have hbe := Option.some.inj hb
        simp at hbe
        omega
    · have q := old i z hi h1
      by_cases hj : j = rs.length
      · subst hj
        obtain rfl := new z' h2'
        rcases h5 with h5 | h5
        · exact hdis i rs.length z _ b q hv hij hb (h5 ▸ hb')
        · rw [h5] at hb'
          have := lt i z q hb
          have hbe := Option.some.inj hb'
          simp at hbe
          omega
      · exact hdis i j z z' b q (old j z' hj h2') hij hb hb'
theorem cell_rgN {W : World} {p : Addr} {v : Value} (h : W.cell? p = some v) : ∀ d os, (Go.Sort.grow (redrawn W d) os).cell? p = some v := fun d os => ((below_regrown W d os).cell (p := p) (World.block_lt_of_cell? W p h)).trans h
theorem Pn.next {B pb : Nat} {w0 : World} {pw r c : Int} {rows : List (List Cel)} {W Y : World} (h : Pn B pb w0 pw r c rows W) (hY : Below W.heap.size W Y) : Pn B pb w0 pw r c rows Y := by
  obtain ⟨hlo, hbel, hkt, rv, vs, hbox, hown, hrw, hdis⟩ := h
  have hpl : pb < W.heap.size := (Array.getElem?_eq_some_iff.1 hbox).1
  exact ⟨hlo, hbel.trans (hY.mono (by omega)), hkt.trans (KT.below hY), rv, vs, (hY.block pb hpl).trans hbox, own_nextO hown hY, fun i v l h1 h2 => own_nextO (hrw i v l h1 h2) hY, hdis⟩
set_option maxRecDepth 100000 in
set_option maxHeartbeats 2000000 in
theorem rcell_any {B pb : Nat} {w0 : World} {pw c : Int} {rs : List (List Cel)} {l : List Cel} (x : Cel) (hc : 0 ≤ c ∧ c ≤ 4294967296) (hn : rs.length ≤ 536870912) (hl : l.length ≤ 4294967296) (W : World) (h : Pn B pb w0 pw rs.length c (rs ++ [l]) W) :
    Calls Tryd.prog 70 #[.pointer (some ⟨pb, 0, none⟩), .agg #[.string x.tx, .int .i64 x.sp]] W fun e W' => (∃ u, e = .returned u) ∧ Hid (if c + 1 = pw then Pn B pb w0 pw (rs.length + 1) 0 (rs ++ [l ++ [x]] ++ [[]]) W' else Pn B pb w0 pw rs.length (c + 1) (rs ++ [l ++ [x]]) W') := by
  have HM : Hid (Tryd.prog.follows .mixedOrders = true) := by show _ = _; kernel_rfl
  have HW1 : Hid (Below W.heap.size W (W.alloc (.cells #[.string x.tx, .int .i64 x.sp] 42)) ∧ (W.alloc (.cells #[.string x.tx, .int .i64 x.sp] 42)).heap[W.heap.size]? = some (.cells #[.string x.tx, .int .i64 x.sp] 42 (0, 0))) := ⟨(Below.refl _ W).alloc (Nat.le_refl _) _, World.alloc_heap_new _ _⟩
  obtain ⟨g, kc, v, kv, rfl, hgp, hbox, hcell, hfr, -⟩ := Pn.lay (h.next HW1.out.1) x hl
  have H : Hid (∀ Y, Below W.heap.size W Y → Pn B pb w0 pw rs.length c (rs ++ [l]) Y) := fun Y hY => h.next hY
  have HD : Hid (∀ Y, Pn B pb w0 pw rs.length (c + 1) (rs ++ [l ++ [x]]) Y → Calls Tryd.prog 69 #[.pointer (some ⟨pb, 0, none⟩)] Y fun e W' => (∃ u, e = .returned u) ∧ Hid (Pn B pb w0 pw (rs.length + 1) 0 (rs ++ [l ++ [x]] ++ [[]]) W')) := fun Y hY => rdown_any (by omega) (by simp; omega) Y hY
  obtain ⟨⟨x0, x1, x2, x3⟩, -⟩ := box4 hbox
  have q1 := cell_rgN x1
  have q2 := cell_rgN x2
  have q4 := cell_rgN hcell
  have HF0 : Hid (∀ dq osq, Below (W.alloc (.cells #[.string x.tx, .int .i64 x.sp] 42)).heap.size (W.alloc (.cells #[.string x.tx, .int .i64 x.sp] 42)) (Go.Sort.grow (redrawn (W.alloc (.cells #[.string x.tx, .int .i64 x.sp] 42)) dq) osq)) := fun dq osq => below_regrown _ dq osq
  have b1 : (rs.length : Int) < ((rs.length + 1 : Nat) : Int) := by omega
  have b2 : rs.length < rs.length + 1 := by omega
  have b3 : (0 : Int) ≤ (rs.length : Int) := by omega
  have HOLD : Hid ((W.alloc (.cells #[.string x.tx, .int .i64 x.sp] 42)).heap[pb]? = some (.cells #[.int .i64 pw, .slice (some ⟨g, 0, none⟩) (rs.length + 1) kc, .int .i64 rs.length, .int .i64 c] 51 (0, 0)) ∧ (W.alloc (.cells #[.string x.tx, .int .i64 x.sp] 42)).cell? ⟨g, rs.length, none⟩ = some (.slice kv.1 l.length kv.2)) := ⟨hbox, hcell⟩
  clear h hbox hcell hfr x0 x1 x2 x3
  go_enter Tryd.func70, Tryd.ntmps70
  go_wp2
  refine wp_region_quiet_below HM.out (by kernel_rfl) ?_
  repeat (go_big_quiet_step (fail))
  refine wpQuiet_nil ?_
  intro _ hw'
  obtain ⟨⟨dq, osq⟩, hw''⟩ := hw'
  subst hw''
  have HF1 : Hid (Below _ _ _) := HF0.out dq osq
  dsimp only
  generalize Go.Sort.grow (redrawn (W.alloc (.cells #[.string x.tx, .int .i64 x.sp] 42)) dq) osq = wz at HF1 ⊢
  clear q1 q2 q4 HF0
  have HWz : Hid (Below W.heap.size W wz) := HW1.out.1.trans (HF1.out.mono HW1.out.1.size)
  obtain ⟨c0, c1⟩ : wz.cell? ⟨W.heap.size, 0, none⟩ = some (.string x.tx) ∧ wz.cell? ⟨W.heap.size, 1, none⟩ = some (.int .i64 x.sp) := by
    have e := (HF1.out.block W.heap.size (Array.getElem?_eq_some_iff.1 HW1.out.2).1).trans HW1.out.2
    simp [World.cell?, e]
  obtain ⟨g', kc', v', kv', e1, hgp', hbox', hcell', hfr', v3, w3, hrun, ⟨a3, k3, rfl⟩, hbox3, hcell3, hfr3, hsz3, hfin⟩ := Pn.lay (H.out wz HWz.out) x hl
  subst e1
  have o1 := (HF1.out.block pb (Array.getElem?_eq_some_iff.1 HOLD.out.1).1).trans HOLD.out.1
  have o2 := (HF1.out.cell (p := ⟨g, rs.length, none⟩) (World.block_lt_of_cell? _ _ HOLD.out.2)).trans HOLD.out.2
  rw [hbox'] at o1
  obtain ⟨rfl, rfl⟩ : g' = g ∧ kc' = kc := by simpa using o1
  rw [hcell'] at o2
  have o3 := Option.some.inj o2
  rw [o3] at hrun hcell3
  obtain ⟨⟨y0, y1, y2, y3⟩, f0, f1, f2, f3⟩ := box4 hbox3
  have HFI : Hid (∀ (c' : Int) Y, Below w3.heap.size w3 Y → Pn B pb w0 pw rs.length c' (rs ++ [l ++ [x]]) ((Y.setCell ⟨g', rs.length, none⟩ (.slice a3 (l.length + 1) k3)).setCell ⟨pb, 3, none⟩ (.int .i64 c'))) := fun c' Y hY => hfin c' Y hY
  have HB3 : Hid (w3.heap[pb]? = some (.cells #[.int .i64 pw, .slice (some ⟨g', 0, none⟩) (rs.length + 1) kc', .int .i64 rs.length, .int .i64 c] 51 (0, 0)) ∧ g' ≠ pb) := ⟨hbox3, hgp⟩
  clear o1 o2 o3 hbox' hcell' hfr' hfin hbox3 HOLD hgp' hgp hsz3 y0 y3 f0 f1 f2 f3
  generalize kv.1 = kva at hrun hcell3 ⊢
  generalize kv.2 = kvb at hrun hcell3 ⊢
  go_wp2_with (at_builtin; refine Lib.wpList_append_run _ rfl _ _ 40 40 rfl _ _ rfl rfl _ w3 hrun ?_; clear hrun c0 c1)
  go_region
  have hb4 : (w3.setCell ⟨g', rs.length, none⟩ (.slice a3 (l.length + 1) k3)).drew.heap[pb]? = some (.cells #[.int .i64 pw, .slice (some ⟨g', 0, none⟩) (rs.length + 1) kc', .int .i64 rs.length, .int .i64 c] 51 (0, 0)) := ((gcell w3 g' rs.length (.slice a3 (l.length + 1) k3)).block pb (Array.getElem?_eq_some_iff.1 HB3.out.1).1 (fun e => HB3.out.2 (Option.some.inj e).symm)).trans HB3.out.1
  have HP : Hid (∀ c', Pn B pb w0 pw rs.length c' (rs ++ [l ++ [x]]) ((w3.setCell ⟨g', rs.length, none⟩ (.slice a3 (l.length + 1) k3)).drew.setCell ⟨pb, 3, none⟩ (.int .i64 c'))) := fun c' => HFI.out c' w3.drew ((Below.refl _ w3).drew)
  clear HFI HB3 y1 y2 hcell3 hfr3
  generalize (w3.setCell ⟨g', rs.length, none⟩ (.slice a3 (l.length + 1) k3)).drew = wy at hb4 HP ⊢
  have hb5 := set1 (i := 3) (.int .i64 (c + 1)) hb4
  have hb6 : (wy.setCell ⟨pb, 3, none⟩ (.int .i64 (c + 1))).heap[pb]? = some (.cells #[.int .i64 pw, .slice (some ⟨g', 0, none⟩) (rs.length + 1) kc', .int .i64 rs.length, .int .i64 (c + 1)] 51 (0, 0)) := by simpa using hb5
  obtain ⟨⟨y0, y1, y2, y3⟩, f0, f1, f2, f3⟩ := box4 hb4
  obtain ⟨⟨t0, t1, t2, t3⟩, -⟩ := box4 hb6
  have m1 : wrap64 (c + 1) = c + 1 := by unfold wrap64; omega
  have HP1 : Hid (Pn B pb w0 pw rs.length (c + 1) (rs ++ [l ++ [x]]) (wy.setCell ⟨pb, 3, none⟩ (.int .i64 (c + 1)))) := HP.out (c + 1)
  clear hb4 hb5 hb6 HP y0 y1 y2 f0 f1 f2 t1 t2
  go_wp2
  have q0 := cell_rgN t0
  have q3 := cell_rgN t3
  have HF0 : Hid (∀ dq osq, Pn B pb w0 pw rs.length (c + 1) (rs ++ [l ++ [x]]) (Go.Sort.grow (redrawn (wy.setCell ⟨pb, 3, none⟩ (.int .i64 (c + 1))) dq) osq)) := fun dq osq => HP1.out.next (below_regrown _ dq osq)
  clear t0 t3 y3 f3 HP1
  generalize wy.setCell ⟨pb, 3, none⟩ (.int .i64 (c + 1)) = wx at q0 q3 HF0 ⊢
  refine wp_region_quiet_below HM.out (by kernel_rfl) ?_
  repeat (go_big_quiet_step (fail))
  refine wpQuiet_nil ?_
  intro _ hw'
  obtain ⟨⟨dr, osr⟩, hw''⟩ := hw'
  subst hw''
  have HF : Hid (Pn B pb w0 pw rs.length (c + 1) (rs ++ [l ++ [x]]) _) := HF0.out dr osr
  dsimp only
  generalize Go.Sort.grow (redrawn wx dr) osr = wv at HF ⊢
  clear q0 q3 HF0
  by_cases hcp : c + 1 = pw
  · have hcb : (c + 1 == pw) = true := by simp [hcp]
    have HE : Hid (∀ Y, Pn B pb w0 pw (rs.length + 1) 0 (rs ++ [l ++ [x]] ++ [[]]) Y → Pn B pb w0 pw (rs.length + 1) 0 (rs ++ [l ++ [x], []]) Y) := fun Y hY => by simpa using hY
    go_wp2_with (go_at_call 69; refine (HD.out _ HF.out).mono ?_; rintro e wu ⟨⟨u, rfl⟩, HU⟩)
    go_end0
    exact ⟨⟨_, rfl⟩, HE.out _ HU.out⟩
  · have hcb : (c + 1 == pw) = false := by simp [hcp]
    go_wp2
    go_end0
    exact ⟨⟨_, rfl⟩, HF⟩
end Go.Proofs.YtfjoklbiocniiaaDoor
namespace Go.Proofs.YtfjoklbiocniiaaDoor
open Go.RowKit Go.Shelf Bod Wid
/-- the document's pen, in the plain state st -/
def Ps (B pb : Nat) (w0 : World) (W : Nat) (st : Lst) (X : World) : Prop := Pn B pb w0 (W : Int) st.rows.length st.col st.all X
theorem Ps.next {B pb : Nat} {w0 : World} {W : Nat} {st : Lst} {X Y : World} (h : Ps B pb w0 W st X) (hY : Below X.heap.size X Y) : Ps B pb w0 W st Y := Pn.next h hY
theorem Ps.box {B pb : Nat} {w0 : World} {W : Nat} {st : Lst} {X : World} (h : Ps B pb w0 W st X) : ∃ rv, X.heap[pb]? = some (.cells #[.int .i64 (W : Int), rv, .int .i64 (st.rows.length : Int), .int .i64 (st.col : Int)] 51 (0, 0)) := by
  obtain ⟨-, -, -, rv, vs, hb, -⟩ := h
  exact ⟨rv, hb⟩
/-- .. with the world it stands in as the first -/
theorem Ps.base {B pb : Nat} {w0 : World} {W : Nat} {st : Lst} {X : World} (h : Ps B pb w0 W st X) : Ps B pb X W st X := ⟨h.lo, Below.refl _ _, KT.refl _, h.ex⟩
theorem Ps.from {B pb : Nat} {w0 X Y : World} {W : Nat} {st st' : Lst} (h : Ps B pb w0 W st X) (h2 : Ps B pb X W st' Y) : Ps B pb w0 W st' Y := ⟨h2.lo, (Pn.bel h).trans h2.bel, (Pn.kt h).trans (Pn.kt h2), h2.ex⟩
theorem Ps.bel {B pb : Nat} {w0 : World} {W : Nat} {st : Lst} {X : World} (h : Ps B pb w0 W st X) : Below B w0 X := Pn.bel h
/-- one cell more -/
def onC (W : Nat) (st : Lst) (x : Cel) : Lst := fulS W ⟨st.rows, st.cur ++ [x], st.col + 1⟩
theorem pdown {B pb : Nat} {w0 : World} {W : Nat} {st : Lst} (hr : st.rows.length ≤ 536870912) (X : World) (h : Ps B pb w0 W st X) :
    Calls Tryd.prog 69 #[.pointer (some ⟨pb, 0, none⟩)] X fun e Y => (∃ u, e = .returned u) ∧ Hid (Ps B pb X W (dwn st) Y) :=
  (rdown_any (by omega) (by rw [Lst.all_len]; show st.rows.length + 1 ≤ _; omega) X h.base).mono fun e Y ⟨h1, h2⟩ => ⟨h1, by
    have h2 := h2.out
    show Pn B pb X (W : Int) ((dwn st).rows.length : Nat) ((0 : Nat) : Int) ((dwn st).rows ++ [[]]) Y
    have e1 : (((dwn st).rows.length : Nat) : Int) = (st.rows.length : Int) + 1 := by simp [dwn]
    rw [e1]
    exact h2⟩
theorem pcell {B pb : Nat} {w0 : World} {W : Nat} {st : Lst} (x : Cel) (hst : st.Ok W) (hW : W ≤ 65535) (hr : st.rows.length ≤ 536870912) (X : World) (h : Ps B pb w0 W st X) :
    Calls Tryd.prog 70 #[.pointer (some ⟨pb, 0, none⟩), .agg #[.string x.tx, .int .i64 x.sp]] X fun e Y => (∃ u, e = .returned u) ∧ Hid (Ps B pb X W (onC W st x) Y) :=
  (rcell_any x ⟨by omega, by have := hst.lt; omega⟩ hr (by have := hst.lt; have := hst.len; omega) X h.base).mono fun e Y ⟨h1, h2⟩ => ⟨h1, by
    have h2 := h2.out
    show Ps B pb X W (onC W st x) Y
    unfold onC fulS
    by_cases hc : st.col + 1 = W
    · rw [if_pos hc]
      rw [if_pos (by omega)] at h2
      show Pn B pb X (W : Int) (((st.rows ++ [st.cur ++ [x]]).length : Nat) : Int) ((0 : Nat) : Int) ((st.rows ++ [st.cur ++ [x]]) ++ [[]]) Y
      have e1 : (((st.rows ++ [st.cur ++ [x]]).length : Nat) : Int) = (st.rows.length : Int) + 1 := by simp
      rw [e1]
      exact h2
    · rw [if_neg hc]
      rw [if_neg (by omega)] at h2
      exact h2⟩
/-- what is drawn for two cells that is not wide begins with one byte -/
theorem dr_ctl {s : ByteArray} {c : Clu} (hc : c ∈ cl s) (hn : c.n = 2) (hk : c.k ≠ 4) : ∃ x, drC s c = ⟨#[94, x]⟩ := by
  have hk2 : c.k = 2 := by rcases two_k hc hn with e | e; exact absurd e hk; exact e
  have hg := piece_good hc
  have hsp := cl_span hc
  obtain ⟨x, r, hx⟩ : ∃ x r, sub s c.fr c.to = x :: r := by
    cases e : sub s c.fr c.to with
    | nil => have := sub_len (s := s) (i := c.fr) hsp.2; rw [e] at this; simp at this; omega
    | cons x r => exact ⟨x, r, rfl⟩
  have hlt : x.toNat < 128 := by
    by_cases h : x.toNat < 128
    · exact h
    · have := hg.sum
      rw [hx] at this
      unfold drw at this
      simp only [hk2, h, if_false] at this
      have e : sumN (cl (⟨#[239, 191, 189]⟩ : ByteArray)) = 1 := by decide +kernel
      simp at this
      rw [hn] at this
      rw [e] at this
      cases this
  refine ⟨x ^^^ 64, ?_⟩
  unfold drC
  rw [hx]
  unfold drw
  simp [hk2, hlt]
theorem fits_one {W : Nat} {st : Lst} (h : st.Ok W) : fitS W 1 st = st := by
  unfold fitS
  rw [if_neg (by have := h.lt; omega)]
theorem stp_one {W : Nat} {st : Lst} {u : Cu} (hst : st.Ok W) (hn : u.n = 1) : stpL W st u = onC W st ⟨u.dr, 1⟩ := by
  have hW := hst.lt
  unfold stpL onC
  rw [if_neg (by omega), hn]
  simp only
  rw [show min 1 W = 1 by omega, fits_one hst]
  unfold putC
  rw [if_neg (by omega), if_pos hn]
theorem stp_slim {st : Lst} {u : Cu} (hst : st.Ok 1) (hn : u.n = 2) : stpL 1 st u = onC 1 st ⟨fffd, 1⟩ := by
  unfold stpL onC
  rw [if_neg (by omega), hn]
  simp only
  rw [show min 2 1 = 1 by omega, fits_one hst]
  unfold putC
  rw [if_neg (by omega), if_neg (by omega), if_pos rfl]
theorem stp_two {W : Nat} {st : Lst} {u : Cu} (hst : st.Ok W) (hW : 2 ≤ W) (hn : u.n = 2) : stpL W st u = onC W (onC W (if st.col = W - 1 then dwn st else st) (if u.wide then ⟨u.dr, 2⟩ else ⟨u.dr.extract 0 1, 1⟩)) (if u.wide then ⟨⟨#[]⟩, 0⟩ else ⟨u.dr.extract 1 u.dr.size, 1⟩) := by
  have hlt := hst.lt
  have e : fitS W 2 st = if st.col = W - 1 then dwn st else st := by
    unfold fitS
    by_cases h : st.col = W - 1
    · rw [if_pos h, if_pos (by omega)]
    · rw [if_neg h, if_neg (by omega)]
  have hc : (if st.col = W - 1 then dwn st else st).col + 2 ≤ W := by
    split
    · show 0 + 2 ≤ W; omega
    · omega
  unfold stpL
  rw [if_neg (by omega), hn]
  simp only
  rw [show min 2 W = 2 by omega, e]
  generalize (if st.col = W - 1 then dwn st else st) = t at hc
  have e1 : ∀ x, onC W t x = ⟨t.rows, t.cur ++ [x], t.col + 1⟩ := fun x => by
    unfold onC fulS
    rw [if_neg (by simp only; omega)]
  rw [e1]
  unfold onC putC
  rw [if_neg (by omega), if_neg (by omega), if_neg (by omega)]
  cases u.wide <;> simp
theorem two_ok {W : Nat} {st : Lst} (hst : st.Ok W) (hW : 2 ≤ W) : (if st.col = W - 1 then dwn st else st).Ok W ∧ ∀ x, (onC W (if st.col = W - 1 then dwn st else st) x).Ok W ∧ (onC W (if st.col = W - 1 then dwn st else st) x).rows.length ≤ st.rows.length + 1 := by
  have hlt := hst.lt
  have h0 : (if st.col = W - 1 then dwn st else st).Ok W := by split; exact dwn_ok (by omega) st; exact hst
  have hc : (if st.col = W - 1 then dwn st else st).col + 2 ≤ W := by
    split
    · show 0 + 2 ≤ W; omega
    · omega
  have hr : (if st.col = W - 1 then dwn st else st).rows.length ≤ st.rows.length + 1 := by
    split
    · simp [dwn]
    · omega
  refine ⟨h0, fun x => ?_⟩
  generalize (if st.col = W - 1 then dwn st else st) = t at h0 hc hr
  have e1 : onC W t x = ⟨t.rows, t.cur ++ [x], t.col + 1⟩ := by
    unfold onC fulS
    rw [if_neg (by simp only; omega)]
  rw [e1]
  exact ⟨⟨by show t.col + 1 < W; omega, by simp [h0.len]⟩, hr⟩
set_option maxRecDepth 100000 in
set_option maxHeartbeats 2000000 in
theorem pclu_small {B pb : Nat} {w0 : World} {W : Nat} {st : Lst} {s : ByteArray} {cc : Clu} (hcc : cc ∈ cl s) (hs : cc.n = 0 ∨ cc.n = 1 ∨ W = 1) (hst : st.Ok W) (hW : W ≤ 65535) (hr : st.rows.length ≤ 268435456) (X : World) (h : Ps B pb w0 W st X) :
    Calls Tryd.prog 58 #[.pointer (some ⟨pb, 0, none⟩), .agg #[.int .i64 (cc.fr : Int), .int .i64 (cc.to : Int), .int .i64 cc.k, .int .i64 cc.n], .string (drC s cc)] X fun e Y => (∃ u, e = .returned u) ∧ Hid (Ps B pb X W (stpL W st (cuOf s cc)) Y) := by
  have hb0 : Below X.heap.size X (X.alloc (.cells #[.int .i64 (cc.fr : Int), .int .i64 (cc.to : Int), .int .i64 cc.k, .int .i64 cc.n] 56)) := (Below.refl _ X).alloc (Nat.le_refl _) _
  have h1 := h.base.next hb0
  obtain ⟨hn2, hn⟩ := cuOf_n hcc
  have hdr : (cuOf s cc).dr = drC s cc := rfl
  obtain ⟨rv, hbox⟩ := h1.box
  obtain ⟨⟨x0, x1, x2, x3⟩, -⟩ := box4 hbox
  have hW1 := hst.lt
  by_cases e0 : cc.n = 0
  · have hstp : stpL W st (cuOf s cc) = dwn st := by unfold stpL; rw [if_pos (by omega)]
    have HD : Hid (Calls Tryd.prog 69 #[.pointer (some ⟨pb, 0, none⟩)] (X.alloc (.cells #[.int .i64 (cc.fr : Int), .int .i64 (cc.to : Int), .int .i64 cc.k, .int .i64 cc.n] 56)) fun e Y => (∃ u, e = .returned u) ∧ Hid (Ps B pb X W (dwn st) Y)) := (pdown (by omega) _ h1).mono fun e Y h => ⟨h.1, h1.from h.2.out⟩
    rw [hstp]
    rw [e0] at HD ⊢
    clear hstp hn hn2 hdr e0 hs hb0 h1 hbox x0 x1 x2 x3 hW1 hst h
    go_enter Tryd.func58, Tryd.ntmps58
    go_wp2_with (go_at_call 69; refine HD.out.mono ?_; clear HD; rintro e w1 ⟨⟨u, rfl⟩, HU⟩)
    (try simp only [Exit.inBlock, Exit.then]); refine bodyPost_ret (results_none rfl _ _ _) rfl ?_
    exact ⟨⟨_, rfl⟩, HU⟩
  · by_cases e1 : cc.n = 1
    · have hstp : stpL W st (cuOf s cc) = onC W st ⟨drC s cc, 1⟩ := stp_one hst (by omega)
      have HD : Hid (Calls Tryd.prog 70 #[.pointer (some ⟨pb, 0, none⟩), .agg #[.string (drC s cc), .int .i64 1]] (X.alloc (.cells #[.int .i64 (cc.fr : Int), .int .i64 (cc.to : Int), .int .i64 cc.k, .int .i64 cc.n] 56)) fun e Y => (∃ u, e = .returned u) ∧ Hid (Ps B pb X W (onC W st ⟨drC s cc, 1⟩) Y)) := (pcell ⟨drC s cc, 1⟩ hst hW (by omega) _ h1).mono fun e Y h => ⟨h.1, h1.from h.2.out⟩
      rw [hstp]
      rw [e1] at HD ⊢
      clear hstp hn hn2 hdr e0 e1 hs hb0 h1 hbox x0 x1 x2 x3 hW1 hst h
      go_enter Tryd.func58, Tryd.ntmps58
      go_wp2_with (go_at_call 70; refine HD.out.mono ?_; clear HD; rintro e w1 ⟨⟨u, rfl⟩, HU⟩)
      (try simp only [Exit.inBlock, Exit.then]); refine bodyPost_ret (results_none rfl _ _ _) rfl ?_
      exact ⟨⟨_, rfl⟩, HU⟩
    · have e2 : cc.n = 2 := by omega
      obtain rfl : W = 1 := by rcases hs with q | q | q; exact absurd q e0; exact absurd q e1; exact q
      have hstp : stpL 1 st (cuOf s cc) = onC 1 st ⟨fffd, 1⟩ := stp_slim hst (by omega)
      have HD : Hid (Calls Tryd.prog 70 #[.pointer (some ⟨pb, 0, none⟩), .agg #[.string ⟨#[239, 191, 189]⟩, .int .i64 1]] (X.alloc (.cells #[.int .i64 (cc.fr : Int), .int .i64 (cc.to : Int), .int .i64 cc.k, .int .i64 cc.n] 56)) fun e Y => (∃ u, e = .returned u) ∧ Hid (Ps B pb X 1 (onC 1 st ⟨fffd, 1⟩) Y)) := (pcell ⟨fffd, 1⟩ hst hW (by omega) _ h1).mono fun e Y h => ⟨h.1, h1.from h.2.out⟩
      rw [hstp]
      rw [e2] at HD x0 ⊢
      clear hstp hn hn2 hdr e0 e1 e2 hs hb0 h1 hbox x1 x2 x3 hW1 hst h
      go_enter Tryd.func58, Tryd.ntmps58
      go_wp2_with (go_at_call 70; refine HD.out.mono ?_; clear HD x0; rintro e w1 ⟨⟨u, rfl⟩, HU⟩)
      (try simp only [Exit.inBlock, Exit.then]); refine bodyPost_ret (results_none rfl _ _ _) rfl ?_
      exact ⟨⟨_, rfl⟩, HU⟩
theorem ctl_units {x : UInt8} : ∃ r, offs (⟨#[94, x]⟩ : ByteArray) 0 = 0 :: r ∧ sz (⟨#[94, x]⟩ : ByteArray) 0 = 1 := by
  have hb : bt (⟨#[94, x]⟩ : ByteArray) 0 = 94 := by rw [bt_eq]; rfl
  have ha := ch_ascii (s := ⟨#[94, x]⟩) (i := 0) (by rw [hb]; omega)
  exact ⟨_, offs_step (by show 0 < 2; omega), ha.2⟩
theorem cell_rgU {W : World} {p : Addr} {v : Value} (h : W.cell? p = some v) : ∀ d os, (Go.Sort.grow (redrawn W d) os).cell? p = some v := fun d os => ((below_regrown W d os).cell (p := p) (World.block_lt_of_cell? W p h)).trans h
set_option maxRecDepth 100000 in
set_option maxHeartbeats 1000000 in
/-- the first unit of what is drawn for a control character -/
theorem ctl_list {d : ByteArray} (hd : ∃ x, d = ⟨#[94, x]⟩) (Z : World) : Calls Tryd.prog 38 #[.string d] Z fun e Y => ∃ g k n, e = .returned (.slice (some ⟨g, 0, none⟩) n k) ∧ (0 : Int) < (n : Int) ∧ Y.cell? ⟨g, 1, none⟩ = some (.int .i64 1) ∧ (∃ cs, Y.heap[g]? = some (.cells cs 82 (0, 0))) ∧ Hid (Below Z.heap.size Z Y) := by
  obtain ⟨x, rfl⟩ := hd
  obtain ⟨r, h1, h2⟩ := @ctl_units x
  refine (runits_any (⟨#[94, x]⟩ : ByteArray) (by show 2 * 16 ≤ _; omega) Z).mono fun e Y ⟨v, he, hrow, hb⟩ => ?_
  rw [h1] at hrow
  obtain ⟨g, k, rfl⟩ := ownsRow_succ hrow
  obtain ⟨⟨cur, hc⟩, -⟩ := own_blkO hrow (g := g) rfl
  refine ⟨g, k, _, he, by simp, ?_, ⟨cur, hc⟩, hb⟩
  have := (hrow.cellAt 1 (by omega)).trans (ucells_get _ (0 :: r) 0 0 rfl).2
  rw [h2] at this
  exact this
theorem dr_ctl2 {s : ByteArray} {c : Clu} (hc : c ∈ cl s) (hn : c.n = 2) (hk : c.k ≠ 4) : (drC s c).size = 2 := by
  obtain ⟨x, e⟩ := dr_ctl hc hn hk
  rw [e]
  rfl
set_option maxRecDepth 100000 in
set_option maxHeartbeats 4000000 in
theorem pclu_two {B pb : Nat} {w0 : World} {W : Nat} {st : Lst} {s : ByteArray} {cc : Clu} (hcc : cc ∈ cl s) (hn2 : cc.n = 2) (hW2 : 2 ≤ W) (hst : st.Ok W) (hW : W ≤ 65535) (hr : st.rows.length ≤ 268435456) (X : World) (h : Ps B pb w0 W st X) :
    Calls Tryd.prog 58 #[.pointer (some ⟨pb, 0, none⟩), .agg #[.int .i64 (cc.fr : Int), .int .i64 (cc.to : Int), .int .i64 cc.k, .int .i64 cc.n], .string (drC s cc)] X fun e Y => (∃ u, e = .returned u) ∧ Hid (Ps B pb X W (stpL W st (cuOf s cc)) Y) := by
  have HM : Hid (Tryd.prog.follows .mixedOrders = true) := by show _ = _; kernel_rfl
  have hb0 : Below X.heap.size X (X.alloc (.cells #[.int .i64 (cc.fr : Int), .int .i64 (cc.to : Int), .int .i64 cc.k, .int .i64 cc.n] 56)) := (Below.refl _ X).alloc (Nat.le_refl _) _
  have hbC : (X.alloc (.cells #[.int .i64 (cc.fr : Int), .int .i64 (cc.to : Int), .int .i64 cc.k, .int .i64 cc.n] 56)).heap[X.heap.size]? = some (.cells #[.int .i64 (cc.fr : Int), .int .i64 (cc.to : Int), .int .i64 cc.k, .int .i64 cc.n] 56 (0, 0)) := World.alloc_heap_new _ _
  have h1 := h.base.next hb0
  obtain ⟨hm2, hn⟩ := cuOf_n hcc
  have hwd : (cuOf s cc).wide = decide (cc.k = 4) := rfl
  have hdr : (cuOf s cc).dr = drC s cc := rfl
  have hstp := stp_two (u := cuOf s cc) hst hW2 (by omega)
  rw [hdr, hwd] at hstp
  obtain ⟨hok1, hok2⟩ := two_ok hst hW2
  have hlt := hst.lt
  obtain ⟨t, ht⟩ : ∃ t, (if st.col = W - 1 then dwn st else st) = t := ⟨_, rfl⟩
  rw [ht] at hstp hok1 hok2
  have hrt : t.rows.length ≤ st.rows.length + 1 := by
    rw [← ht]
    split
    · simp [dwn]
    · omega
  obtain ⟨a, ha⟩ : ∃ a : Cel, (if decide (cc.k = 4) = true then (⟨drC s cc, 2⟩ : Cel) else ⟨(drC s cc).extract 0 1, 1⟩) = a := ⟨_, rfl⟩
  obtain ⟨b, hb⟩ : ∃ b : Cel, (if decide (cc.k = 4) = true then (⟨⟨#[]⟩, 0⟩ : Cel) else ⟨(drC s cc).extract 1 (drC s cc).size, 1⟩) = b := ⟨_, rfl⟩
  rw [ha, hb] at hstp
  -- what the calls do, in any world
  have HD : Hid (∀ Y, Ps B pb X W st Y → Calls Tryd.prog 69 #[.pointer (some ⟨pb, 0, none⟩)] Y fun e Z => (∃ u, e = .returned u) ∧ Hid (Ps B pb Y W (dwn st) Z)) := fun Y hY => pdown (by omega) Y hY
  have HC1 : Hid (∀ Y, Ps B pb X W t Y → Calls Tryd.prog 70 #[.pointer (some ⟨pb, 0, none⟩), .agg #[.string a.tx, .int .i64 a.sp]] Y fun e Z => (∃ u, e = .returned u) ∧ Hid (Ps B pb X W (onC W t a) Z ∧ KT Y Z)) := fun Y hY => (pcell a hok1 hW (by omega) Y hY).mono fun e Z h => ⟨h.1, hY.from h.2.out, h.2.out.kt⟩
  have HC2 : Hid (∀ Y, Ps B pb X W (onC W t a) Y → Calls Tryd.prog 70 #[.pointer (some ⟨pb, 0, none⟩), .agg #[.string b.tx, .int .i64 b.sp]] Y fun e Z => (∃ u, e = .returned u) ∧ Hid (Ps B pb X W (onC W (onC W t a) b) Z)) := fun Y hY => (pcell b (hok2 a).1 hW (by have := (hok2 a).2; omega) Y hY).mono fun e Z h => ⟨h.1, hY.from h.2.out⟩
  have HK : Hid ((cc.k = 4 ∧ a = ⟨drC s cc, 2⟩ ∧ b = ⟨⟨#[]⟩, 0⟩) ∨ ((cc.k == 4) = false ∧ (∃ x, drC s cc = ⟨#[94, x]⟩) ∧ (drC s cc).size = 2 ∧ a = ⟨(drC s cc).extract 0 1, 1⟩ ∧ b = ⟨(drC s cc).extract 1 2, 1⟩)) := by
    by_cases hk : cc.k = 4
    · refine .inl ⟨hk, ?_, ?_⟩
      · rw [← ha, if_pos (by simp [hk])]
      · rw [← hb, if_pos (by simp [hk])]
    · refine .inr ⟨by simpa using hk, dr_ctl hcc hn2 hk, dr_ctl2 hcc hn2 hk, ?_, ?_⟩
      · rw [← ha, if_neg (by simp [hk])]
      · rw [← hb, if_neg (by simp [hk]), dr_ctl2 hcc hn2 hk]
  obtain ⟨rv, hbox⟩ := h1.box
  obtain ⟨⟨x0, x1, x2, x3⟩, -⟩ := box4 hbox
  have HX : Hid (Ps B pb X W st (X.alloc (.cells #[.int .i64 (cc.fr : Int), .int .i64 (cc.to : Int), .int .i64 cc.k, .int .i64 cc.n] 56)) ∧ (X.alloc (.cells #[.int .i64 (cc.fr : Int), .int .i64 (cc.to : Int), .int .i64 cc.k, .int .i64 cc.n] 56)).heap[X.heap.size]? = some (.cells #[.int .i64 (cc.fr : Int), .int .i64 (cc.to : Int), .int .i64 cc.k, .int .i64 cc.n] 56 (0, 0))) := ⟨h1, hbC⟩
  have q0 := cell_rgU x0
  have q3 := cell_rgU x3
  have m1 : wrap64 ((W : Int) - 1) = (W : Int) - 1 := by unfold wrap64; omega
  have nW : ¬ (W : Int) = 1 := by omega
  rw [hstp]
  have HFU : Hid ((st.col = W - 1 → dwn st = t) ∧ (¬ st.col = W - 1 → st = t)) := ⟨fun e => by rw [← ht, if_pos e], fun e => by rw [← ht, if_neg e]⟩
  clear hstp hok1 hok2 hwd hdr hn hm2 hb0 h1 hbox h hcc hr hst hbC hrt ha hb ht x1 x2
  rw [hn2] at HX x0 x3 q0 q3 ⊢
  clear hn2
  go_enter Tryd.func58, Tryd.ntmps58
  go_wp2_with (fail)
  refine wp_region_quiet_below HM.out (by kernel_rfl) ?_
  repeat (go_big_quiet_step (fail))
  refine wpQuiet_nil ?_
  intro _ hw'
  obtain ⟨⟨dq, osq⟩, hw''⟩ := hw'
  subst hw''
  have HX1 : Hid (Ps B pb X W st (Go.Sort.grow (redrawn (X.alloc (.cells #[.int .i64 (cc.fr : Int), .int .i64 (cc.to : Int), .int .i64 cc.k, .int .i64 2] 56)) dq) osq) ∧ (Go.Sort.grow (redrawn (X.alloc (.cells #[.int .i64 (cc.fr : Int), .int .i64 (cc.to : Int), .int .i64 cc.k, .int .i64 2] 56)) dq) osq).heap[X.heap.size]? = some (.cells #[.int .i64 (cc.fr : Int), .int .i64 (cc.to : Int), .int .i64 cc.k, .int .i64 2] 56 (0, 0))) := ⟨HX.out.1.next (below_regrown _ dq osq), ((below_regrown _ dq osq).block X.heap.size (Array.getElem?_eq_some_iff.1 HX.out.2).1).trans HX.out.2⟩
  dsimp only
  clear x0 x3 q0 q3 HX m1
  generalize Go.Sort.grow (redrawn (X.alloc (.cells #[.int .i64 (cc.fr : Int), .int .i64 (cc.to : Int), .int .i64 cc.k, .int .i64 2] 56)) dq) osq = wz at HX1 ⊢
  have HCK : Hid (∀ Z : World, Z.heap[X.heap.size]? = some (.cells #[.int .i64 (cc.fr : Int), .int .i64 (cc.to : Int), .int .i64 cc.k, .int .i64 2] 56 (0, 0)) → Z.cell? ⟨X.heap.size, 2, none⟩ = some (.int .i64 cc.k)) := fun Z hZ => by simp [World.cell?, hZ]
  have HTF : Hid (∀ Z : World, Ps B pb wz W (dwn st) Z → Ps B pb X W (dwn st) Z ∧ Z.cell? ⟨X.heap.size, 2, none⟩ = some (.int .i64 cc.k)) := fun Z hZ => ⟨HX1.out.1.from hZ, HCK.out Z ((Pn.kt hZ).keep _ _ _ _ HX1.out.2 (by decide) (by decide) (by decide))⟩
  by_cases hf : st.col = W - 1
  · have hfb : ((st.col : Int) == (W : Int) - 1) = true := by simp; omega
    have hdt := HFU.out.1 hf
    clear hf HFU HCK nW hlt
    rcases HK.out with ⟨hk, rfl, rfl⟩ | ⟨hk, hx, hsz, rfl, rfl⟩
    · clear HK
      dsimp only at HC1 HC2
      rw [hk] at HX1 HTF ⊢
      clear hk
      go_wp2_with (go_at_call 69; refine (HD.out _ HX1.out.1).mono ?_; clear HD; rintro e w1 ⟨⟨u, rfl⟩, HU⟩; have k2 := (HTF.out _ HU.out).2; have HT : Hid (Ps B pb X W t w1) := by {rw [← hdt]; exact (HTF.out _ HU.out).1}; clear HU HTF HX1 hdt)
      go_wp2_with (go_at_call 70; refine (HC1.out _ HT.out).mono ?_; clear HC1; rintro e w2 ⟨⟨u, rfl⟩, HT2⟩)
      go_wp2_with (go_at_call 70; refine (HC2.out _ HT2.out.1).mono ?_; clear HC2; rintro e w3 ⟨⟨u, rfl⟩, HT3⟩)
      (try simp only [Exit.inBlock, Exit.then]); refine bodyPost_ret (results_none rfl _ _ _) rfl ?_
      exact ⟨⟨_, rfl⟩, HT3⟩
    · clear HK
      dsimp only at HC1 HC2
      have HL : Hid (∀ Z, Calls Tryd.prog 38 #[.string (drC s cc)] Z fun e Y => ∃ g k n, e = .returned (.slice (some ⟨g, 0, none⟩) n k) ∧ (0 : Int) < (n : Int) ∧ Y.cell? ⟨g, 1, none⟩ = some (.int .i64 1) ∧ (∃ cs, Y.heap[g]? = some (.cells cs 82 (0, 0))) ∧ Hid (Below Z.heap.size Z Y)) := fun Z => ctl_list hx Z
      clear hx
      go_wp2_with (go_at_call 69; refine (HD.out _ HX1.out.1).mono ?_; clear HD; rintro e w1 ⟨⟨u, rfl⟩, HU⟩; have k2 := (HTF.out _ HU.out).2; have HT : Hid (Ps B pb X W t w1) := by {rw [← hdt]; exact (HTF.out _ HU.out).1}; clear HU HTF HX1 hdt)
      go_wp2_with (go_at_call 38; refine (HL.out _).mono ?_; clear HL k2; rintro e w4 ⟨g, kk, n, rfl, hn0, c1, ⟨cs, hcs⟩, HB4⟩; have HT4 : Hid (Ps B pb X W t w4) := HT.out.next HB4.out; have HG4 : Hid (w4.heap[g]? = some (.cells cs 82 (0, 0)) ∧ w4.cell? ⟨g, 1, none⟩ = some (.int .i64 1)) := ⟨hcs, c1⟩; clear HT HB4 hcs)
      have c2 : ∀ Y, KT w4 Y → Y.cell? ⟨g, 1, none⟩ = some (.int .i64 1) := fun Y hY => (World.cell?_of_block (a := ⟨g, 1, none⟩) ((hY.keep _ _ _ _ HG4.out.1 (by decide) (by decide) (by decide)).trans HG4.out.1.symm)).trans HG4.out.2
      have C2 : Hid _ := c2
      clear HG4 c2
      go_wp2_with (go_at_call 70; refine (HC1.out _ HT4.out).mono ?_; clear HC1 c1; rintro e w2 ⟨⟨u, rfl⟩, HT2⟩; have c3 := C2.out _ HT2.out.2; clear C2)
      go_wp2_with (go_at_call 70; refine (HC2.out _ HT2.out.1).mono ?_; clear HC2; rintro e w3 ⟨⟨u, rfl⟩, HT3⟩)
      (try simp only [Exit.inBlock, Exit.then]); refine bodyPost_end (results_none rfl _ _ _) rfl ?_
      exact ⟨⟨_, rfl⟩, HT3⟩
  · have hfb : ((st.col : Int) == (W : Int) - 1) = false := by simp; omega
    have hdt := HFU.out.2 hf
    have k2 := HCK.out wz HX1.out.2
    have HT : Hid (Ps B pb X W t wz) := by rw [← hdt]; exact HX1.out.1
    clear hf HFU HCK HTF HX1 HD hdt nW hlt
    rcases HK.out with ⟨hk, rfl, rfl⟩ | ⟨hk, hx, hsz, rfl, rfl⟩
    · clear HK
      dsimp only at HC1 HC2
      rw [hk] at k2 ⊢
      clear hk
      go_wp2_with (go_at_call 70; refine (HC1.out _ HT.out).mono ?_; clear HC1; rintro e w2 ⟨⟨u, rfl⟩, HT2⟩)
      go_wp2_with (go_at_call 70; refine (HC2.out _ HT2.out.1).mono ?_; clear HC2; rintro e w3 ⟨⟨u, rfl⟩, HT3⟩)
      (try simp only [Exit.inBlock, Exit.then]); refine bodyPost_ret (results_none rfl _ _ _) rfl ?_
      exact ⟨⟨_, rfl⟩, HT3⟩
    · clear HK
      dsimp only at HC1 HC2
      have HL : Hid (∀ Z, Calls Tryd.prog 38 #[.string (drC s cc)] Z fun e Y => ∃ g k n, e = .returned (.slice (some ⟨g, 0, none⟩) n k) ∧ (0 : Int) < (n : Int) ∧ Y.cell? ⟨g, 1, none⟩ = some (.int .i64 1) ∧ (∃ cs, Y.heap[g]? = some (.cells cs 82 (0, 0))) ∧ Hid (Below Z.heap.size Z Y)) := fun Z => ctl_list hx Z
      clear hx
      go_wp2_with (go_at_call 38; refine (HL.out _).mono ?_; clear HL k2; rintro e w4 ⟨g, kk, n, rfl, hn0, c1, ⟨cs, hcs⟩, HB4⟩; have HT4 : Hid (Ps B pb X W t w4) := HT.out.next HB4.out; have HG4 : Hid (w4.heap[g]? = some (.cells cs 82 (0, 0)) ∧ w4.cell? ⟨g, 1, none⟩ = some (.int .i64 1)) := ⟨hcs, c1⟩; clear HT HB4 hcs)
      have c2 : ∀ Y, KT w4 Y → Y.cell? ⟨g, 1, none⟩ = some (.int .i64 1) := fun Y hY => (World.cell?_of_block (a := ⟨g, 1, none⟩) ((hY.keep _ _ _ _ HG4.out.1 (by decide) (by decide) (by decide)).trans HG4.out.1.symm)).trans HG4.out.2
      have C2 : Hid _ := c2
      clear HG4 c2
      go_wp2_with (go_at_call 70; refine (HC1.out _ HT4.out).mono ?_; clear HC1 c1; rintro e w2 ⟨⟨u, rfl⟩, HT2⟩; have c3 := C2.out _ HT2.out.2; clear C2)
      go_wp2_with (go_at_call 70; refine (HC2.out _ HT2.out.1).mono ?_; clear HC2; rintro e w3 ⟨⟨u, rfl⟩, HT3⟩)
      (try simp only [Exit.inBlock, Exit.then]); refine bodyPost_end (results_none rfl _ _ _) rfl ?_
      exact ⟨⟨_, rfl⟩, HT3⟩
end Go.Proofs.YtfjoklbiocniiaaDoor
namespace Go.Proofs.YtfjoklbiocniiaaDoor
open Go.RowKit Go.Shelf Bod Wid
theorem pclu_any {B pb : Nat} {w0 : World} {W : Nat} {st : Lst} {s : ByteArray} {cc : Clu} (hcc : cc ∈ cl s) (hst : st.Ok W) (hW : W ≤ 65535) (hr : st.rows.length ≤ 268435456) (X : World) (h : Ps B pb w0 W st X) :
    Calls Tryd.prog 58 #[.pointer (some ⟨pb, 0, none⟩), .agg #[.int .i64 (cc.fr : Int), .int .i64 (cc.to : Int), .int .i64 cc.k, .int .i64 cc.n], .string (drC s cc)] X fun e Y => (∃ u, e = .returned u) ∧ Hid (Ps B pb X W (stpL W st (cuOf s cc)) Y) := by
  have hn := cl_n s cc hcc
  have hlt := hst.lt
  by_cases h2 : cc.n = 2 ∧ 2 ≤ W
  · exact pclu_two hcc h2.1 h2.2 hst hW hr X h
  · exact pclu_small hcc (by omega) hst hW hr X h
/-- a block of places of the call's own is written to: the pen stays -/
theorem Pn.other {B pb g : Nat} {w0 : World} {pw r c : Int} {rows : List (List Cel)} {Y Z : World} (h : Pn B pb w0 pw r c rows Y) (hg : Y.grownBy Z (some g)) (hty : ∃ cs, Y.heap[g]? = some (.cells cs 28 (0, 0))) (hlo : w0.heap.size ≤ g) (hB : B ≤ g) : Pn B pb w0 pw r c rows Z := by
  obtain ⟨cs, hty⟩ := hty
  obtain ⟨hlo', hbel, hkt, rv, vs, hbox, hown, hrw, hdis⟩ := h
  have hbox' : Z.heap[pb]? = some (.cells #[.int .i64 pw, rv, .int .i64 r, .int .i64 c] 51 (0, 0)) := (hg.block pb (Array.getElem?_eq_some_iff.1 hbox).1 (fun e => by cases e; rw [hbox] at hty; cases hty)).trans hbox
  exact ⟨hlo', hbel.grown hg (by have := (Array.getElem?_eq_some_iff.1 hbox).1; omega) (fun e he => by cases he; exact hB), ⟨Nat.le_trans hkt.size hg.size, fun k cs' t fz a b c' d => (hg.block k (Nat.lt_of_lt_of_le (Array.getElem?_eq_some_iff.1 a).1 hkt.size) (fun e => by cases e; have := (Array.getElem?_eq_some_iff.1 a).1; omega)).trans (hkt.keep k cs' t fz a b c' d)⟩, rv, vs, hbox', own_farO hown hg (fun b e1 e2 => by cases e2; exact own_ty hown hty (by decide) e1), fun i v l h1 h2 => own_farO (hrw i v l h1 h2) hg (fun b e1 e2 => by cases e2; exact own_ty (hrw i v l h1 h2) hty (by decide) e1), hdis⟩
theorem pl_keepO {W W' : World} {base n : Nat} {v : Value} {xs : List Value} (h : W.ownsRow base 28 2 v n xs) (hk : KT W W') : W'.ownsRow base 28 2 v n xs :=
  ⟨h.1, h.2.imp id fun ⟨g, cap, cur, h1, h2, h3, h4⟩ => ⟨g, cap, cur, h1, h2, hk.keep g cur 28 (0, 0) h3 (by decide) (by decide) (by decide), h4⟩⟩
/-- the call between two rounds -/
structure Tx (B pb : Nat) (w0 : World) (W : Nat) (st : Lst) (s : ByteArray) (i : Nat) (v : Value) (Y : World) : Prop where
  pen : Ps B pb w0 W (layL W st (cus s ((cl s).take i))) Y
  out : Y.ownsRow w0.heap.size 28 2 v (i + 1) (pcs (plL W st s ((cl s).take i)))
/-- lists of clusters stay -/
def KC (X Y : World) : Prop := ∀ (g : Nat) (cs : Array Value), X.heap[g]? = some (.cells cs 56 (0, 0)) → Y.heap[g]? = some (.cells cs 56 (0, 0))
theorem KC.of {X Y : World} (h : KT X Y) : KC X Y := fun g cs hg => h.keep _ _ _ _ hg (by decide) (by decide) (by decide)
/-- one place more -/
theorem Tx.app {B pb : Nat} {w0 : World} {W : Nat} {st : Lst} {s : ByteArray} {i : Nat} {v : Value} {Y Z : World} {c : Clu} (hB : B ≤ w0.heap.size) (h : Tx B pb w0 W st s i v Y) (hc : (cl s)[i]? = some c) (hZ : Ps B pb Y W (stpL W (layL W st (cus s ((cl s).take i))) (cuOf s c)) Z) (hi : i ≤ 1073741824) :
    ∃ v3 w3, (Builtin.append_ #[35, 35] 35 #[v, .slice (some ⟨Z.heap.size, 0, none⟩) 1 1]).run Tryd.prog (Z.alloc (.cells #[.int .i64 ((stpL W (layL W st (cus s ((cl s).take i))) (cuOf s c)).rows.length : Int), .int .i64 ((stpL W (layL W st (cus s ((cl s).take i))) (cuOf s c)).col : Int)] 28)) = .ok v3 w3 ∧ Tx B pb w0 W st s (i + 1) v3 w3 ∧ KC Z w3 := by
  obtain ⟨i0, hi0, hz0, hz1, hz2⟩ := info_parts infoPL
  obtain ⟨hpen, hout⟩ := h
  have hnew : layL W st (cus s ((cl s).take (i + 1))) = stpL W (layL W st (cus s ((cl s).take i))) (cuOf s c) := layL_take hc
  have hpl : plL W st s ((cl s).take (i + 1)) = plL W st s ((cl s).take i) ++ [(stpL W (layL W st (cus s ((cl s).take i))) (cuOf s c)).pen] := by
    rw [List.take_add_one, hc]
    show plL W st s (_ ++ [c]) = _
    rw [plL_snoc, ← hnew, List.take_add_one, hc]
    rfl
  generalize stpL W (layL W st (cus s ((cl s).take i))) (cuOf s c) = st2 at hZ hnew hpl ⊢
  have ho1 := pl_keepO hout (Pn.kt hZ)
  have hb1 : Below Z.heap.size Z (Z.alloc (.cells #[.int .i64 (st2.rows.length : Int), .int .i64 (st2.col : Int)] 28)) := (Below.refl _ Z).alloc (Nat.le_refl _) _
  have ho2 := own_nextO ho1 hb1
  have hsz : w0.heap.size ≤ Z.heap.size := Nat.le_trans (Ps.bel hpen).size (Pn.kt hZ).size
  obtain ⟨v3, w3, hrun, h2, h3, -, -⟩ := run_append_own_at (P := Tryd.prog) (w := Z.alloc (.cells #[.int .i64 (st2.rows.length : Int), .int .i64 (st2.col : Int)] 28)) w0.heap.size 35 35 28 i0 (.agg #[.int .i64 0, .int .i64 0]) 2 16 Tryd.underlying35 hi0 hz0 hz1 hz2 rfl (by omega) v (i + 1) _ ho2 ⟨Z.heap.size, 0, none⟩ 1 1 [.int .i64 (st2.rows.length : Int), .int .i64 (st2.col : Int)] rfl (fun j u hu => by
    match j, hu with
    | 0, hu => obtain rfl := Option.some.inj hu; simp [Addr.add]
    | 1, hu => obtain rfl := Option.some.inj hu; simp [Addr.add]
    | j + 2, hu => simp at hu) (by intro u hu; simp at hu; rcases hu with rfl | rfl <;> rfl) (by unfold maxLen; omega) (by omega) (by simp; omega)
  refine ⟨v3, w3, hrun, ⟨?_, ?_⟩, fun b cs hb => (h3.block b (by have := (Array.getElem?_eq_some_iff.1 hb).1; simp; omega) (fun e => own_ty (own_nextO ho1 hb1) ((hb1.block b (Array.getElem?_eq_some_iff.1 hb).1).trans hb) (by decide) e.symm)).trans ((hb1.block b (Array.getElem?_eq_some_iff.1 hb).1).trans hb)⟩
  · rw [hnew]
    obtain ⟨g, k, rfl⟩ := ownsRow_succ ho2
    obtain ⟨⟨cur, hcur⟩, hlo, -⟩ := own_blkO ho2 (g := g) rfl
    have hp := (hpen.from hZ).next hb1
    exact Pn.other hp h3 ⟨cur, hcur⟩ hlo (Nat.le_trans hB hlo)
  · rw [hpl, pcs_app]
    exact h2
theorem cell_rgT {W : World} {p : Addr} {v : Value} (h : W.cell? p = some v) : ∀ d os, (Go.Sort.grow (redrawn W d) os).cell? p = some v := fun d os => ((below_regrown W d os).cell (p := p) (World.block_lt_of_cell? W p h)).trans h
theorem call_rgT {f : Nat} {args : Array Value} {v : Value} {W : World} (h : ∀ w, Below W.heap.size W w → Calls Tryd.prog f args w fun e w' => e = .returned v ∧ Below w.heap.size w w') :
    ∀ d os, Calls Tryd.prog f args (Go.Sort.grow (redrawn W d) os) fun e w'' => e = .returned v ∧ ∃ p : Regrown, w'' = Go.Sort.grow (redrawn W p.d) p.os := fun d os => Calls.regrown_of (h _ (below_regrown W d os))
set_option maxRecDepth 100000 in
set_option maxHeartbeats 4000000 in
theorem ptext_any {B pb : Nat} {w0 : World} {W : Nat} {st : Lst} (s : ByteArray) (hs : s.size ≤ 67108864) (hst : st.Ok W) (hW : W ≤ 65535) (hr : st.rows.length ≤ 134217728) (X : World) (h : Ps B pb w0 W st X) :
    Calls Tryd.prog 37 #[.pointer (some ⟨pb, 0, none⟩), .string s] X fun e Y => ∃ v, e = .returned v ∧ Hid (Tx B pb X W st s (cl s).length v Y) := by
  have HM : Hid (Tryd.prog.follows .mixedOrders = true) := by show _ = _; kernel_rfl
  have hW1 : 1 ≤ W := by have := hst.lt; omega
  obtain ⟨N, hN⟩ : ∃ N, (cl s).length = N := ⟨_, rfl⟩
  have hNs := cl_len s
  rw [hN] at hNs ⊢
  have hBX : B ≤ X.heap.size := Nat.le_trans h.lo (Nat.le_of_lt (Array.getElem?_eq_some_iff.1 h.box.choose_spec).1)
  have HST : Hid (∀ i, i ≤ N → (layL W st (cus s ((cl s).take i))).Ok W ∧ (layL W st (cus s ((cl s).take i))).rows.length ≤ 268435456) := fun i hi => by
    refine ⟨pn_ok hW1 hst s i, ?_⟩
    have h1 := layL_rows (W := W) (l := cus s ((cl s).take i)) (s := st)
    have e2 : (cus s ((cl s).take i)).length ≤ (cl s).length := by simp [cus]; omega
    omega
  have CL : Hid (Calls Tryd.prog 22 #[.string s] X fun e Y => ∃ a cap, e = .returned (.slice a N cap) ∧ Hid ((cl s ≠ [] → ∃ g cs, a = some ⟨g, 0, none⟩ ∧ Y.heap[g]? = some (.cells cs 56 (0, 0)) ∧ ∀ (Z : World), Z.heap[g]? = some (.cells cs 56 (0, 0)) → ∀ k c, (cl s)[k]? = some c → Z.cell? ⟨g, k * 4, none⟩ = some (.int .i64 c.fr) ∧ Z.cell? ⟨g, k * 4 + 1, none⟩ = some (.int .i64 c.to) ∧ Z.cell? ⟨g, k * 4 + 2, none⟩ = some (.int .i64 c.k) ∧ Z.cell? ⟨g, k * 4 + 3, none⟩ = some (.int .i64 c.n)) ∧ Below X.heap.size X Y)) := (rlist_any s (by omega) X).mono fun e Y ⟨v, he, hrow, hb⟩ => by
    obtain ⟨a, cap, rfl⟩ := own_formO hrow
    rw [hN] at he
    refine ⟨a, cap, he, fun hne => ?_, hb⟩
    obtain ⟨a', cap', e1, hr4⟩ := Rd4.of_row hrow
    obtain ⟨g, hg, -, hcell⟩ := hr4 hne
    obtain ⟨e1, -, -⟩ := Value.slice.inj e1
    subst e1
    subst hg
    obtain ⟨⟨cs, hcs⟩, -⟩ := own_blkO hrow (g := g) rfl
    refine ⟨g, cs, rfl, hcs, fun Z hZ k c hc => ?_⟩
    obtain ⟨z0, z1, z2, z3⟩ := hcell k c hc
    have e := hZ.trans hcs.symm
    exact ⟨(World.cell?_of_block (a := ⟨g, k * 4, none⟩) e).trans z0, (World.cell?_of_block (a := ⟨g, k * 4 + 1, none⟩) e).trans z1, (World.cell?_of_block (a := ⟨g, k * 4 + 2, none⟩) e).trans z2, (World.cell?_of_block (a := ⟨g, k * 4 + 3, none⟩) e).trans z3⟩
  have HX : Hid (Ps B pb X W st X ∧ B ≤ X.heap.size) := ⟨h.base, hBX⟩
  have HNN : Hid ((cl s).length = N ∧ s.size ≤ 67108864 ∧ W ≤ 65535) := ⟨hN, hs, hW⟩
  clear h hBX hN hs hr hst hW1
  go_enter Tryd.func37, Tryd.ntmps37
  go_wp2_with (go_at_call 22; refine CL.out.mono ?_; clear CL; rintro e w1 ⟨ag, cap, rfl, HL⟩; have HP1 : Hid (Ps B pb X W st w1) := HX.out.1.next HL.out.2; obtain ⟨rv, hbox⟩ := HP1.out.box; obtain ⟨⟨x0, x1, x2, x3⟩, -⟩ := box4 hbox; clear x0 x1 hbox)
  have HT0 : Hid (Tx B pb X W st s 0 (.slice (some ⟨w1.heap.size, 0, none⟩) 1 1) (w1.alloc (.cells #[.int .i64 (st.rows.length : Int), .int .i64 (st.col : Int)] 28)) ∧ KC w1 (w1.alloc (.cells #[.int .i64 (st.rows.length : Int), .int .i64 (st.col : Int)] 28))) := by
    have hb : Below w1.heap.size w1 (w1.alloc (.cells #[.int .i64 (st.rows.length : Int), .int .i64 (st.col : Int)] 28)) := (Below.refl _ w1).alloc (Nat.le_refl _) _
    refine ⟨⟨HP1.out.next hb, ⟨rfl, .inr ⟨w1.heap.size, 1, #[.int .i64 (st.rows.length : Int), .int .i64 (st.col : Int)], rfl, HL.out.2.size, World.alloc_heap_new _ _, Nat.le_refl _, by decide, rfl, rfl⟩⟩⟩, KC.of (KT.below hb)⟩
  clear HP1 x2 x3
  generalize (w1.alloc (.cells #[.int .i64 (st.rows.length : Int), .int .i64 (st.col : Int)] 28)) = w2 at HT0 ⊢
  have HSZ : Hid (s.size ≤ 67108864) := HNN.out.2.1
  go_loopw [6, 7] (fun t6 t7 wr => ∃ i : Nat, i ≤ N ∧ t7 = .int .i64 i ∧ Hid (Tx B pb X W st s i t6 wr ∧ KC w1 wr)) (fun _ t7 _ => N - (intOf t7).toNat)
  case atStart => exact ⟨0, Nat.zero_le _, rfl, HT0⟩
  case round =>
    obtain ⟨i, hi, rfl, HT⟩ := hrel
    clear HT0
    by_cases hlt : i < N
    · obtain ⟨c, hc⟩ : ∃ c, (cl s)[i]? = some c := ⟨(cl s)[i]'(by rw [HNN.out.1]; exact hlt), List.getElem?_eq_getElem _⟩
      have hcm := List.mem_of_getElem? hc
      obtain ⟨g, cs, rfl, hgb, hcell⟩ := HL.out.1 (fun e => by rw [e] at hc; simp at hc)
      have hgr := HT.out.2 _ _ hgb
      obtain ⟨z0, z1, z2, z3⟩ := hcell wr hgr i c hc
      obtain ⟨hf1, hf2⟩ := cl_span hcm
      have CD : ∀ W', Below wr.heap.size wr W' → Calls Tryd.prog 59 #[.string (s.extract c.fr c.to)] W' fun e Y => e = .returned (.string (drC s c)) ∧ Below W'.heap.size W' Y := fun W' _ => by
        have := rdrawn_any (s.extract c.fr c.to) (by have := HSZ.out; simp; omega) W'
        rw [drawn_one hcm] at this
        exact this
      have k1 := call_rgT CD
      have q0 := cell_rgT z0
      have q1 := cell_rgT z1
      have q2 := cell_rgT z2
      have q3 := cell_rgT z3
      have hci : (c.fr : Int) ≤ c.to := by omega
      have hci2 : (c.to : Int) ≤ s.size := by omega
      obtain ⟨hok, hrows⟩ := HST.out i (by omega)
      have CC : Hid (∀ Y, Ps B pb X W (layL W st (cus s ((cl s).take i))) Y → Calls Tryd.prog 58 #[.pointer (some ⟨pb, 0, none⟩), .agg #[.int .i64 (c.fr : Int), .int .i64 (c.to : Int), .int .i64 c.k, .int .i64 c.n], .string (drC s c)] Y fun e Z => (∃ u, e = .returned u) ∧ Hid (Ps B pb Y W (stpL W (layL W st (cus s ((cl s).take i))) (cuOf s c)) Z)) := fun Y hY => pclu_any hcm hok HNN.out.2.2 hrows Y hY
      have HCI : Hid ((cl s)[i]? = some c) := hc
      clear CD hcell hgb hgr hok hrows hc hcm
      go_wp2_with (fail)
      refine region_thenD_below HM.out (by kernel_rfl) (by kernel_rfl) (by kernel_rfl) rfl rfl ?_
      dsimp only [List.dropLast, List.getLast]
      iterate 17 (go_big_quiet_step (fail))
      go_big_quiet_step (exact k1 _ _)
      refine wpQuiet_nil ?_
      intro _ hw'
      obtain ⟨⟨dq, osq⟩, hw''⟩ := hw'
      subst hw''
      clear k1 q0 q1 q2 q3 z0 z1 z2 z3
      have hbz : Below wr.heap.size wr (Go.Sort.grow (redrawn wr dq) osq) := below_regrown wr dq osq
      have HTz : Hid (Tx B pb X W st s i u6 (Go.Sort.grow (redrawn wr dq) osq) ∧ KC w1 (Go.Sort.grow (redrawn wr dq) osq)) := ⟨⟨HT.out.1.pen.next hbz, own_nextO HT.out.1.out hbz⟩, fun g cs hg => KC.of (KT.below hbz) g cs (HT.out.2 g cs hg)⟩
      dsimp only
      clear hbz HT
      generalize Go.Sort.grow (redrawn wr dq) osq = wz at HTz ⊢
      gi_wp2_with (refine ⟨trivial, rfl, ?_⟩; gi_at_call 58; refine (callsIn_wide.2 (CC.out _ HTz.out.1.pen)).mono ?_; clear CC; rintro e w3 ⟨⟨u, rfl⟩, HZ⟩; obtain ⟨rv3, hb3⟩ := HZ.out.box; obtain ⟨⟨y0, y1, y2, y3⟩, -⟩ := box4 hb3; clear hb3 y0 y1; obtain ⟨v3, w4, hrun, hT4, hK4⟩ := Tx.app HX.out.2 HTz.out.1 HCI.out HZ.out (by have := HSZ.out; omega); have HT4 : Hid (Tx B pb X W st s (i + 1) v3 w4 ∧ KC w1 w4) := ⟨hT4, fun g cs hg => hK4 g cs (KC.of (Pn.kt HZ.out) g cs (HTz.out.2 g cs hg))⟩; clear hT4 hK4)
      clear hf1 hf2 hci hci2 HZ HTz
      have wi := w64s (i := i) (by have := HSZ.out; omega)
      go_wp2_with (at_builtin; refine Lib.wpList_append_run _ rfl _ _ 35 35 rfl _ _ rfl rfl _ w4 hrun ?_; clear hrun)
      rw [wi]
      refine ⟨⟨i + 1, by omega, rfl, HT4⟩, ?_⟩
      show N - ((i + 1 : Nat) : Int).toNat < N - (i : Int).toNat
      omega
    · go_wp2
      go_ret
      have e : i = N := by omega
      subst e
      exact ⟨_, rfl, HT.out.1⟩
end Go.Proofs.YtfjoklbiocniiaaDoor
namespace Go.Proofs.YtfjoklbiocniiaaDoor
open Go.RowKit Go.Shelf Bod Wid
set_option maxRecDepth 100000
set_option maxHeartbeats 2000000
theorem rcou_all (x : Int) (w : World) : Calls Tryd.prog 36 #[.int .i64 x] w fun e w' => e = .returned (.int .i64 (couW x)) ∧ w = w' := by
  unfold couW
  go_enter Tryd.func36, Tryd.ntmps36
  go_wp2
  go_ret
  exact ⟨rfl, rfl⟩
theorem own_lower {W : World} {base base' c n : Nat} {e : TypeId} {v : Value} {xs : List Value} (h : W.ownsRow base e c v n xs) (hb : base' ≤ base) : W.ownsRow base' e c v n xs :=
  ⟨h.1, h.2.imp id fun ⟨g, cap, cur, h1, h2, h3, h4⟩ => ⟨g, cap, cur, h1, Nat.le_trans hb h2, h3, h4⟩⟩
/-- what laid answers -/
structure Ld (w : World) (W : Nat) (p s : ByteArray) (pb : Nat) (v : Value) (Y : World) : Prop where
  pen : Ps w.heap.size pb w W (layPT W p s) Y
  out : Y.ownsRow w.heap.size 28 2 v ((cl s).length + 1) (pcs (plL W (layL W lst0 (cus p (cl p))) s (cl s)))
theorem rlaid_any (p s : ByteArray) (W0 : Int) (hp : p.size ≤ 67108864) (hs : s.size ≤ 67108864) (w : World) (Wn : Nat) (hWn : (Wn : Int) = couW W0) :
    Calls Tryd.prog 21 #[.string p, .string s, .int .i64 W0] w fun e Y => ∃ pb v, e = .returned (.tuple #[.pointer (some ⟨pb, 0, none⟩), v]) ∧ Hid (Ld w Wn p s pb v Y) := by
  have hW := couW_in W0
  have hW1 : 1 ≤ Wn := by omega
  have hW2 : Wn ≤ 65535 := by omega
  have CO : Hid (∀ X, Calls Tryd.prog 36 #[.int .i64 W0] X fun e w' => e = .returned (.int .i64 (Wn : Int)) ∧ X = w') := fun X => by rw [hWn]; exact rcou_all W0 X
  have h0 : Hid (Ps w.heap.size (w.heap.size + 1) w Wn lst0 ((w.alloc (.cells #[.slice none 0 0] 40)).alloc (.cells #[.int .i64 (Wn : Int), .slice (some ⟨w.heap.size, 0, none⟩) 1 1, .int .i64 0, .int .i64 0] 51))) := by
    obtain ⟨q0, q1⟩ := push2 w.heap (.cells #[.slice none 0 0] 40) (.cells #[.int .i64 (Wn : Int), .slice (some ⟨w.heap.size, 0, none⟩) 1 1, .int .i64 0, .int .i64 0] 51)
    have hb : Below w.heap.size w ((w.alloc (.cells #[.slice none 0 0] 40)).alloc (.cells #[.int .i64 (Wn : Int), .slice (some ⟨w.heap.size, 0, none⟩) 1 1, .int .i64 0, .int .i64 0] 51)) := ((Below.refl _ w).alloc (Nat.le_refl _) _).alloc (by simp) _
    refine ⟨by omega, hb, KT.below hb, .slice (some ⟨w.heap.size, 0, none⟩) 1 1, [.slice none 0 0], q1, ⟨rfl, .inr ⟨w.heap.size, 1, #[.slice none 0 0], rfl, Nat.le_refl _, q0, Nat.le_refl _, by decide, rfl, rfl⟩⟩, fun i v l h1 h2 => ?_, fun i j v v' g h1 h2 hij hg => ?_⟩
    · match i, h1, h2 with
      | 0, h1, h2 =>
        obtain rfl : Value.slice none 0 0 = v := by simpa using h1
        obtain rfl : [] = l := by simpa [Lst.all, lst0] using h2
        exact World.ownsRow_nil _ _ _ _
      | i + 1, h1, h2 => simp at h1
    · match i, h1 with
      | 0, h1 =>
        obtain rfl : Value.slice none 0 0 = v := by simpa using h1
        cases hg
      | i + 1, h1 => simp at h1
  have T1 : Hid (∀ X, Ps w.heap.size (w.heap.size + 1) w Wn lst0 X → Calls Tryd.prog 37 #[.pointer (some ⟨w.heap.size + 1, 0, none⟩), .string p] X fun e Y => ∃ v, e = .returned v ∧ Hid (Ps w.heap.size (w.heap.size + 1) w Wn (layL Wn lst0 (cus p (cl p))) Y)) := fun X hX => (ptext_any p hp (lst0_ok hW1) hW2 (by show 0 ≤ _; omega) X hX).mono fun e Y ⟨v, he, hT⟩ => ⟨v, he, by
    have := hT.out.pen
    rw [List.take_length] at this
    exact hX.from this⟩
  have hok := layL_ok hW1 (cus_n (s := p) (l := cl p) (fun _ h => h)) (lst0_ok hW1)
  have hrp := layP_rows Wn p
  have T2 : Hid (∀ X, Ps w.heap.size (w.heap.size + 1) w Wn (layL Wn lst0 (cus p (cl p))) X → Calls Tryd.prog 37 #[.pointer (some ⟨w.heap.size + 1, 0, none⟩), .string s] X fun e Y => ∃ v, e = .returned v ∧ Hid (Ld w Wn p s (w.heap.size + 1) v Y)) := fun X hX => (ptext_any s hs hok hW2 (by omega) X hX).mono fun e Y ⟨v, he, hT⟩ => ⟨v, he, by
    obtain ⟨h1, h2⟩ := hT.out
    rw [List.take_length] at h1 h2
    exact ⟨hX.from h1, own_lower h2 hX.bel.size⟩⟩
  clear hW hW1 hW2 hok hrp hWn hp hs
  go_enter Tryd.func21, Tryd.ntmps21
  go_wp2_with (first | (go_at_call 36; refine (CO.out _).mono ?_; clear CO; rintro e w0 ⟨rfl, rfl⟩) | (go_at_call 37; first | (refine (T1.out _ h0.out).mono ?_; clear T1 h0; rintro e w1 ⟨v1, rfl, H1⟩) | (refine (T2.out _ H1.out).mono ?_; clear T2 H1; rintro e w2 ⟨v2, rfl, H2⟩)))
  go_ret2
  exact ⟨_, _, rfl, H2⟩
set_option maxRecDepth 100000 in
set_option maxHeartbeats 1000000 in
theorem rpls_any (p s : ByteArray) (W0 : Int) (hp : p.size ≤ 67108864) (hs : s.size ≤ 67108864) (w : World) (Wn : Nat) (hWn : (Wn : Int) = couW W0) :
    Calls Tryd.prog 12 #[.string p, .string s, .int .i64 W0] w fun e Y => ∃ v, e = .returned v ∧ Hid (Y.ownsRow w.heap.size 28 2 v ((cl s).length + 1) (pcs (plL Wn (layL Wn lst0 (cus p (cl p))) s (cl s))) ∧ Below w.heap.size w Y) := by
  have C := rlaid_any p s W0 hp hs w Wn hWn
  clear hp hs hWn
  go_enter Tryd.func12, Tryd.ntmps12
  go_wp2_with (go_at_call 21; refine C.mono ?_; clear C; rintro e w1 ⟨pb, v, rfl, H1⟩)
  go_ret
  exact ⟨_, rfl, H1.out.out, H1.out.pen.bel⟩
end Go.Proofs.YtfjoklbiocniiaaDoor
