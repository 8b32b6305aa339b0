/-
  The walk of the law LayoutKeeps: no two rows of a frame share memory, and what is written into one frame is not seen in another. Conditions: those of walk_of.
-/
import Derived.Deep.CutRange
import Derived.Deep.RegionHeld3
import Derived.Test.YtfjoklbiocniiaaDoorOAwk
import Derived.Test.YtfjoklbiocniiaaDoorOArg
import Derived.Test.YtfjoklbiocniiaaDoorORws
import Derived.Test.YtfjoklbiocniiaaDoorOSmd
import Derived.Test.YtfjoklbiocniiaaDoorPkOK
import Derived.Test.YtfjoklbiocniiaaDoorOKp
namespace Go.Proofs.YtfjoklbiocniiaaDoor.layoutKeeps
open Go.RowKit Go.Shelf Bod Wid
theorem fr_rdK {w Y : World} {ov : Value} {R : List (List Cel)} (h : Fr w ov R Y) : RdRw Y ov R := by
  obtain ⟨vs, rfl, hown, heach, -⟩ := h
  refine rdrw_of hown (fun i rv l h1 h2 => ?_) (by rw [List.length_map])
  rw [List.getElem?_map] at h1 h2
  cases e : vs[i]? with
  | none => rw [e] at h1; cases h1
  | some o =>
    rw [e] at h1 h2
    obtain rfl := Option.some.inj h1
    obtain rfl := Option.some.inj h2
    exact rdce_of (heach o (List.mem_of_getElem? e)) rfl
theorem fr_keep {w W Y : World} {ov : Value} {R : List (List Cel)} (h : Fr w ov R W) (hk : ∀ k, w.heap.size ≤ k → k < W.heap.size → Y.heap[k]? = W.heap[k]?) : Fr w ov R Y := by
  obtain ⟨vs, hR, hown, heach, hsep⟩ := h
  exact ⟨vs, hR, o_keep hown (fun g e => hk g (own_blkO hown e).2.1 (own_blkO hown e).2.2), fun o ho => o_keep (heach o ho) (fun g e => hk g (own_blkO (heach o ho) e).2.1 (own_blkO (heach o ho) e).2.2), hsep⟩
/-- the rows of a frame, by number -/
theorem fr_vs {w Y : World} {ov : Value} {R : List (List Cel)} (h : Fr w ov R Y) : ∃ vs : List Value, vs.length = R.length ∧ Y.ownsRow w.heap.size 40 1 ov R.length vs ∧ Dis vs ∧ ∀ (i : Nat) v l, vs[i]? = some v → R[i]? = some l → Y.ownsRow w.heap.size 42 2 v l.length (ccs l) := by
  obtain ⟨ps, rfl, hown, heach, hsep⟩ := h
  refine ⟨ps.map Prod.snd, by simp, by rw [List.length_map]; exact hown, fun i j v v' g h1 h2 hij e e' => ?_, fun i v l h1 h2 => ?_⟩
  · rw [List.getElem?_map] at h1 h2
    cases e1 : ps[i]? with
    | none => rw [e1] at h1; cases h1
    | some o =>
      cases e2 : ps[j]? with
      | none => rw [e2] at h2; cases h2
      | some q =>
        rw [e1] at h1
        rw [e2] at h2
        obtain rfl := Option.some.inj h1
        obtain rfl := Option.some.inj h2
        obtain ⟨hi, rfl⟩ := List.getElem?_eq_some_iff.1 e1
        obtain ⟨hj, rfl⟩ := List.getElem?_eq_some_iff.1 e2
        rw [List.pairwise_iff_getElem] at hsep
        rcases Nat.lt_or_gt_of_ne hij with q | q
        · exact hsep i j hi hj q g e e'
        · exact hsep j i hj hi q g e' e
  · rw [List.getElem?_map] at h1 h2
    cases e : ps[i]? with
    | none => rw [e] at h1; cases h1
    | some o =>
      rw [e] at h1 h2
      obtain rfl := Option.some.inj h1
      obtain rfl := Option.some.inj h2
      exact heach o (List.mem_of_getElem? e)
theorem add_atK (g j : Nat) : (⟨g, 0, none⟩ : Addr).add j = ⟨g, j, none⟩ := by unfold Addr.add; split <;> simp_all
theorem below_of_none {W Y : World} (h : W.grownBy Y none) : Below W.heap.size W Y := ⟨h.os, h.tape, h.output, h.size, fun g hg => h.block g hg (by simp)⟩
/-- the last loop: the frame's rows are put out, the other frame stays -/
structure L3k (W2 W3 : World) (b4 b5 og nR ok : Nat) (ofr gfr : Array Value) (ovg : Value) (R : List (List Cel)) (Y : World) : Prop where
  bel : Below W2.heap.size W2 Y
  bf : Y.heap[b4]? = some (.cells ofr 30 (0, 0))
  bg : Y.heap[b5]? = some (.cells gfr 30 (0, 0))
  fg : Fr W3 ovg R Y
  own : ∃ xs, Y.ownsRow W2.heap.size 40 1 (.slice (some ⟨og, 0, none⟩) nR ok) nR xs
theorem L3k.set {W2 W3 Y : World} {b4 b5 og nR ok i : Nat} {ofr gfr : Array Value} {ovg : Value} {R : List (List Cel)} (h : L3k W2 W3 b4 b5 og nR ok ofr gfr ovg R Y) (ho : og < W3.heap.size) (hi : i < nR) : L3k W2 W3 b4 b5 og nR ok ofr gfr ovg R (Y.setCell ⟨og, i, none⟩ (.slice none 0 0)) ∧ (∃ u, Y.cell? ⟨og, i, none⟩ = some u) ∧ Y.frozen? ⟨og, i, none⟩ = false := by
  obtain ⟨xs, hown⟩ := h.own
  obtain ⟨⟨cur, hc⟩, hlo, -⟩ := own_blkO hown (g := og) rfl
  have g2 := gcell Y og i (.slice none 0 0)
  have ne : ∀ {k : Nat} {cs : Array Value}, Y.heap[k]? = some (.cells cs 30 (0, 0)) → some og ≠ some k := fun hk e => by
    cases e
    rw [hc] at hk
    cases hk
  have hlen := hown.1
  exact ⟨⟨h.bel.setCell (p := ⟨og, i, none⟩) hlo _, (g2.block b4 (Array.getElem?_eq_some_iff.1 h.bf).1 (fun e => ne h.bf e.symm)).trans h.bf, (g2.block b5 (Array.getElem?_eq_some_iff.1 h.bg).1 (fun e => ne h.bg e.symm)).trans h.bg, fr_keep h.fg (fun k h1 h2 => g2.block k h2 (fun e => by cases e; omega)), ⟨_, row_putQ hown⟩⟩, ⟨_, (hown.cellAt i (by omega)).trans (List.getElem?_eq_getElem (by omega))⟩, by simp [World.frozen?, hc]⟩
set_option maxRecDepth 100000 in
set_option maxHeartbeats 4000000 in
theorem walk (hM : Tryd.prog.follows .mixedOrders = true) (prompt text : ByteArray) (cur W0 : Int) (hp : prompt.size ≤ 1048576) (ht : text.size ≤ 1048576) (w : World) (hT : Lib.Utf8Tabs 0 1 w) (hlo0 : 0 < w.heap.size) (hlo1 : 1 < w.heap.size) :
    Calls Tryd.prog 5 #[.agg #[.string prompt, .string text, .int .i64 cur, .int .i64 W0]] w fun e w' => e = .returned (.bool true) ∧ Below w.heap.size w w' := by
  obtain ⟨Wn, hW⟩ : ∃ Wn : Nat, (Wn : Int) = couW W0 := ⟨(couW W0).toNat, by have := couW_in W0; omega⟩
  have hWb := couW_in W0
  have hW1 : 1 ≤ Wn := by omega
  have hnar : Nar Wn (layPT Wn prompt text) := layL_nar hW1 (cus_n (s := text) (l := cl text) (fun _ h => h)) (layL_ok hW1 (cus_n (s := prompt) (l := cl prompt) (fun _ h => h)) (lst0_ok hW1)) (layL_nar hW1 (cus_n (s := prompt) (l := cl prompt) (fun _ h => h)) (lst0_ok hW1) (lst0_nar Wn))
  have hrows := layPT_rows Wn prompt text
  have hall : ((layPT Wn prompt text).all.map trmL).length = (layPT Wn prompt text).rows.length + 1 := by rw [List.length_map, Lst.all_len]; rfl
  have hrl : ∀ r ∈ (layPT Wn prompt text).all.map trmL, r.length ≤ 65535 := fun r hr => by
    obtain ⟨r0, h0, rfl⟩ := List.mem_map.1 hr
    obtain ⟨m, hm, e⟩ := trm_pre r0
    rw [e, List.length_take]
    have := hnar r0 h0
    omega
  have tb : ∀ {X : World}, Below w.heap.size w X → Lib.Utf8Tabs 0 1 X ∧ 0 < X.heap.size ∧ 1 < X.heap.size := fun {X} hX => ⟨tabs_below hT hX, Nat.lt_of_lt_of_le hlo0 hX.size, Nat.lt_of_lt_of_le hlo1 hX.size⟩
  have CA : Hid (∀ X, Below w.heap.size w X → Calls Tryd.prog 7 #[] X fun e w' => e = .returned (.bool true) ∧ Hid (Below X.heap.size X w')) := fun X hX => awk_any hM X (tb hX).1 (tb hX).2.1 (tb hX).2.2
  have CR0 := fun X (_ : Below w.heap.size w X) => rlay_any hM prompt text cur W0 (by omega) (by omega) X Wn hW
  have CL0 := fun X (hX : Below w.heap.size w X) => lay0_any hM prompt text cur W0 (by omega) (by omega) X (tb hX).1 (tb hX).2.1 (tb hX).2.2 Wn hW
  change ∀ X, Below w.heap.size w X → Calls Tryd.prog 10 #[.string prompt, .string text, .int .i64 cur, .int .i64 W0] X fun e Y => ∃ ov, e = .returned (.agg #[.int .i64 Wn, ov, .int .i64 (curL Wn (layL Wn lst0 (cus prompt (cl prompt))) text cur (cl text)).2.1, .int .i64 (curL Wn (layL Wn lst0 (cus prompt (cl prompt))) text cur (cl text)).2.2]) ∧ Hid (Fr X ov ((layPT Wn prompt text).all.map trmL) Y ∧ Below X.heap.size X Y) at CL0
  generalize (curL Wn (layL Wn lst0 (cus prompt (cl prompt))) text cur (cl text)).2 = cu at CR0 CL0
  obtain ⟨R, hR⟩ : ∃ R, (layPT Wn prompt text).all.map trmL = R := ⟨_, rfl⟩
  rw [hR] at hall hrl CR0 CL0
  obtain ⟨nR, hnR⟩ : ∃ nR, R.length = nR := ⟨_, rfl⟩
  have hn1 : nR = nR - 1 + 1 := by omega
  have CR : Hid (∀ X, Below w.heap.size w X → Calls Tryd.prog 8 #[.string prompt, .string text, .int .i64 cur, .int .i64 W0] X fun e Y => ∃ oa ok, e = .returned (.agg #[.int .i64 (Wn : Int), .slice oa nR ok, .int .i64 (cu.1 : Int), .int .i64 (cu.2 : Int)]) ∧ Hid (RdRw Y (.slice oa nR ok) R ∧ Below X.heap.size X Y)) := fun X hX => (CR0 X hX).mono fun e Y ⟨ov, he, HF⟩ => by
    obtain ⟨hf, hb⟩ := HF.out
    obtain ⟨oa, ok, ho, -⟩ := id hf
    rw [hnR] at ho
    subst ho
    exact ⟨oa, ok, he, hf, hb⟩
  have CL : Hid (∀ X, Below w.heap.size w X → Calls Tryd.prog 10 #[.string prompt, .string text, .int .i64 cur, .int .i64 W0] X fun e Y => ∃ og ok, e = .returned (.agg #[.int .i64 (Wn : Int), .slice (some ⟨og, 0, none⟩) nR ok, .int .i64 (cu.1 : Int), .int .i64 (cu.2 : Int)]) ∧ Hid (Fr X (.slice (some ⟨og, 0, none⟩) nR ok) R Y ∧ Below X.heap.size X Y)) := fun X hX => (CL0 X hX).mono fun e Y ⟨ov, he, HF⟩ => by
    obtain ⟨hf, hb⟩ := HF.out
    obtain ⟨vs, hvl, hown, -, -⟩ := fr_vs hf
    rw [hnR, hn1] at hown
    obtain ⟨og, ok, rfl⟩ := ownsRow_succ hown
    rw [← hn1] at he hf
    exact ⟨og, ok, he, hf, hb⟩
  have hfs : Fsz ⟨Wn, R, cu.1, cu.2⟩ := ⟨by show R.length ≤ _; omega, fun l hl => by have := hrl l hl; omega⟩
  have CS : Hid (∀ X v1 v2, RdRw X v1 R → RdRw X v2 R → Calls Tryd.prog 9 #[.agg #[.int .i64 (Wn : Int), v1, .int .i64 (cu.1 : Int), .int .i64 (cu.2 : Int)], .agg #[.int .i64 (Wn : Int), v2, .int .i64 (cu.1 : Int), .int .i64 (cu.2 : Int)]] X fun e Y => e = .returned (.bool true) ∧ Hid (Below X.heap.size X Y)) := fun X v1 v2 h1 h2 => by
    have := rsmf_any ⟨Wn, R, cu.1, cu.2⟩ ⟨Wn, R, cu.1, cu.2⟩ hfs hfs X ⟨_, rfl, h1⟩ ⟨_, rfl, h2⟩
    rw [fmE_self] at this
    exact this
  have HR : Hid (R.length = nR ∧ 1 ≤ nR ∧ nR ≤ 16777216 ∧ ∀ r ∈ R, r.length ≤ 65535) := ⟨hnR, by omega, by omega, hrl⟩
  have HM : Hid (Tryd.prog.follows .mixedOrders = true) := hM
  have HB0 : Hid (Below w.heap.size w (w.alloc (.cells #[.string prompt, .string text, .int .i64 cur, .int .i64 W0] 25)) ∧ (w.alloc (.cells #[.string prompt, .string text, .int .i64 cur, .int .i64 W0] 25)).heap[w.heap.size]? = some (.cells #[.string prompt, .string text, .int .i64 cur, .int .i64 W0] 25 (0, 0))) := ⟨(Below.refl _ w).alloc (Nat.le_refl _) _, World.alloc_heap_new _ _⟩
  have HT : Hid (∀ X Y : World, Below w.heap.size w X ∧ X.heap[w.heap.size]? = some (.cells #[.string prompt, .string text, .int .i64 cur, .int .i64 W0] 25 (0, 0)) → Below X.heap.size X Y → Below w.heap.size w Y ∧ Y.heap[w.heap.size]? = some (.cells #[.string prompt, .string text, .int .i64 cur, .int .i64 W0] 25 (0, 0))) := fun X Y hX hY => ⟨hX.1.trans (hY.mono hX.1.size), (hY.block _ (Array.getElem?_eq_some_iff.1 hX.2).1).trans hX.2⟩
  clear hM hT hW hWb hW1 hnar hrows hall hrl hp ht tb hlo0 hlo1 CR0 CL0 hR hnR hn1 hfs
  go_enter Tryd.func5, Tryd.ntmps5
  go_upto_region 3 with (go_at_call 7; refine (CA.out _ HB0.out.1).mono ?_; clear CA; rintro e w1 ⟨rfl, HB1⟩; have HX1 := HT.out _ w1 HB0.out HB1.out; obtain ⟨⟨x0, x1, x2, x3⟩, -⟩ := box4 HX1.2; replace HX1 : Hid _ := HX1)
  go_upto_region 4 with (go_at_call 8; refine (CR.out _ HX1.out.1).mono ?_; clear CR; rintro e w2 ⟨oaw, okw, rfl, H2⟩)
  have HW2 : Hid ((Below w.heap.size w (w2.alloc (.cells #[.int .i64 (Wn : Int), .slice oaw nR okw, .int .i64 (cu.1 : Int), .int .i64 (cu.2 : Int)] 30)) ∧ (w2.alloc (.cells #[.int .i64 (Wn : Int), .slice oaw nR okw, .int .i64 (cu.1 : Int), .int .i64 (cu.2 : Int)] 30)).heap[w.heap.size]? = some (.cells #[.string prompt, .string text, .int .i64 cur, .int .i64 W0] 25 (0, 0))) ∧ (w2.alloc (.cells #[.int .i64 (Wn : Int), .slice oaw nR okw, .int .i64 (cu.1 : Int), .int .i64 (cu.2 : Int)] 30)).heap[w2.heap.size]? = some (.cells #[.int .i64 (Wn : Int), .slice oaw nR okw, .int .i64 (cu.1 : Int), .int .i64 (cu.2 : Int)] 30 (0, 0)) ∧ RdRw (w2.alloc (.cells #[.int .i64 (Wn : Int), .slice oaw nR okw, .int .i64 (cu.1 : Int), .int .i64 (cu.2 : Int)] 30)) (.slice oaw nR okw) R) := by
    have hb : Below w2.heap.size w2 (w2.alloc (.cells #[.int .i64 (Wn : Int), .slice oaw nR okw, .int .i64 (cu.1 : Int), .int .i64 (cu.2 : Int)] 30)) := (Below.refl _ w2).alloc (Nat.le_refl _) _
    exact ⟨HT.out _ _ (HT.out _ _ HX1.out H2.out.2) hb, World.alloc_heap_new _ _, H2.out.1.below (Nat.le_refl _) hb⟩
  clear x0 x1 x2 x3 H2 HX1 HB1 HB0
  generalize (w2.alloc (.cells #[.int .i64 (Wn : Int), .slice oaw nR okw, .int .i64 (cu.1 : Int), .int .i64 (cu.2 : Int)] 30)) = W2 at HW2 ⊢
  generalize w2.heap.size = b3 at HW2 ⊢
  obtain ⟨⟨x0, x1, x2, x3⟩, -⟩ := box4 HW2.out.1.2
  go_upto_region 5 with (go_at_call 10; refine (CL.out _ HW2.out.1.1).mono ?_; rintro e w3 ⟨og, ok, rfl, H3⟩)
  have HW3 : Hid (Below W2.heap.size W2 (w3.alloc (.cells #[.int .i64 (Wn : Int), .slice (some ⟨og, 0, none⟩) nR ok, .int .i64 (cu.1 : Int), .int .i64 (cu.2 : Int)] 30)) ∧ (w3.alloc (.cells #[.int .i64 (Wn : Int), .slice (some ⟨og, 0, none⟩) nR ok, .int .i64 (cu.1 : Int), .int .i64 (cu.2 : Int)] 30)).heap[w3.heap.size]? = some (.cells #[.int .i64 (Wn : Int), .slice (some ⟨og, 0, none⟩) nR ok, .int .i64 (cu.1 : Int), .int .i64 (cu.2 : Int)] 30 (0, 0)) ∧ Fr W2 (.slice (some ⟨og, 0, none⟩) nR ok) R (w3.alloc (.cells #[.int .i64 (Wn : Int), .slice (some ⟨og, 0, none⟩) nR ok, .int .i64 (cu.1 : Int), .int .i64 (cu.2 : Int)] 30)) ∧ w3.heap.size < (w3.alloc (.cells #[.int .i64 (Wn : Int), .slice (some ⟨og, 0, none⟩) nR ok, .int .i64 (cu.1 : Int), .int .i64 (cu.2 : Int)] 30)).heap.size ∧ W2.heap.size ≤ w3.heap.size) := by
    have hb : Below w3.heap.size w3 (w3.alloc (.cells #[.int .i64 (Wn : Int), .slice (some ⟨og, 0, none⟩) nR ok, .int .i64 (cu.1 : Int), .int .i64 (cu.2 : Int)] 30)) := (Below.refl _ w3).alloc (Nat.le_refl _) _
    exact ⟨H3.out.2.trans (hb.mono H3.out.2.size), World.alloc_heap_new _ _, H3.out.1.below hb, by simp, H3.out.2.size⟩
  clear x0 x1 x2 x3 H3
  generalize (w3.alloc (.cells #[.int .i64 (Wn : Int), .slice (some ⟨og, 0, none⟩) nR ok, .int .i64 (cu.1 : Int), .int .i64 (cu.2 : Int)] 30)) = W3 at HW3 ⊢
  generalize w3.heap.size = b4 at HW3 ⊢
  have HY3 : Hid (Below w.heap.size w W3 ∧ W3.heap[w.heap.size]? = some (.cells #[.string prompt, .string text, .int .i64 cur, .int .i64 W0] 25 (0, 0))) := HT.out _ _ HW2.out.1 HW3.out.1
  obtain ⟨⟨x0, x1, x2, x3⟩, -⟩ := box4 HY3.out.2
  go_upto_region 6 with (go_at_call 10; refine (CL.out _ HY3.out.1).mono ?_; rintro e w4 ⟨hg, hk, rfl, H4⟩)
  have HW4 : Hid (Below W3.heap.size W3 (w4.alloc (.cells #[.int .i64 (Wn : Int), .slice (some ⟨hg, 0, none⟩) nR hk, .int .i64 (cu.1 : Int), .int .i64 (cu.2 : Int)] 30)) ∧ (w4.alloc (.cells #[.int .i64 (Wn : Int), .slice (some ⟨hg, 0, none⟩) nR hk, .int .i64 (cu.1 : Int), .int .i64 (cu.2 : Int)] 30)).heap[w4.heap.size]? = some (.cells #[.int .i64 (Wn : Int), .slice (some ⟨hg, 0, none⟩) nR hk, .int .i64 (cu.1 : Int), .int .i64 (cu.2 : Int)] 30 (0, 0)) ∧ Fr W3 (.slice (some ⟨hg, 0, none⟩) nR hk) R (w4.alloc (.cells #[.int .i64 (Wn : Int), .slice (some ⟨hg, 0, none⟩) nR hk, .int .i64 (cu.1 : Int), .int .i64 (cu.2 : Int)] 30)) ∧ w4.heap.size < (w4.alloc (.cells #[.int .i64 (Wn : Int), .slice (some ⟨hg, 0, none⟩) nR hk, .int .i64 (cu.1 : Int), .int .i64 (cu.2 : Int)] 30)).heap.size ∧ W3.heap.size ≤ w4.heap.size) := by
    have hb : Below w4.heap.size w4 (w4.alloc (.cells #[.int .i64 (Wn : Int), .slice (some ⟨hg, 0, none⟩) nR hk, .int .i64 (cu.1 : Int), .int .i64 (cu.2 : Int)] 30)) := (Below.refl _ w4).alloc (Nat.le_refl _) _
    exact ⟨H4.out.2.trans (hb.mono H4.out.2.size), World.alloc_heap_new _ _, H4.out.1.below hb, by simp, H4.out.2.size⟩
  clear x0 x1 x2 x3 H4
  generalize (w4.alloc (.cells #[.int .i64 (Wn : Int), .slice (some ⟨hg, 0, none⟩) nR hk, .int .i64 (cu.1 : Int), .int .i64 (cu.2 : Int)] 30)) = W4 at HW4 ⊢
  generalize w4.heap.size = b5 at HW4 ⊢
  have HY4 : Hid (Below w.heap.size w W4 ∧ W4.heap[w.heap.size]? = some (.cells #[.string prompt, .string text, .int .i64 cur, .int .i64 W0] 25 (0, 0))) := HT.out _ _ HY3.out HW4.out.1
  have h43 : W4.heap[b3]? = some (.cells #[.int .i64 (Wn : Int), .slice oaw nR okw, .int .i64 (cu.1 : Int), .int .i64 (cu.2 : Int)] 30 (0, 0)) := (HW4.out.1.block _ (Nat.lt_of_lt_of_le (Array.getElem?_eq_some_iff.1 HW2.out.2.1).1 HW3.out.1.size)).trans ((HW3.out.1.block _ (Array.getElem?_eq_some_iff.1 HW2.out.2.1).1).trans HW2.out.2.1)
  have h44 : W4.heap[b4]? = some (.cells #[.int .i64 (Wn : Int), .slice (some ⟨og, 0, none⟩) nR ok, .int .i64 (cu.1 : Int), .int .i64 (cu.2 : Int)] 30 (0, 0)) := (HW4.out.1.block _ HW3.out.2.2.2.1).trans HW3.out.2.1
  obtain ⟨⟨y0, y1, y2, y3⟩, -⟩ := box4 h43
  obtain ⟨⟨z0, z1, z2, z3⟩, -⟩ := box4 h44
  have HS4 : Hid (RdRw W4 (.slice (some ⟨og, 0, none⟩) nR ok) R ∧ RdRw W4 (.slice oaw nR okw) R) := ⟨fr_rdK (HW3.out.2.2.1.below HW4.out.1), (HW2.out.2.2.below (Nat.le_refl _) HW3.out.1).below (Nat.le_refl _) HW4.out.1⟩
  clear h43 h44
  go_upto_region 9 with (go_at_call 9; refine (CS.out _ _ _ HS4.out.1 HS4.out.2).mono ?_; clear y0 y1 y2 y3 z0 z1 z2 z3; rintro e w5 ⟨rfl, H5⟩)
  -- the rows
  have hf5 : Fr W2 (.slice (some ⟨og, 0, none⟩) nR ok) R w5 := (HW3.out.2.2.1.below HW4.out.1).below H5.out
  obtain ⟨vs, hvl, hown5, hdis, heach5⟩ := fr_vs hf5
  rw [HR.out.1] at hown5 hvl
  have hn1 : nR = nR - 1 + 1 := by have := HR.out.2.1; omega
  have h45 : w5.heap[b4]? = some (.cells #[.int .i64 (Wn : Int), .slice (some ⟨og, 0, none⟩) nR ok, .int .i64 (cu.1 : Int), .int .i64 (cu.2 : Int)] 30 (0, 0)) := (H5.out.block _ (Nat.lt_of_lt_of_le HW3.out.2.2.2.1 HW4.out.1.size)).trans ((HW4.out.1.block _ HW3.out.2.2.2.1).trans HW3.out.2.1)
  obtain ⟨⟨z0, z1, z2, z3⟩, -⟩ := box4 h45
  have hW25 : W2.heap.size ≤ w5.heap.size := Nat.le_trans HW3.out.1.size (Nat.le_trans HW4.out.1.size H5.out.size)
  obtain ⟨i1, hi1, hk0, hk1, hk2⟩ := info_parts infoLCE
  obtain ⟨v6, w6, hrun, hown6, hg6, -, hob6⟩ := run_append_own_at (P := Tryd.prog) (w := w5) W2.heap.size 26 26 40 i1 (.slice none 0 0) 1 24 Tryd.underlying26 hi1 hk0 hk1 hk2 rfl (by omega) (.slice none 0 0) 0 [] (World.ownsRow_nil _ _ _ _) ⟨og, 0, none⟩ nR ok vs (by rw [hvl]; omega) (fun j u hu => by
    rw [add_atK og j]
    have hjl := (List.getElem?_eq_some_iff.1 hu).1
    exact (hown5.cellAt j (by omega)).trans hu) (fun u hu => by
    obtain ⟨j, hj⟩ := List.getElem?_of_mem hu
    have hjl := (List.getElem?_eq_some_iff.1 hj).1
    obtain ⟨a, k, e⟩ := own_formO (heach5 j u (R[j]'(by have := HR.out.1; omega)) hj (List.getElem?_eq_getElem _))
    rw [e]
    rfl) (by have := HR.out.2.2.1; unfold maxLen; omega) (by have := HR.out.2.2.1; omega) hW25
  rw [Nat.zero_add, List.nil_append] at hown6
  have hown6' := hown6
  rw [hn1] at hown6'
  obtain ⟨gr, kr, rfl⟩ := ownsRow_succ hown6'
  rw [← hn1] at hrun hown6
  have hgr : w5.heap.size ≤ gr := by
    rcases hob6 with e | e
    · cases e
    · have : gr = w5.heap.size := by cases e; rfl
      omega
  have hb6 : Below w5.heap.size w5 w6 := below_of_none hg6
  have hvb : ∀ (i : Nat) v, vs[i]? = some v → ∃ l, R[i]? = some l ∧ W3.ownsRow W2.heap.size 42 2 v l.length (ccs l) ∧ w6.ownsRow W2.heap.size 42 2 v l.length (ccs l) ∧ l.length ≤ 65535 := fun i v hv => by
    have hil := (List.getElem?_eq_some_iff.1 hv).1
    obtain ⟨l, hl⟩ : ∃ l, R[i]? = some l := ⟨R[i]'(by have := HR.out.1; omega), List.getElem?_eq_getElem _⟩
    refine ⟨l, hl, ?_, own_nextO (heach5 i v l hv hl) hb6, HR.out.2.2.2 l (List.mem_of_getElem? hl)⟩
    obtain ⟨vs', hvl', hown', -, heach'⟩ := fr_vs HW3.out.2.2.1
    rw [HR.out.1] at hown'
    have hs : w5.ownsRow W2.heap.size 40 1 (.slice (some ⟨og, 0, none⟩) nR ok) nR vs' := own_nextO (own_nextO hown' HW4.out.1) H5.out
    have e1 : w5.cell? ⟨og, i, none⟩ = vs'[i]? := hs.cellAt i (by omega)
    have e2 : w5.cell? ⟨og, i, none⟩ = vs[i]? := hown5.cellAt i (by omega)
    rw [e1, hv] at e2
    exact heach' i v l e2 hl
  have hb26 : Below W2.heap.size W2 w6 := HW3.out.1.trans ((HW4.out.1.mono HW3.out.1.size).trans ((H5.out.mono (Nat.le_trans HW3.out.1.size HW4.out.1.size)).trans (hb6.mono hW25)))
  have hs56 := hb6.size
  have hs3 : W3.heap.size ≤ w5.heap.size := Nat.le_trans HW4.out.1.size H5.out.size
  have hvw : ∀ v ∈ vs, ∀ g, v.ownBlock = some g → W2.heap.size ≤ g ∧ g < W3.heap.size := fun v hv g e => by
    obtain ⟨i, hi⟩ := List.getElem?_of_mem hv
    obtain ⟨l, -, h3, -⟩ := hvb i v hi
    exact (own_blkO h3 e).2
  have hgr6 : gr < w6.heap.size := (own_blkO hown6 (g := gr) rfl).2.2
  have HMW : Hid (Mw W2 w6 vs (R.map List.length) (fun i => match R[i]? with | some l => ccs l | none => []) w6) := ⟨hb26, Nat.le_refl _, fun _ _ _ => rfl, fun i v n hv hn => by
    obtain ⟨l, hl, -, h6, -⟩ := hvb i v hv
    rw [List.getElem?_map, hl] at hn
    obtain rfl := Option.some.inj hn
    simp only [hl]
    exact h6⟩
  have CM : Hid (∀ look X Y, (look = true → ∀ (i : Nat) n, (R.map List.length)[i]? = some n → X i = mks (offN (R.map List.length) i) n) → Mw W2 w6 vs (R.map List.length) X Y → Calls Tryd.prog 15 #[.slice (some ⟨gr, 0, none⟩) nR kr, .bool look] Y fun e Z => e = .returned (.bool true) ∧ Hid (Mx W2 w6 vs (R.map List.length) Z)) := fun look X Y hX hY =>
    mark_any look hvl (by rw [List.length_map]; exact HR.out.1) HR.out.2.2.1 (fun n hn => by obtain ⟨l, hl, rfl⟩ := List.mem_map.1 hn; exact HR.out.2.2.2 l hl) hgr6 (fun v hv e => by have := hvw v hv gr e; omega) (fun i v hv => (hown6.cellAt i (by have := (List.getElem?_eq_some_iff.1 hv).1; omega)).trans hv) hdis X hX Y hY
  -- what stays of all that isn't a row's own block
  have HKP : Hid (∀ Y, Mx W2 w6 vs (R.map List.length) Y → (∀ (i : Nat) v, vs[i]? = some v → Y.cell? ⟨gr, i, none⟩ = some v) ∧ L3k W2 W3 b4 b5 og nR ok #[.int .i64 (Wn : Int), .slice (some ⟨og, 0, none⟩) nR ok, .int .i64 (cu.1 : Int), .int .i64 (cu.2 : Int)] #[.int .i64 (Wn : Int), .slice (some ⟨hg, 0, none⟩) nR hk, .int .i64 (cu.1 : Int), .int .i64 (cu.2 : Int)] (.slice (some ⟨hg, 0, none⟩) nR hk) R Y) := fun Y ⟨X, hX, hall⟩ => by
    have kt : ∀ {k : Nat} {cs : Array Value} {t : TypeId}, w6.heap[k]? = some (.cells cs t (0, 0)) → t ≠ 42 → Y.heap[k]? = w6.heap[k]? := fun {k cs t} hk ht => hX.keep k (Array.getElem?_eq_some_iff.1 hk).1 (fun v hv => by
      obtain ⟨i, hi⟩ := List.getElem?_of_mem hv
      obtain ⟨l, -, -, h6, -⟩ := hvb i v hi
      exact own_ty h6 hk ht)
    have h64 : w6.heap[b4]? = some (.cells #[.int .i64 (Wn : Int), .slice (some ⟨og, 0, none⟩) nR ok, .int .i64 (cu.1 : Int), .int .i64 (cu.2 : Int)] 30 (0, 0)) := (hb6.block _ (Array.getElem?_eq_some_iff.1 h45).1).trans h45
    have h65 : w6.heap[b5]? = some (.cells #[.int .i64 (Wn : Int), .slice (some ⟨hg, 0, none⟩) nR hk, .int .i64 (cu.1 : Int), .int .i64 (cu.2 : Int)] 30 (0, 0)) := (hb6.block _ (Nat.lt_of_lt_of_le HW4.out.2.2.2.1 H5.out.size)).trans ((H5.out.block _ HW4.out.2.2.2.1).trans HW4.out.2.1)
    have hg6 : Fr W3 (.slice (some ⟨hg, 0, none⟩) nR hk) R w6 := (HW4.out.2.2.1.below H5.out).below hb6
    have ho6 := own_nextO hown5 hb6
    refine ⟨fun i v hv => ?_, hX.bel, (kt h64 (by decide)).trans h64, (kt h65 (by decide)).trans h65, fr_keep hg6 (fun k h1 h2 => hX.keep k h2 (fun v hv e => by have := hvw v hv k e; omega)), _, o_keep ho6 (fun g e => ?_)⟩
    · obtain ⟨⟨cur', hc'⟩, -⟩ := own_blkO hown6 (g := gr) rfl
      exact (World.cell?_of_block (a := ⟨gr, i, none⟩) (kt hc' (by decide))).trans ((hown6.cellAt i (by have := (List.getElem?_eq_some_iff.1 hv).1; omega)).trans hv)
    · obtain ⟨⟨cur', hc'⟩, -⟩ := own_blkO ho6 e
      exact kt hc' (by decide)
  have HVS : Hid (vs.length = nR ∧ Dis vs ∧ (∀ v ∈ vs, ∀ g, v.ownBlock = some g → g < w6.heap.size) ∧ W2.heap.size ≤ w6.heap.size ∧ og < W3.heap.size ∧ ∀ (i : Nat) v, vs[i]? = some v → ∃ a n c, v = .slice a n c ∧ (R.map List.length)[i]? = some n ∧ n ≤ 65535) := ⟨hvl, hdis, fun v hv g e => by have := hvw v hv g e; omega, hb26.size, by
    obtain ⟨vs', -, hown', -⟩ := fr_vs HW3.out.2.2.1
    exact (own_blkO hown' (g := og) rfl).2.2, fun i v hv => by
    obtain ⟨l, hl, -, h6, hle⟩ := hvb i v hv
    obtain ⟨a, c, rfl⟩ := own_formO h6
    exact ⟨a, _, c, rfl, by rw [List.getElem?_map, hl]; rfl, hle⟩⟩
  have HW6 : Hid (Below W2.heap.size W2 w6) := hb26
  clear hb26 hs56 hs3 hvw hgr6 hvl hdis hvb hown5 hown6 hown6' hg6 hob6 hgr hb6 hf5 heach5 h45 hn1 hW25 z0 z2 z3
  go_wp2_with (first | (at_builtin; refine Lib.wpList_append_run _ rfl _ _ 26 26 rfl _ _ rfl rfl _ w6 hrun ?_; clear hrun z1) | (go_at_call 15; refine (CM.out false _ _ (fun e => by cases e) HMW.out).mono ?_; rintro e w7 ⟨rfl, H7⟩))
  clear HMW
  go_loopw [7] (fun t7 wr => ∃ i : Nat, i ≤ nR ∧ t7 = .int .i64 i ∧ Hid (Mx W2 w6 vs (R.map List.length) wr)) (fun t7 _ => nR - (intOf t7).toNat)
  case atStart => exact ⟨0, Nat.zero_le _, rfl, H7⟩
  case round =>
    obtain ⟨i, hi, rfl, HQ⟩ := hrel
    clear H7
    by_cases hlt : i < nR
    · obtain ⟨wo, hwo⟩ : ∃ wo, wo = wr := ⟨_, rfl⟩
      subst hwo
      obtain ⟨v, hv⟩ : ∃ v, vs[i]? = some v := ⟨vs[i]'(by rw [HVS.out.1]; exact hlt), List.getElem?_eq_getElem _⟩
      obtain ⟨a, n, c, rfl, hn, hn6⟩ := HVS.out.2.2.2.2.2 i v hv
      have hcr := (HKP.out wo HQ.out).1 i _ hv
      have hib : i ≤ 16777216 := by have := HR.out; omega
      have HG0 : Hid (Gs W2 w6 vs (R.map List.length) a n c (offN (R.map List.length) i) 0 (.slice a n c) wo) := by
        refine ⟨HQ.out, ?_⟩
        obtain ⟨X, hX, hall⟩ := HQ.out
        have hr := hX.rows i _ n hv hn
        rw [hall i n hn] at hr
        exact ⟨_, hr, .inl ⟨rfl, List.take_of_length_le (by rw [mks_len]; exact Nat.le_refl _)⟩⟩
      have HVN : Hid (vs[i]? = some (.slice a n c) ∧ (R.map List.length)[i]? = some n ∧ i < nR ∧ n ≤ 65535) := ⟨hv, hn, hlt, hn6⟩
      clear hv hn
      go_wp2
      go_loopw [8, 9] (fun t8 t9 wr => ∃ j : Nat, j ≤ 17 ∧ t9 = .int .i64 j ∧ Hid (Gs W2 w6 vs (R.map List.length) a n c (offN (R.map List.length) i) j t8 wr)) (fun _ t9 _ => 17 - (intOf t9).toNat)
      case atStart => exact ⟨0, by omega, rfl, HG0⟩
      case round =>
        obtain ⟨j, hj, rfl, HG⟩ := hrel
        clear HG0
        by_cases hj17 : j < 17
        · obtain ⟨v3, w8, hrun, hG1⟩ := HG.out.app HVS.out.2.2.2.1 HVS.out.2.2.1 HVS.out.2.1 HVN.out.1 HVN.out.2.1 (.string ⟨#[103, 114, 111, 119, 110]⟩) (.int .i64 0) rfl rfl (by have := HVN.out; omega)
          have HG1 : Hid (Gs W2 w6 vs (R.map List.length) a n c (offN (R.map List.length) i) (j + 1) v3 w8) := hG1
          clear hG1 HG
          go_wp2_with (at_builtin; refine Lib.wpList_append_run _ rfl _ _ 40 40 rfl _ _ rfl rfl _ w8 hrun ?_; clear hrun)
          exact ⟨⟨j + 1, by omega, by go_num, HG1⟩, by simp [intOf]; omega⟩
        · have HM2 : Hid (Mx W2 w6 vs (R.map List.length) wr) := HG.out.mx
          clear HG
          go_wp2
          exact ⟨⟨i + 1, by have := HVN.out.2.2.1; omega, by go_num, HM2⟩, by have := HVN.out.2.2.1; simp [intOf]; omega⟩
    · obtain ⟨X, hX, hall⟩ := HQ.out
      have CT := CM.out true X wr (fun _ => hall) hX
      clear hX hall CM hi HQ
      go_wp2_with (go_at_call 15; refine CT.mono ?_; clear CT; rintro e w20 ⟨rfl, H20⟩)
      have HL0 : Hid (L3k W2 W3 b4 b5 og nR ok #[.int .i64 (Wn : Int), .slice (some ⟨og, 0, none⟩) nR ok, .int .i64 (cu.1 : Int), .int .i64 (cu.2 : Int)] #[.int .i64 (Wn : Int), .slice (some ⟨hg, 0, none⟩) nR hk, .int .i64 (cu.1 : Int), .int .i64 (cu.2 : Int)] (.slice (some ⟨hg, 0, none⟩) nR hk) R w20) := (HKP.out w20 H20.out).2
      clear H20 HKP
      go_loopw [10] (fun t10 wr => ∃ i : Nat, i ≤ nR ∧ t10 = .int .i64 i ∧ Hid (L3k W2 W3 b4 b5 og nR ok #[.int .i64 (Wn : Int), .slice (some ⟨og, 0, none⟩) nR ok, .int .i64 (cu.1 : Int), .int .i64 (cu.2 : Int)] #[.int .i64 (Wn : Int), .slice (some ⟨hg, 0, none⟩) nR hk, .int .i64 (cu.1 : Int), .int .i64 (cu.2 : Int)] (.slice (some ⟨hg, 0, none⟩) nR hk) R wr)) (fun t10 _ => nR - (intOf t10).toNat)
      case atStart => exact ⟨0, Nat.zero_le _, rfl, HL0⟩
      case round =>
        obtain ⟨i, hi, rfl, HL⟩ := hrel
        clear HL0
        obtain ⟨⟨z0, z1, z2, z3⟩, -⟩ := box4 HL.out.bf
        by_cases hlt3 : i < nR
        · obtain ⟨hl1, ⟨u, hcu⟩, hfz⟩ := HL.out.set HVS.out.2.2.2.2.1 hlt3
          have HL1 : Hid (L3k W2 W3 b4 b5 og nR ok #[.int .i64 (Wn : Int), .slice (some ⟨og, 0, none⟩) nR ok, .int .i64 (cu.1 : Int), .int .i64 (cu.2 : Int)] #[.int .i64 (Wn : Int), .slice (some ⟨hg, 0, none⟩) nR hk, .int .i64 (cu.1 : Int), .int .i64 (cu.2 : Int)] (.slice (some ⟨hg, 0, none⟩) nR hk) R (wr.setCell ⟨og, i, none⟩ (.slice none 0 0))) := hl1
          have hib : i ≤ 16777216 := by have := HR.out; omega
          have HI3 : Hid (i < nR) := hlt3
          clear hl1 HL z0 z2 z3
          go_wp2
          exact ⟨⟨i + 1, by have := HI3.out; omega, by go_num, HL1⟩, by have := HI3.out; simp [intOf]; omega⟩
        · clear z0 z2 z3
          go_wp2_with (fail)
          have HV0 : Hid (Below W2.heap.size W2 wr ∧ wr.heap[b5]? = some (.cells #[.int .i64 (Wn : Int), .slice (some ⟨hg, 0, none⟩) nR hk, .int .i64 (cu.1 : Int), .int .i64 (cu.2 : Int)] 30 (0, 0)) ∧ Fr W3 (.slice (some ⟨hg, 0, none⟩) nR hk) R wr) := ⟨HL.out.bel, HL.out.bg, HL.out.fg⟩
          clear HL z1 hlt3
          have HX : Hid (∀ Y, Below wr.heap.size wr Y → Below w.heap.size w Y ∧ (Y.cell? ⟨w.heap.size, 0, none⟩ = some (.string prompt) ∧ Y.cell? ⟨w.heap.size, 1, none⟩ = some (.string text) ∧ Y.cell? ⟨w.heap.size, 2, none⟩ = some (.int .i64 cur) ∧ Y.cell? ⟨w.heap.size, 3, none⟩ = some (.int .i64 W0)) ∧ (Y.cell? ⟨b3, 0, none⟩ = some (.int .i64 (Wn : Int)) ∧ Y.cell? ⟨b3, 1, none⟩ = some (.slice oaw nR okw) ∧ Y.cell? ⟨b3, 2, none⟩ = some (.int .i64 (cu.1 : Int)) ∧ Y.cell? ⟨b3, 3, none⟩ = some (.int .i64 (cu.2 : Int))) ∧ (Y.cell? ⟨b5, 0, none⟩ = some (.int .i64 (Wn : Int)) ∧ Y.cell? ⟨b5, 1, none⟩ = some (.slice (some ⟨hg, 0, none⟩) nR hk) ∧ Y.cell? ⟨b5, 2, none⟩ = some (.int .i64 (cu.1 : Int)) ∧ Y.cell? ⟨b5, 3, none⟩ = some (.int .i64 (cu.2 : Int))) ∧ RdRw Y (.slice oaw nR okw) R ∧ RdRw Y (.slice (some ⟨hg, 0, none⟩) nR hk) R) := fun Y hY => by
            have hb2 : Below W2.heap.size W2 Y := HV0.out.1.trans (hY.mono HV0.out.1.size)
            obtain ⟨⟨x0, x1, x2, x3⟩, -⟩ := box4 ((hb2.block _ (Array.getElem?_eq_some_iff.1 HW2.out.1.2).1).trans HW2.out.1.2)
            obtain ⟨⟨y0, y1, y2, y3⟩, -⟩ := box4 ((hb2.block _ (Array.getElem?_eq_some_iff.1 HW2.out.2.1).1).trans HW2.out.2.1)
            obtain ⟨⟨z0, z1, z2, z3⟩, -⟩ := box4 ((hY.block _ (Array.getElem?_eq_some_iff.1 HV0.out.2.1).1).trans HV0.out.2.1)
            exact ⟨HW2.out.1.1.trans (hb2.mono HW2.out.1.1.size), ⟨x0, x1, x2, x3⟩, ⟨y0, y1, y2, y3⟩, ⟨z0, z1, z2, z3⟩, HW2.out.2.2.below (Nat.le_refl _) hb2, fr_rdK (HV0.out.2.2.below hY)⟩
          have HD : Hid (Below wr.heap.size wr wr.drew) := (Below.refl _ wr).drew
          have CL2 : Hid (∀ X, Below w.heap.size w X → Calls Tryd.prog 10 #[.string prompt, .string text, .int .i64 cur, .int .i64 W0] X fun e Y => ∃ oq okq, e = .returned (.agg #[.int .i64 (Wn : Int), .slice (some ⟨oq, 0, none⟩) nR okq, .int .i64 (cu.1 : Int), .int .i64 (cu.2 : Int)]) ∧ Hid (RdRw Y (.slice (some ⟨oq, 0, none⟩) nR okq) R ∧ Below X.heap.size X Y)) := fun X hX => (CL.out X hX).mono fun e Y ⟨oq, okq, he, HF⟩ => ⟨oq, okq, he, fr_rdK HF.out.1, HF.out.2⟩
          have CSa : Hid (∀ X, Below wr.heap.size wr X → Calls Tryd.prog 9 #[.agg #[.int .i64 (Wn : Int), .slice (some ⟨hg, 0, none⟩) nR hk, .int .i64 (cu.1 : Int), .int .i64 (cu.2 : Int)], .agg #[.int .i64 (Wn : Int), .slice oaw nR okw, .int .i64 (cu.1 : Int), .int .i64 (cu.2 : Int)]] X fun e Y => e = .returned (.bool true) ∧ Hid (Below X.heap.size X Y)) := fun X hX => CS.out X _ _ (HX.out X hX).2.2.2.2.2 (HX.out X hX).2.2.2.2.1
          have CSb : Hid (∀ X oq okq, RdRw X (.slice (some ⟨oq, 0, none⟩) nR okq) R → Below wr.heap.size wr X → Calls Tryd.prog 9 #[.agg #[.int .i64 (Wn : Int), .slice (some ⟨oq, 0, none⟩) nR okq, .int .i64 (cu.1 : Int), .int .i64 (cu.2 : Int)], .agg #[.int .i64 (Wn : Int), .slice oaw nR okw, .int .i64 (cu.1 : Int), .int .i64 (cu.2 : Int)]] X fun e Y => e = .returned (.bool true) ∧ Hid (Below X.heap.size X Y)) := fun X oq okq h1 hX => CS.out X _ _ h1 (HX.out X hX).2.2.2.2.1
          obtain ⟨-, ⟨x0, x1, x2, x3⟩, ⟨y0, y1, y2, y3⟩, ⟨z0, z1, z2, z3⟩, -⟩ := HX.out wr (Below.refl _ wr)
          clear HV0 CS CL HVS HW6 HY4 HY3 HW4 HW3 H5 HS4
          go_region_held3 (fun w' => w'.cell? ⟨w.heap.size, 0, none⟩ = some (.string prompt) ∧ w'.cell? ⟨w.heap.size, 1, none⟩ = some (.string text) ∧ w'.cell? ⟨w.heap.size, 2, none⟩ = some (.int .i64 cur) ∧ w'.cell? ⟨w.heap.size, 3, none⟩ = some (.int .i64 W0) ∧ w'.cell? ⟨b3, 0, none⟩ = some (.int .i64 (Wn : Int)) ∧ w'.cell? ⟨b3, 1, none⟩ = some (.slice oaw nR okw) ∧ w'.cell? ⟨b3, 2, none⟩ = some (.int .i64 (cu.1 : Int)) ∧ w'.cell? ⟨b3, 3, none⟩ = some (.int .i64 (cu.2 : Int)) ∧ w'.cell? ⟨b5, 0, none⟩ = some (.int .i64 (Wn : Int)) ∧ w'.cell? ⟨b5, 1, none⟩ = some (.slice (some ⟨hg, 0, none⟩) nR hk) ∧ w'.cell? ⟨b5, 2, none⟩ = some (.int .i64 (cu.1 : Int)) ∧ w'.cell? ⟨b5, 3, none⟩ = some (.int .i64 (cu.2 : Int))) (first | go_keep | exact ⟨x0, x1, x2, x3, y0, y1, y2, y3, z0, z1, z2, z3⟩) (first | (go_at_call 9; refine (CSa.out _ HD.out).mono ?_; clear CSa; rintro e w21 ⟨rfl, H21⟩; have HF : Hid (Below wr.heap.size wr w21) := HD.out.trans (H21.out.mono HD.out.size); clear x0 x1 x2 x3 y0 y1 y2 y3 z0 z1 z2 z3; obtain ⟨-, ⟨x0, x1, x2, x3⟩, ⟨y0, y1, y2, y3⟩, ⟨z0, z1, z2, z3⟩, -⟩ := HX.out w21 HF.out) | (go_at_call 10; refine (CL2.out _ (HX.out _ HF.out).1).mono ?_; clear CL2; rintro e w22 ⟨oq, okq, rfl, H22⟩; have HF2 : Hid (Below wr.heap.size wr w22) := HF.out.trans (H22.out.2.mono HF.out.size); clear x0 x1 x2 x3 y0 y1 y2 y3 z0 z1 z2 z3; obtain ⟨-, ⟨x0, x1, x2, x3⟩, ⟨y0, y1, y2, y3⟩, ⟨z0, z1, z2, z3⟩, -⟩ := HX.out w22 HF2.out) | (go_at_call 9; refine (CSb.out _ _ _ H22.out.1 HF2.out).mono ?_; clear CSb; rintro e w23 ⟨rfl, H23⟩; have HF3 : Hid (Below wr.heap.size wr w23) := HF2.out.trans (H23.out.mono HF2.out.size); clear x0 x1 x2 x3 y0 y1 y2 y3 z0 z1 z2 z3; obtain ⟨-, ⟨x0, x1, x2, x3⟩, ⟨y0, y1, y2, y3⟩, ⟨z0, z1, z2, z3⟩, -⟩ := HX.out w23 HF3.out) | fail)
          all_goals
            have HE : Hid (Below w.heap.size w w23) := (HX.out _ HF3.out).1
            clear x0 x1 x2 x3 y0 y1 y2 y3 z0 z1 z2 z3
            go_wp2
            go_ret
            exact ⟨rfl, HE.out⟩
theorem walk_of {H : Type} {d : DataW H} (a : Akf) (w : World) (hT : Lib.Utf8Tabs 0 1 w) (hlo0 : 0 < w.heap.size) (hlo1 : 1 < w.heap.size) (hx : a.p.size + a.t.size ≤ Rows.uptoBulk d) (hk : Rows.uptoSmall H ([d] ++ []) = true) :
    Calls Tryd.prog 5 #[akfv a] w fun e w' => e = .returned (.bool true) ∧ Below w.heap.size w w' := by
  have h : Rows.uptoBulkAll ([d] ++ []) ≤ 1048576 := of_decide_eq_true hk
  simp only [List.append_nil, Rows.uptoBulkAll] at h
  exact walk (by kernel_rfl) a.p a.t a.c a.w (by omega) (by omega) w hT hlo0 hlo1
end Go.Proofs.YtfjoklbiocniiaaDoor.layoutKeeps
