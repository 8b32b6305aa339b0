/-
  Slices of summaries, and the walk of the document's own Join of package metric: what MMath tells. Conditions: the summaries are those of texts, so short that their lists can be made.
-/
import Derived.Test.YtdfemihjnempfaaDoorNRefC
import Derived.Deep.RegionWith
namespace Go.Proofs.YtdfemihjnempfaaDoor
open Go.RowKit Bod Wid

/-- the texts one behind the other -/
def cat (ss : List ByteArray) : ByteArray := ss.foldl (· ++ ·) ByteArray.empty
theorem cat_snoc (ss : List ByteArray) (s : ByteArray) : cat (ss ++ [s]) = cat ss ++ s := by simp [cat]
theorem cat_take {ss : List ByteArray} {k : Nat} {s : ByteArray} (h : ss[k]? = some s) : cat (ss.take (k + 1)) = cat (ss.take k) ++ s := by
  rw [List.take_add_one, h]
  exact cat_snoc _ _
theorem cat_app (a b : List ByteArray) : (cat (a ++ b)).size = (cat a).size + (cat b).size := by
  have h : ∀ (b : List ByteArray) (x y : ByteArray), (b.foldl (· ++ ·) (x ++ y)).size = x.size + (b.foldl (· ++ ·) y).size := fun b => by
    induction b with
    | nil => intro x y; exact size_app x y
    | cons c r ih => intro x y; simp only [List.foldl_cons]; rw [app_assoc]; exact ih x (y ++ c)
  have := h b (cat a) ByteArray.empty
  simpa [cat] using this
theorem cat_le (ss : List ByteArray) (k : Nat) : (cat (ss.take k)).size ≤ (cat ss).size := by
  have := cat_app (ss.take k) (ss.drop k)
  rw [List.take_append_drop] at this
  omega
theorem smr_zero : smr ByteArray.empty = sm0 := rfl
theorem smr_cat0 (ss : List ByteArray) : smr (cat (ss.take 0)) = sm0 := rfl

/-- a slice that reads as the summaries of texts -/
def RdS (W : World) (v : Value) (ss : List ByteArray) : Prop :=
  ∃ a cap, v = .slice a ss.length cap ∧ (ss ≠ [] → ∃ g o, a = some ⟨g, o, none⟩ ∧ g < W.heap.size ∧ ∀ k s, ss[k]? = some s →
    W.cell? ⟨g, o + k * 7, none⟩ = some (.int .i64 (smr s).by') ∧ W.cell? ⟨g, o + k * 7 + 1, none⟩ = some (.int .i64 (smr s).un) ∧ W.cell? ⟨g, o + k * 7 + 2, none⟩ = some (.int .i64 (smr s).cl) ∧ W.cell? ⟨g, o + k * 7 + 3, none⟩ = some (.int .i64 (smr s).ce) ∧
    W.cell? ⟨g, o + k * 7 + 4, none⟩ = some (.int .i64 (smr s).nl) ∧ W.cell? ⟨g, o + k * 7 + 5, none⟩ = some (.string (smr s).hd) ∧ W.cell? ⟨g, o + k * 7 + 6, none⟩ = some (.string (smr s).tl))
/-- what lies where: the result's box and the sum under way -/
structure JS (w : World) (m : Sum) (W : World) : Prop where
  res : W.heap[w.heap.size]? = some (.cells (scs sm0) 25 (0, 0))
  box : W.heap[w.heap.size + 1]? = some (.cells (scs m) 25 (0, 0))
  bel : Below w.heap.size w W
theorem JS.below {w : World} {m : Sum} {W W' : World} (h : JS w m W) (hb : Below W.heap.size W W') : JS w m W' := by
  have kp : ∀ {k : Nat} {o : Obj}, W.heap[k]? = some o → W'.heap[k]? = some o := fun ho => (hb.block _ (Array.getElem?_eq_some_iff.1 ho).1).trans ho
  exact ⟨kp h.res, kp h.box, h.bel.trans (hb.mono h.bel.size)⟩
theorem JS.set {w : World} {m : Sum} {W : World} (h : JS w m W) (x : Sum) : JS w x (((((((W.setCell ⟨w.heap.size + 1, 0, none⟩ (.int .i64 x.by')).setCell ⟨w.heap.size + 1, 1, none⟩ (.int .i64 x.un)).setCell ⟨w.heap.size + 1, 2, none⟩ (.int .i64 x.cl)).setCell ⟨w.heap.size + 1, 3, none⟩ (.int .i64 x.ce)).setCell ⟨w.heap.size + 1, 4, none⟩ (.int .i64 x.nl)).setCell ⟨w.heap.size + 1, 5, none⟩ (.string x.hd)).setCell ⟨w.heap.size + 1, 6, none⟩ (.string x.tl)) := by
  have g := grown2 (grown2 (grown2 (grown2 (grown2 (grown2 (gcell W (w.heap.size + 1) 0 (.int .i64 x.by')) (gcell _ _ 1 (.int .i64 x.un))) (gcell _ _ 2 (.int .i64 x.cl))) (gcell _ _ 3 (.int .i64 x.ce))) (gcell _ _ 4 (.int .i64 x.nl))) (gcell _ _ 5 (.string x.hd))) (gcell _ _ 6 (.string x.tl))
  exact ⟨(g.block _ (Array.getElem?_eq_some_iff.1 h.res).1 (fun e => by have := Option.some.inj e; omega)).trans h.res, set7_box h.box _ _ _ _ _ _ _, h.bel.grown g h.bel.size (fun j e => by have := Option.some.inj e; omega)⟩
theorem JS.drew1 {w : World} {m : Sum} {W : World} (h : JS w m W) : JS w m W.drew := ⟨h.res, h.box, ⟨h.bel.os, h.bel.tape, h.bel.output, h.bel.size, h.bel.block⟩⟩

set_option maxRecDepth 100000 in
set_option maxHeartbeats 4000000 in
theorem rjoin_any (ss : List ByteArray) (v : Value) (w : World) (hv : RdS w v ss) (hs : (cat ss).size ≤ 4398046511000) (hn : ss.length ≤ 4398046511000) :
    Calls Tryd.prog 17 #[v] w fun e W' => e = .returned (sv (smr (cat ss))) ∧ Below w.heap.size w W' := by
  obtain ⟨a, cap, rfl, hr⟩ := hv
  obtain ⟨n, hnn⟩ : ∃ n, ss.length = n := ⟨_, rfl⟩
  rw [hnn] at hn ⊢
  have HN : Hid (ss.length = n) := hnn
  have HR : Hid _ := hr
  have HC : Hid (∀ k s, ss[k]? = some s → Small (smr (cat (ss.take k))) ∧ Small (smr s) ∧ jn2 (smr (cat (ss.take k))) (smr s) = smr (cat (ss.take (k + 1)))) := fun k s hk => by
    have h1 := cat_le ss k
    have h2 := cat_le ss (k + 1)
    have e := cat_take hk
    rw [e, size_app] at h2
    exact ⟨smr_small (by omega), smr_small (by omega), by rw [jn2_smr, e]⟩
  obtain ⟨W1, hW1⟩ : ∃ W1, (w.alloc (.cells #[.int .i64 0, .int .i64 0, .int .i64 0, .int .i64 0, .int .i64 0, .string ⟨#[]⟩, .string ⟨#[]⟩] 25)).alloc (.cells #[.int .i64 0, .int .i64 0, .int .i64 0, .int .i64 0, .int .i64 0, .string ⟨#[]⟩, .string ⟨#[]⟩] 25) = W1 := ⟨_, rfl⟩
  have HJ1 : Hid (JS w (smr (cat (ss.take 0))) W1) := by
    show JS _ _ _
    rw [smr_cat0, ← hW1]
    obtain ⟨p0, p1⟩ := push2' w.heap (.cells (scs sm0) 25) (.cells (scs sm0) 25)
    exact ⟨p0, p1, ((Below.refl _ w).alloc (Nat.le_refl _) _).alloc (by simp) _⟩
  clear hr hnn
  go_enter Tryd.func17, Tryd.ntmps17
  go_wp2
  clear hW1
  go_loopw [4] (fun t wr => ∃ k : Nat, t = .int .i64 k ∧ k ≤ n ∧ Hid (JS w (smr (cat (ss.take k))) wr)) (fun t _ => n - (intOf t).toNat)
  case atStart => exact ⟨0, rfl, Nat.zero_le _, HJ1⟩
  case round =>
    obtain ⟨k, rfl, hk, HK⟩ := hrel
    clear HJ1
    by_cases hlt : k < n
    · obtain ⟨s, hsk⟩ : ∃ s, ss[k]? = some s := ⟨ss[k]'(by rw [HN.out]; exact hlt), List.getElem?_eq_getElem _⟩
      obtain ⟨g, o, hg, hgl, hcell⟩ := (Hid.out HR) (fun e => by rw [e] at hsk; simp at hsk)
      subst hg
      obtain ⟨c0, c1, c2, c3, c4, c5, c6⟩ := hcell k s hsk
      obtain ⟨sm1, sm2, hj⟩ := HC.out k s hsk
      obtain ⟨x, hx⟩ : ∃ x, smr (cat (ss.take k)) = x := ⟨_, rfl⟩
      obtain ⟨y, hy⟩ : ∃ y, smr s = y := ⟨_, rfl⟩
      obtain ⟨z, hz⟩ : ∃ z, smr (cat (ss.take (k + 1))) = z := ⟨_, rfl⟩
      rw [hx] at sm1 hj HK
      rw [hy] at sm2 hj c0 c1 c2 c3 c4 c5 c6
      rw [hz] at hj
      have HZ : Hid (smr (cat (ss.take (k + 1))) = z) := hz
      have cl : ∀ {i : Nat} {u : Value}, w.cell? ⟨g, i, none⟩ = some u → wr.cell? ⟨g, i, none⟩ = some u := fun h => (HK.out.bel.cell (p := ⟨g, _, none⟩) hgl).trans h
      have d0 := cl c0; have d1 := cl c1; have d2 := cl c2; have d3 := cl c3; have d4 := cl c4; have d5 := cl c5; have d6 := cl c6
      obtain ⟨⟨b0, b1, b2, b3, b4, b5, b6⟩, -⟩ := box7 HK.out.box
      have C2 : Hid (∀ W, Below wr.heap.size wr W → Calls Tryd.prog 32 #[sv x, sv y] W fun e W' => e = .returned (sv z) ∧ JS w x W') := fun W hW => (rtwo_any x y sm1 sm2 W).mono fun e W' ⟨h1, h2⟩ => ⟨by rw [h1, hj], HK.out.below (hW.trans (h2.mono hW.size))⟩
      clear hcell c0 c1 c2 c3 c4 c5 c6 cl hx hy hz hj sm1 sm2 hgl
      go_wp2
      go_region_with (go_at_call 32; refine (C2.out _ ?_).mono ?_; (exact ⟨rfl, rfl, rfl, Nat.le_refl _, fun _ _ => rfl⟩); rintro e w2 ⟨rfl, hj2⟩; have HJ2 : Hid (JS w x w2) := hj2; obtain ⟨⟨v0, v1, v2, v3, v4, v5, v6⟩, f0, f1, f2, f3, f4, f5, f6⟩ := box7 hj2.box; have hl2 : w.heap.size + 1 < w2.heap.size := (Array.getElem?_eq_some_iff.1 hj2.box).1; clear hj2)
      all_goals have HJ3 : Hid (JS w z _) := HJ2.out.set z
      all_goals clear HJ2 v0 v1 v2 v3 v4 v5 v6 f0 f1 f2 f3 f4 f5 f6
      all_goals go_wp2
      all_goals exact ⟨⟨k + 1, by go_num, by omega, by rw [HZ.out]; exact HJ3⟩, by simp [intOf]; omega⟩
    · have HK2 : Hid (JS w (smr (cat ss)) wr) := by
        have := HK.out
        rwa [List.take_of_length_le (show ss.length ≤ k by rw [HN.out]; omega)] at this
      clear HK
      obtain ⟨m, hm⟩ : ∃ m, smr (cat ss) = m := ⟨_, rfl⟩
      rw [hm] at HK2
      have HSM : Hid (smr (cat ss) = m) := hm
      clear hm
      obtain ⟨⟨y0, y1, y2, y3, y4, y5, y6⟩, -⟩ := box7 HK2.out.box
      obtain ⟨⟨z0, z1, z2, z3, z4, z5, z6⟩, f0, f1, f2, f3, f4, f5, f6⟩ := box7 HK2.out.res
      have HB : Hid (Below w.heap.size w wr) := HK2.out.bel
      have hz : w.heap.size < wr.heap.size := (Array.getElem?_eq_some_iff.1 HK2.out.res).1
      clear HK2
      go_wp2
      exact bodyPost_ret (v := sv m) (by simp [results, Tryd.results17, go_sem, z0, z1, z2, z3, z4, z5, z6]) rfl ⟨by rw [HSM.out], set7_below HB.out _ _ _ _ _ _ _⟩
end Go.Proofs.YtdfemihjnempfaaDoor
