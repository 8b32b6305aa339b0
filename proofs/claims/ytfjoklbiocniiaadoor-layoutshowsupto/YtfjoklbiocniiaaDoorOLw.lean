/-
  Package layout's Lay: the frame of a prompt and a text. Conditions: the tables of unicode/utf8 lie as their text lays them; no text is longer than 2^28 bytes.
-/
import Derived.Test.YtfjoklbiocniiaaDoorOLyb
import Derived.Test.YtfjoklbiocniiaaDoorOTrm
import Derived.Test.YtfjoklbiocniiaaDoorPkI
namespace Go.Proofs.YtfjoklbiocniiaaDoor
open Go.RowKit Go.Shelf Bod Wid
attribute [local go_sem] Oper.semAt_some
theorem act_nameO {c : Code} {F : Fence} {n : Nat} {P : Program} {Q : Exit → Act → World → Prop} {a : Act} {w : World} (h : ∀ A, A = a → c.wpIn F n P Q A w) : c.wpIn F n P Q a w := h a rfl
/-- the state behind some clusters of the text, and the cursor's place -/
def curF (W : Nat) (text : ByteArray) (cur : Int) (a : Lst × (Nat × Nat)) (c : Clu) : Lst × (Nat × Nat) := (stpL W a.1 (cuOf text c), if (c.to : Int) ≤ cur then (stpL W a.1 (cuOf text c)).pen else a.2)
def curL (W : Nat) (st : Lst) (text : ByteArray) (cur : Int) (l : List Clu) : Lst × (Nat × Nat) := l.foldl (curF W text cur) (st, st.pen)
theorem curL_snoc (W : Nat) (st : Lst) (text : ByteArray) (cur : Int) (l : List Clu) (c : Clu) : curL W st text cur (l ++ [c]) = curF W text cur (curL W st text cur l) c := by simp [curL]
theorem curL_st (W : Nat) (st : Lst) (text : ByteArray) (cur : Int) (l : List Clu) : (curL W st text cur l).1 = layL W st (cus text l) := by
  have : ∀ (l : List Clu) (a : Lst × (Nat × Nat)), (l.foldl (curF W text cur) a).1 = layL W a.1 (cus text l) := by
    intro l
    induction l with
    | nil => intro a; rfl
    | cons c l ih => intro a; rw [List.foldl_cons, ih]; rfl
  exact this l _
/-- the rows of a frame in memory -/
def Fr (w : World) (ov : Value) (R : List (List Cel)) (Y : World) : Prop :=
  ∃ vs : List (List Cel × Value), vs.map Prod.fst = R ∧ Y.ownsRow w.heap.size 40 1 ov vs.length (vs.map Prod.snd) ∧ (∀ o ∈ vs, Y.ownsRow w.heap.size 42 2 o.2 o.1.length (ccs o.1)) ∧ vs.Pairwise fun o p => ∀ g, o.2.ownBlock = some g → p.2.ownBlock ≠ some g
theorem Gd.lower {w v X : World} {lo hi gb : Nat} {W r c : Int} {ov : Value} {vs : List (List Cel × Value)} (h : Gd v lo hi W r c gb ov vs X) (hb : Below w.heap.size w v) : Gd w lo hi W r c gb ov vs X :=
  ⟨hb.trans (h.bel.mono hb.size), Nat.le_trans hb.size h.gbl, h.box, h.gout, row_lower h.orow hb.size, h.oout, fun o ho => ⟨row_lower (h.each o ho).1 hb.size, (h.each o ho).2⟩, h.sep⟩
theorem gty_n {t : TypeId} (h : t ≠ 66 ∧ t ≠ 40 ∧ t ≠ 42) : ¬ Gty t := fun e => by rcases e with e | e | e; exact h.1 e; exact h.2.1 e; exact h.2.2 e
/-- what the rounds may turn -/
def Mo (n Bs lo hi : Nat) (k : Nat) (o : Obj) : Prop := n ≤ k ∧ k ≠ Bs ∧ (k < lo ∨ hi ≤ k) ∧ ∃ vs t fz, o = .cells vs t fz ∧ Gty t
theorem Fg.mo {w X Y : World} {lo hi Bs : Nat} {s : ByteArray} (h : Fg lo hi X Y) (hx : Below w.heap.size w X) (hy : Below w.heap.size w Y) (hB : X.heap[Bs]? = some (.cells #[.string s] 9 (0, 0))) : KpT (Mo w.heap.size Bs lo hi) X Y := ⟨h.size, fun k o hk _ hm => by
  by_cases h1 : k < w.heap.size
  · exact (hy.block k h1).trans ((hx.block k h1).symm.trans hk)
  · by_cases h2 : k = Bs
    · subst h2; rw [hB] at hk; cases hk; exact h.other hB (gty_n (by decide))
    · refine h.block k o hk ?_
      by_cases h3 : lo ≤ k ∧ k < hi
      · exact .inl h3
      · exact .inr (fun h4 => hm ⟨by omega, h2, by omega, h4⟩)⟩
/-- while Lay works: its arguments' boxes, the frame's, the grid's -/
structure Ls (w : World) (lo hi : Nat) (prompt text : ByteArray) (cur : Int) (W : Nat) (pg gb : Nat) (st : Lst) (Y : World) : Prop where
  p0 : Y.heap[w.heap.size]? = some (.cells #[.string prompt] 9 (0, 0))
  p1 : Y.heap[w.heap.size + 1]? = some (.cells #[.string text] 9 (0, 0))
  p2 : Y.heap[w.heap.size + 1 + 1]? = some (.cells #[.int .i64 cur] 3 (0, 0))
  p3 : Y.heap[w.heap.size + 1 + 1 + 1]? = some (.cells #[.int .i64 0, .slice none 0 0, .int .i64 0, .int .i64 0] 30 (0, 0))
  pp : Y.heap[pg]? = some (.cells #[.pointer (some ⟨gb, 0, none⟩)] 59 (0, 0))
  gd : ∃ ov vs, vs.map Prod.fst = st.all ∧ Gd w lo hi W st.rows.length st.col gb ov vs Y
section
variable {w Y Z : World} {lo hi : Nat} {prompt text : ByteArray} {cur : Int} {W pg gb : Nat} {st st' : Lst}
theorem Ls.to (h : Ls w lo hi prompt text cur W pg gb st Y) (hf : Fg lo hi Y Z) (hg : ∃ ov vs, vs.map Prod.fst = st'.all ∧ Gd w lo hi W st'.rows.length st'.col gb ov vs Z) : Ls w lo hi prompt text cur W pg gb st' Z :=
  ⟨hf.other h.p0 (gty_n (by decide)), hf.other h.p1 (gty_n (by decide)), hf.other h.p2 (gty_n (by decide)), hf.other h.p3 (gty_n (by decide)), hf.other h.pp (gty_n (by decide)), hg⟩
theorem Ls.below (h : Ls w lo hi prompt text cur W pg gb st Y) (hb : Below Y.heap.size Y Z) : Ls w lo hi prompt text cur W pg gb st Z :=
  h.to (Fg.of_below hb) (by obtain ⟨ov, vs, h1, h2⟩ := h.gd; exact ⟨ov, vs, h1, h2.below hb⟩)
theorem Ls.bel (h : Ls w lo hi prompt text cur W pg gb st Y) : Below w.heap.size w Y := by obtain ⟨ov, vs, _, h2⟩ := h.gd; exact h2.bel
theorem ls_ab {α : Type} {B : Nat} {f : α → Lst} (hB : w.heap.size + 4 ≤ B) (hpg : pg < B) : Ab B lo hi (fun (a : α) X => Ls w lo hi prompt text cur W pg gb (f a) X) := fun a X Y row h hg hr =>
  ⟨ab_block (o := fun _ : Unit => _) (by omega) () X Y row h.p0 hg hr, ab_block (o := fun _ : Unit => _) (by omega) () X Y row h.p1 hg hr, ab_block (o := fun _ : Unit => _) (by omega) () X Y row h.p2 hg hr, ab_block (o := fun _ : Unit => _) (by omega) () X Y row h.p3 hg hr, ab_block (o := fun _ : Unit => _) hpg () X Y row h.pp hg hr,
   gd_ab (f := fun a => (f a).all) (p := fun a => (((f a).rows.length : Int), ((f a).col : Int))) (by omega) a X Y row h.gd hg hr⟩
end
theorem box1o {W : World} {b : Nat} {v : Value} {t : TypeId} (h : W.heap[b]? = some (.cells #[v] t (0, 0))) : W.cell? ⟨b, 0, none⟩ = some v ∧ W.frozen? ⟨b, 0, none⟩ = false := by simp [World.cell?, World.frozen?, h]
theorem bx_keptO {Bx B0 lo hi B : Nat} {X Y : World} {row : Option Nat} {vs : Array Value} {t : TypeId} (_ : B0 ≤ Bx) (h : X.heap[Bx]? = some (.cells vs t (0, 0))) (hg : X.grownBy Y row) (hr : Turns B lo hi X row) (hl : hi ≤ lo) (_ : B0 = B0) : Y.heap[Bx]? = some (.cells vs t (0, 0)) :=
  (hg.block Bx (Array.getElem?_eq_some_iff.1 h).1 (fun e => by
    obtain ⟨_, (h3 | ⟨o, ho, hc⟩)⟩ := hr Bx e.symm
    · omega
    · rw [h] at ho; cases ho; cases hc)).trans h
theorem Gd.putPL {w Y : World} {lo hi gb b : Nat} {W r c : Int} {ov : Value} {vs : List (List Cel × Value)} {p q : Value} (h : Gd w lo hi W r c gb ov vs Y) (hb : Y.heap[b]? = some (.cells #[p, q] 28 (0, 0))) (hwb : w.heap.size ≤ b) (u u' : Value) : Gd w lo hi W r c gb ov vs ((Y.setCell ⟨b, 0, none⟩ u).setCell ⟨b, 1, none⟩ u') := by
  have g : Y.grownBy ((Y.setCell ⟨b, 0, none⟩ u).setCell ⟨b, 1, none⟩ u') (some b) := o_grown2 (gcell Y b 0 u) (gcell _ b 1 u')
  have other : ∀ k, k ≠ b → k < Y.heap.size → ((Y.setCell ⟨b, 0, none⟩ u).setCell ⟨b, 1, none⟩ u').heap[k]? = Y.heap[k]? := fun k hk hlt => g.block k hlt (fun e => hk (by injection e))
  have hB : Below w.heap.size w ((Y.setCell ⟨b, 0, none⟩ u).setCell ⟨b, 1, none⟩ u') := (h.bel.setCell (p := ⟨b, 0, none⟩) hwb _).setCell (p := ⟨b, 1, none⟩) hwb _
  have ng : ∀ {k : Nat} {vs : Array Value} {t : TypeId} {fz : Nat × Nat}, Y.heap[k]? = some (.cells vs t fz) → t ≠ 28 → ((Y.setCell ⟨b, 0, none⟩ u).setCell ⟨b, 1, none⟩ u').heap[k]? = Y.heap[k]? := fun {k vs t fz} hk ht => other k (fun e => by rw [e, hb] at hk; injection hk with hk; injection hk with _ hk; exact ht hk.symm) (Array.getElem?_eq_some_iff.1 hk).1
  exact ⟨hB, h.gbl, (ng h.box (by decide)).trans h.box, h.gout, o_keep h.orow (fun g e => by obtain ⟨⟨cur, hc⟩, -, -⟩ := o_blk h.orow e; exact ng hc (by decide)), h.oout, fun o ho => ⟨o_keep (h.each o ho).1 (fun g e => by obtain ⟨⟨cur, hc⟩, -, -⟩ := o_blk (h.each o ho).1 e; exact ng hc (by decide)), (h.each o ho).2⟩, h.sep⟩
theorem Ls.putPL {w Y : World} {lo hi : Nat} {prompt text : ByteArray} {cur : Int} {W pg gb b : Nat} {st : Lst} {p q : Value} (h : Ls w lo hi prompt text cur W pg gb st Y) (hb : Y.heap[b]? = some (.cells #[p, q] 28 (0, 0))) (hwb : w.heap.size ≤ b) (u u' : Value) : Ls w lo hi prompt text cur W pg gb st ((Y.setCell ⟨b, 0, none⟩ u).setCell ⟨b, 1, none⟩ u') := by
  have ng : ∀ {k : Nat} {vs : Array Value} {t : TypeId} {fz : Nat × Nat}, Y.heap[k]? = some (.cells vs t fz) → t ≠ 28 → ((Y.setCell ⟨b, 0, none⟩ u).setCell ⟨b, 1, none⟩ u').heap[k]? = some (.cells vs t fz) := fun {k vs t fz} hk ht => by
    have hne : b ≠ k := fun e => by rw [← e, hb] at hk; injection hk with hk; injection hk with _ hk; exact ht hk.symm
    exact (oset_ne (b := b) hne).trans ((oset_ne (b := b) hne).trans hk)
  obtain ⟨ov, vs, h1, h2⟩ := h.gd
  exact ⟨ng h.p0 (by decide), ng h.p1 (by decide), ng h.p2 (by decide), ng h.p3 (by decide), ng h.pp (by decide), ov, vs, h1, h2.putPL hb hwb u u'⟩
set_option maxRecDepth 100000 in
set_option maxHeartbeats 2000000 in
theorem lay0_in (hM : Tryd.prog.follows .mixedOrders = true) (prompt text : ByteArray) (cur W0 : Int) (hp : prompt.size ≤ 268435456) (ht : text.size ≤ 268435456) (w : World) (hT : Lib.Utf8Tabs 0 1 w) (hlo0 : 0 < w.heap.size) (hlo1 : 1 < w.heap.size) (Wn : Nat) (hWn : (Wn : Int) = couW W0) :
    CallsIn Fence.wide 7 Tryd.prog 10 #[.string prompt, .string text, .int .i64 cur, .int .i64 W0] w fun e Y => ∃ ov, e = .returned (.agg #[.int .i64 Wn, ov, .int .i64 (curL Wn (layL Wn lst0 (cus prompt (cl prompt))) text cur (cl text)).2.1, .int .i64 (curL Wn (layL Wn lst0 (cus prompt (cl prompt))) text cur (cl text)).2.2]) ∧ Hid (Fr w ov ((layL Wn (layL Wn lst0 (cus prompt (cl prompt))) (cus text (cl text))).all.map trmL) Y ∧ Below w.heap.size w Y) := by
  have hW := couW_in W0
  have hW1 : 1 ≤ Wn := by omega
  have hW2 : Wn ≤ 65535 := by omega
  have HWN0 : Hid (couW W0 = (Wn : Int)) := hWn.symm
  clear hWn hW
  obtain ⟨wa, hwa⟩ : ∃ wa, ((((w.alloc (.cells #[.string prompt] 9)).alloc (.cells #[.string text] 9)).alloc (.cells #[.int .i64 cur] 3)).alloc (.cells #[.int .i64 0, .slice none 0 0, .int .i64 0, .int .i64 0] 30)) = wa := ⟨_, rfl⟩
  have HWA : Hid (Below w.heap.size w wa ∧ wa.heap.size = w.heap.size + 4 ∧ (wa.heap[w.heap.size]? = some (.cells #[.string prompt] 9 (0, 0)) ∧ wa.heap[w.heap.size + 1]? = some (.cells #[.string text] 9 (0, 0)) ∧ wa.heap[w.heap.size + 1 + 1]? = some (.cells #[.int .i64 cur] 3 (0, 0)) ∧ wa.heap[w.heap.size + 1 + 1 + 1]? = some (.cells #[.int .i64 0, .slice none 0 0, .int .i64 0, .int .i64 0] 30 (0, 0)))) := by
    rw [← hwa]
    exact ⟨((((Below.refl _ w).alloc (Nat.le_refl _) _).alloc (by simp) _).alloc (by simp; omega) _).alloc (by simp; omega) _, by simp, push4 w.heap _ _ _ _⟩
  have CN : Hid (CallsIn Fence.wide 6 Tryd.prog 25 #[.int .i64 W0] wa fun e Y => ∃ gb ov, e = .returned (.pointer (some ⟨gb, 0, none⟩)) ∧ Hid (Gd wa 0 0 (couW W0) 0 0 gb ov [([], .slice none 0 0)] Y)) := callsIn_wide.2 (ngr_any W0 wa)
  obtain ⟨st1, hst1⟩ : ∃ st1, layL Wn lst0 (cus prompt (cl prompt)) = st1 := ⟨_, rfl⟩
  rw [hst1]
  have HST : Hid (layL Wn lst0 (cus prompt (cl prompt)) = st1) := hst1
  clear hst1
  have HM : Hid (Tryd.prog.follows .mixedOrders = true) := hM
  have HB0 : Hid (∀ Y, Below wa.heap.size wa Y → Y.cell? ⟨w.heap.size, 0, none⟩ = some (.string prompt)) := fun Y hY => (box1o ((hY.block _ (by have := HWA.out; omega)).trans HWA.out.2.2.1)).1
  clear hM
  refine callsIn_of_wp_marks Tryd.func10 rfl trivial ?_ rfl
  simp only [Tryd.ntmps10, List.size_toArray, List.length_cons, List.length_nil, Nat.reduceAdd, Nat.reduceSub, Array.replicate_succ, Array.replicate_zero, List.push_toArray, List.append_toArray, List.nil_append, List.cons_append]
  gi_wp2_with (first | (refine ⟨trivial, ?_⟩; gi_at_call 25; refine CN.out.mono ?_; clear CN; rintro e w1 ⟨gb, ov1, rfl, HG1⟩; have t0 := HB0.out w1 HG1.out.bel; have tl0 := World.block_lt_of_cell? w1 _ t0) | (refine ⟨trivial, ?_⟩; gi_at_call 26; refine (walk_in 6 _ _).mono ?_; rintro e w' ⟨rfl, rfl⟩))
  have HGB : Hid (Gd w 0 0 Wn 0 0 gb ov1 [([], .slice none 0 0)] w1 ∧ Below wa.heap.size wa w1) := ⟨by have := HG1.out.lower (w := w) HWA.out.1; rw [HWN0.out] at this; exact this, HG1.out.bel⟩
  obtain ⟨W3, hW3⟩ : ∃ W3, (w1.alloc (.cells #[.pointer (some ⟨gb, 0, none⟩)] 59)).alloc (.cells #[.string prompt] 9) = W3 := ⟨_, rfl⟩
  rw [hW3]
  have H3 : Hid ((∀ lo hi, W3.heap.size ≤ lo → Ls w lo hi prompt text cur Wn w1.heap.size gb lst0 W3) ∧ W3.heap[w1.heap.size + 1]? = some (.cells #[.string prompt] 9 (0, 0)) ∧ W3.heap.size = w1.heap.size + 2 ∧ w.heap.size + 4 ≤ w1.heap.size) := by
    obtain ⟨q0, q1⟩ := push2 w1.heap (.cells #[.pointer (some ⟨gb, 0, none⟩)] 59) (.cells #[.string prompt] 9)
    have hb : Below w1.heap.size w1 W3 := by rw [← hW3]; exact ((Below.refl _ w1).alloc (Nat.le_refl _) _).alloc (by simp) _
    obtain ⟨a1, a2, b0, b1, b2, b3⟩ := HWA.out
    have k2 : ∀ {k : Nat} {o : Obj}, wa.heap[k]? = some o → W3.heap[k]? = some o := fun h => (hb.block _ (by have := (Array.getElem?_eq_some_iff.1 h).1; have := HGB.out.2.size; omega)).trans ((HGB.out.2.block _ (Array.getElem?_eq_some_iff.1 h).1).trans h)
    have hs : W3.heap.size = w1.heap.size + 2 := by rw [← hW3]; simp
    refine ⟨fun lo hi hl => ⟨k2 b0, k2 b1, k2 b2, k2 b3, by rw [← hW3]; exact q0, ov1, _, rfl, (HGB.out.1.below hb).lim hl⟩, by rw [← hW3]; exact q1, hs, by have := HGB.out.2.size; omega⟩
  clear hW3 HG1 HGB HWA hwa
  have hsz := H3.out.2.2.1
  have hsz2 := H3.out.2.2.2
  have hB3 : Below w.heap.size w W3 := (H3.out.1 _ (W3.heap.size + 2) (Nat.le_refl _)).bel
  refine act_nameO fun A hA => ?_
  refine range_own rfl (by omega) (gf := 43) (lb := #[.pointer (some ⟨w1.heap.size + 1, 0, none⟩)]) (by rw [hA]; rfl) trivial (enters_of Tryd.func43 (by kernel_rfl) rfl)
    (clu_seq 6 (by omega) (w1.heap.size + 1) (W3.heap.size + 2) (Mo w.heap.size (w1.heap.size + 1) (W3.heap.size + 2) (W3.heap.size + 2 + 4)) prompt (by unfold maxLen; omega) (fun _ h => by have := h.1; omega) (fun _ h => by have := h.1; omega) (fun _ h => h.2.1 rfl) (fun k _ h1 h2 h => by have := h.2.2.1; omega) (fun k _ _ _ h => by obtain ⟨_, _, _, e, hg⟩ := h.2.2.2; cases e; exact gty_n (by decide) hg)
      W3 (by omega) (by omega) (by omega) H3.out.2.1 (tabs_below hT hB3))
    KpT.trans (fun W l o o' _ _ hl ho => KpT.putObj W l o o' hl ho) (fun _ => rfl)
    (fun pre W => Ls w (W3.heap.size + 2) (W3.heap.size + 2 + 4) prompt text cur Wn w1.heap.size gb (layL Wn lst0 (cus prompt pre)) W ∧ W.heap[w1.heap.size + 1]? = some (.cells #[.string prompt] 9 (0, 0)))
    (fun _ _ _ => False)
    (Ab.and (ls_ab (by omega) (by omega)) (ab_block (o := fun _ => _) (by omega)))
    (fun _ _ _ _ _ hs _ _ => hs)
    ⟨H3.out.1 _ _ (by omega), H3.out.2.1⟩
    (fun x a' W' => ∃ Bx, W3.heap.size ≤ Bx ∧ W'.heap[Bx]? = some (.cells (cvs x) 56 (0, 0)) ∧ a' = { tmps := (((#[17] : Array Tmp).zip (encC x)).foldl (fun t (p, v) => t.setIfInBounds p v) A.tmps).setIfInBounds 10 (.pointer (some ⟨Bx, 0, none⟩)), defers := [] })
    (fun x a' _ X Y row h hg hr => h.imp fun Bx hx => ⟨hx.1, bx_keptO hx.1 hx.2.1 hg hr (Nat.le_refl _) rfl, hx.2.2⟩)
    ?assign ?body ?done ?stop
  case assign =>
    rintro l pre x W K ⟨hi, hj⟩ hK
    have hl := (Array.getElem?_eq_some_iff.1 hi.pp).1
    have hWs : W3.heap.size ≤ W.heap.size := by have := (Array.getElem?_eq_some_iff.1 hj).1; omega
    have hb : Below W.heap.size W (W.alloc (.cells (cvs x) 56)) := (Below.refl _ W).alloc (Nat.le_refl _) _
    subst hA
    gi_wp2
    exact hK _ _ (kf_below hb) (KpT.of_below hb) ⟨hi.below hb, (hb.block _ (Array.getElem?_eq_some_iff.1 hj).1).trans hj⟩ ⟨W.heap.size, hWs, World.alloc_heap_new W _, by simp [encC]⟩
  case body =>
    rintro l pre x a' W _ _ _ hWs ⟨hi, hj⟩ ⟨Bx, hBx, qx, rfl⟩ hnx
    obtain ⟨⟨d0, d1, d2, d3⟩, _⟩ := box4 qx
    obtain ⟨t0, _⟩ := box1o hi.p0
    obtain ⟨t9, _⟩ := box1o hi.pp
    obtain ⟨ov, vs, hvs, hg⟩ := hi.gd
    have hxm : x ∈ cl prompt := hnx.subset (by simp)
    have hpl := pre_bd (show pre <+: cl prompt from (List.prefix_append pre [x]).trans hnx)
    have h2 : ∀ u ∈ cus prompt pre, u.n ≤ 2 := fun u hu => by
      obtain ⟨c, hc, rfl⟩ := List.mem_map.1 hu
      exact (cuOf_n (((List.prefix_append pre [x]).trans hnx).subset hc)).1
    have hrows := layL_rows (W := Wn) (l := cus prompt pre) (s := lst0)
    have hrl : (layL Wn lst0 (cus prompt pre)).rows.length ≤ 2147483000 := by
      have e1 : (lst0).rows.length = 0 := rfl
      have e2 : (cus prompt pre).length = pre.length := by simp [cus]
      omega
    have CL : Hid (∀ X, X = W → Calls Tryd.prog 27 #[.pointer (some ⟨gb, 0, none⟩), .string prompt, cv x] X fun e Y => (∃ u, e = .returned u) ∧ ∃ ov' vs', Hid (Gd w (W3.heap.size + 2) (W3.heap.size + 2 + 4) Wn (stpL Wn (layL Wn lst0 (cus prompt pre)) (cuOf prompt x)).rows.length (stpL Wn (layL Wn lst0 (cus prompt pre)) (cuOf prompt x)).col gb ov' vs' Y ∧ vs'.map Prod.fst = (stpL Wn (layL Wn lst0 (cus prompt pre)) (cuOf prompt x)).all ∧ Fg (W3.heap.size + 2) (W3.heap.size + 2 + 4) X Y ∧ (W3.heap.size + 2 + 4) ≤ Y.heap.size)) := fun X hX => by
      subst hX
      exact lay_any HM.out (layL Wn lst0 (cus prompt pre)) (layL_ok hW1 h2 (lst0_ok hW1)) (layL_nar hW1 h2 (lst0_ok hW1) (lst0_nar _)) hW1 hW2 hg hvs hWs hxm (by omega) hrl hT hlo0 hlo1
    have HJ : Hid (Ls w (W3.heap.size + 2) (W3.heap.size + 2 + 4) prompt text cur Wn w1.heap.size gb (layL Wn lst0 (cus prompt pre)) W ∧ W.heap[w1.heap.size + 1]? = some (.cells #[.string prompt] 9 (0, 0))) := ⟨hi, hj⟩
    clear hi hj hg hvs hrows h2 hpl qx
    subst hA
    gi_wp2_with (refine ⟨trivial, ?_⟩; gi_at_call 27; refine (CallsIn.inRound l (callsIn_wide.2 (CL.out _ rfl))).mono ?_; clear CL; rintro e Y ⟨⟨u, rfl⟩, ov', vs', HR⟩)
    obtain ⟨g1, g2, g3, g4⟩ := HR.out
    have hst : layL Wn lst0 (cus prompt (pre ++ [x])) = stpL Wn (layL Wn lst0 (cus prompt pre)) (cuOf prompt x) := by simp only [cus, List.map_append, List.map_cons, List.map_nil]; exact layL_snoc _ _ _ _
    refine ⟨g3.kf, g3.mo HJ.out.1.bel g1.bel HJ.out.2, ?_, g3.other HJ.out.2 (gty_n (by decide))⟩
    rw [hst]
    exact HJ.out.1.to g3 ⟨ov', vs', g2, g1⟩
  case stop =>
    rintro D c pre W _ _ h _
    exact h.elim
  case done =>
    rintro D ys W hD rfl ⟨hi, hj⟩ hK
    have hst1 := HST.out
    rw [hst1] at hi
    have h2p : ∀ u ∈ cus prompt (cl prompt), u.n ≤ 2 := fun u hu => by
      obtain ⟨c, hc, rfl⟩ := List.mem_map.1 hu
      exact (cuOf_n hc).1
    have HS1 : Hid (st1.Ok Wn ∧ Nar Wn st1 ∧ st1.rows.length ≤ 536870912) := by
      refine ⟨hst1 ▸ layL_ok hW1 h2p (lst0_ok hW1), hst1 ▸ layL_nar hW1 h2p (lst0_ok hW1) (lst0_nar _), ?_⟩
      have hrows := layL_rows (W := Wn) (l := cus prompt (cl prompt)) (s := lst0)
      have e1 : (lst0).rows.length = 0 := rfl
      have e2 : (cus prompt (cl prompt)).length = (cl prompt).length := by simp [cus]
      have e3 := cl_len prompt
      rw [hst1] at hrows
      omega
    obtain ⟨t0, _⟩ := box1o hi.p0
    obtain ⟨t1, _⟩ := box1o hi.p1
    obtain ⟨t9, _⟩ := box1o hi.pp
    obtain ⟨ov2, vs2, hvs2, hg2⟩ := hi.gd
    obtain ⟨⟨y0, y1, y2, y3⟩, -⟩ := hg2.cells
    have hWs : W3.heap.size + 2 ≤ W.heap.size ∨ W.heap.size < W3.heap.size + 2 := by omega
    have l0 := World.block_lt_of_cell? W _ t1
    have l9 := World.block_lt_of_cell? W _ t9
    have lg := hg2.lt
    have hbw : w.heap.size + 1 < W.heap.size := l0
    have HI : Hid (Ls w (W3.heap.size + 2) (W3.heap.size + 2 + 4) prompt text cur Wn w1.heap.size gb st1 W ∧ W.heap[D]? = some (.deferred (some [])) ∧ W3.heap.size ≤ D) := ⟨hi, hK, hD⟩
    have HWN : Hid (hi = hi) := rfl
    clear hi hj hvs2 hg2 HWN hK hst1 h2p
    have hA' : A = _ := hA
    subst hA
    gi_wp2_with (refine ⟨trivial, ?_⟩; gi_at_call 26; refine (walk_in 6 _ _).mono ?_; rintro e w' ⟨rfl, rfl⟩)
    obtain ⟨W5, hW5⟩ : ∃ W5, (W.alloc (.cells #[.int .i64 st1.rows.length, .int .i64 st1.col] 28)).alloc (.cells #[.string text] 9) = W5 := ⟨_, rfl⟩
    rw [hW5]
    have H5 : Hid ((∀ lo hi, W5.heap.size ≤ lo → Ls w lo hi prompt text cur Wn w1.heap.size gb st1 W5) ∧ Pb W.heap.size st1.rows.length st1.col W5 ∧ W5.heap[W.heap.size + 1]? = some (.cells #[.string text] 9 (0, 0)) ∧ W5.heap[D]? = some (.deferred (some [])) ∧ W5.heap.size = W.heap.size + 2 ∧ w.heap.size + 4 ≤ w1.heap.size ∧ w1.heap.size < W.heap.size ∧ D < W.heap.size ∧ W3.heap.size ≤ D) := by
      obtain ⟨q0, q1⟩ := push2 W.heap (.cells #[.int .i64 st1.rows.length, .int .i64 st1.col] 28) (.cells #[.string text] 9)
      have hb : Below W.heap.size W W5 := by rw [← hW5]; exact ((Below.refl _ W).alloc (Nat.le_refl _) _).alloc (by simp) _
      have hs : W5.heap.size = W.heap.size + 2 := by rw [← hW5]; simp
      refine ⟨fun lo hi hl => ?_, by rw [← hW5]; exact q0, by rw [← hW5]; exact q1, (hb.block _ (Array.getElem?_eq_some_iff.1 HI.out.2.1).1).trans HI.out.2.1, hs, hsz2, l9, (Array.getElem?_eq_some_iff.1 HI.out.2.1).1, HI.out.2.2⟩
      have h := HI.out.1.below hb
      obtain ⟨ov, vs, e1, e2⟩ := h.gd
      exact ⟨h.p0, h.p1, h.p2, h.p3, h.pp, ov, vs, e1, e2.lim hl⟩
    obtain ⟨ab, hab⟩ : ∃ ab, W.heap.size = ab := ⟨_, rfl⟩
    rw [hab] at H5 ⊢
    clear hW5 t0 t1 t9 y0 y1 y2 y3 hWs l0 l9 lg hbw HI hab
    obtain ⟨_, _, _, _, s5, s6, s7, s8, s9⟩ := H5.out
    have hB5 : Below w.heap.size w W5 := (H5.out.1 _ (W5.heap.size + 2) (Nat.le_refl _)).bel
    refine act_nameO fun A hA => ?_
    refine range_own rfl (by omega) (gf := 43) (lb := #[.pointer (some ⟨ab + 1, 0, none⟩)]) (by rw [hA]; rfl) trivial (enters_of Tryd.func43 (by kernel_rfl) rfl)
      (clu_seq 6 (by omega) (ab + 1) (W5.heap.size + 2) (fun k o => Mo w.heap.size (ab + 1) (W5.heap.size + 2) (W5.heap.size + 2 + 4) k o ∨ k = ab) text (by unfold maxLen; omega) (fun _ h => by rcases h with h | h; have := h.1; omega; omega) (fun _ h => by rcases h with h | h; have := h.1; omega; omega) (fun _ h => by rcases h with h | h; exact h.2.1 rfl; omega) (fun k _ h1 h2 h => by rcases h with h | h; have := h.2.2.1; omega; omega) (fun k _ _ h1 h => by rcases h with h | h; obtain ⟨_, _, _, e, hg⟩ := h.2.2.2; cases e; exact gty_n (by decide) hg; omega)
        W5 (by omega) (by omega) (by omega) H5.out.2.2.1 (tabs_below hT hB5))
      KpT.trans (fun W l o o' _ _ hl ho => KpT.putObj W l o o' hl ho) (fun _ => rfl)
      (fun pre W => Ls w (W5.heap.size + 2) (W5.heap.size + 2 + 4) prompt text cur Wn w1.heap.size gb (curL Wn st1 text cur pre).1 W ∧ Pb ab (curL Wn st1 text cur pre).2.1 (curL Wn st1 text cur pre).2.2 W ∧ W.heap[ab + 1]? = some (.cells #[.string text] 9 (0, 0)) ∧ W.heap[D]? = some (.deferred (some [])))
      (fun _ _ _ => False)
      (Ab.and (ls_ab (by omega) (by omega)) (Ab.and (ab_block (o := fun _ => _) (by omega)) (Ab.and (ab_block (o := fun _ => _) (by omega)) (ab_block (o := fun _ => _) (by omega)))))
      (fun _ _ _ _ _ hs _ _ => hs)
      ⟨H5.out.1 _ _ (by omega), H5.out.2.1, H5.out.2.2.1, H5.out.2.2.2.1⟩
      (fun x a' W' => ∃ Bx, W5.heap.size ≤ Bx ∧ W'.heap[Bx]? = some (.cells (cvs x) 56 (0, 0)) ∧ a' = { tmps := (((#[28] : Array Tmp).zip (encC x)).foldl (fun t (p, v) => t.setIfInBounds p v) A.tmps).setIfInBounds 12 (.pointer (some ⟨Bx, 0, none⟩)), defers := [] })
      (fun x a' _ X Y row h hg hr => h.imp fun Bx hx => ⟨hx.1, bx_keptO hx.1 hx.2.1 hg hr (Nat.le_refl _) rfl, hx.2.2⟩)
      ?assign ?body ?done ?stop
    case stop =>
      rintro D c pre W _ _ h _
      exact h.elim
    case assign =>
      rintro l pre x W K ⟨hi, hj, hj2, hj3⟩ hK
      have hWs : W5.heap.size ≤ W.heap.size := by have := (Array.getElem?_eq_some_iff.1 hj2).1; omega
      have hb : Below W.heap.size W (W.alloc (.cells (cvs x) 56)) := (Below.refl _ W).alloc (Nat.le_refl _) _
      subst hA
      gi_wp2
      exact hK _ _ (kf_below hb) (KpT.of_below hb) ⟨hi.below hb, hj.below hb, (hb.block _ (Array.getElem?_eq_some_iff.1 hj2).1).trans hj2, (hb.block _ (Array.getElem?_eq_some_iff.1 hj3).1).trans hj3⟩ ⟨W.heap.size, hWs, World.alloc_heap_new W _, by simp [encC]⟩
    case body =>
      rintro l pre x a' W _ _ _ hWs ⟨hi, hj, hj2, hj3⟩ ⟨Bx, hBx, qx, rfl⟩ hnx
      obtain ⟨⟨d0, d1, d2, d3⟩, _⟩ := box4 qx
      obtain ⟨t1, _⟩ := box1o hi.p1
      obtain ⟨t9, _⟩ := box1o hi.pp
      obtain ⟨ov, vs, hvs, hg⟩ := hi.gd
      have hxm : x ∈ cl text := hnx.subset (by simp)
      have hpl := pre_bd (show pre <+: cl text from (List.prefix_append pre [x]).trans hnx)
      have h2 : ∀ u ∈ cus text pre, u.n ≤ 2 := fun u hu => by
        obtain ⟨c, hc, rfl⟩ := List.mem_map.1 hu
        exact (cuOf_n (((List.prefix_append pre [x]).trans hnx).subset hc)).1
      have hrows := layL_rows (W := Wn) (l := cus text pre) (s := st1)
      have e2 : (cus text pre).length = pre.length := by simp [cus]
      have hst := curL_st Wn st1 text cur pre
      have hrl : (layL Wn st1 (cus text pre)).rows.length ≤ 2147483000 := by have := HS1.out.2.2; omega
      obtain ⟨st2, at2, hq⟩ : ∃ st2 at2, curL Wn st1 text cur pre = (st2, at2) := ⟨_, _, rfl⟩
      have HQ : Hid (curL Wn st1 text cur (pre ++ [x]) = (stpL Wn st2 (cuOf text x), if (x.to : Int) ≤ cur then (stpL Wn st2 (cuOf text x)).pen else at2)) := by show _ = _; rw [curL_snoc, hq]; rfl
      rw [hq] at hst hvs hg hi hj
      simp only at hst hvs hg hi hj
      rw [← hst] at hrl
      have CL : Hid (∀ X, X = W → Calls Tryd.prog 27 #[.pointer (some ⟨gb, 0, none⟩), .string text, cv x] X fun e Y => (∃ u, e = .returned u) ∧ ∃ ov' vs', Hid (Gd w (W5.heap.size + 2) (W5.heap.size + 2 + 4) Wn (stpL Wn st2 (cuOf text x)).rows.length (stpL Wn st2 (cuOf text x)).col gb ov' vs' Y ∧ vs'.map Prod.fst = (stpL Wn st2 (cuOf text x)).all ∧ Fg (W5.heap.size + 2) (W5.heap.size + 2 + 4) X Y ∧ (W5.heap.size + 2 + 4) ≤ Y.heap.size)) := fun X hX => by
        subst hX
        exact lay_any HM.out st2 (hst ▸ layL_ok hW1 h2 HS1.out.1) (hst ▸ layL_nar hW1 h2 HS1.out.1 HS1.out.2.1) hW1 hW2 hg hvs hWs hxm (by omega) hrl hT hlo0 hlo1
      have HJ : Hid (Ls w (W5.heap.size + 2) (W5.heap.size + 2 + 4) prompt text cur Wn w1.heap.size gb st2 W ∧ Pb ab at2.1 at2.2 W ∧ W.heap[ab + 1]? = some (.cells #[.string text] 9 (0, 0)) ∧ W.heap[D]? = some (.deferred (some [])) ∧ W.heap[Bx]? = some (.cells (cvs x) 56 (0, 0)) ∧ w.heap.size ≤ ab) := ⟨hi, hj, hj2, hj3, qx, by omega⟩
      clear hi hj hj2 hj3 hg hvs hrows h2 hpl qx hst hq e2 hrl
      obtain ⟨st3, hst3⟩ : ∃ st3, stpL Wn st2 (cuOf text x) = st3 := ⟨_, rfl⟩
      rw [hst3] at CL HQ
      have HAFT : Hid (∀ Y, Gd w (W5.heap.size + 2) (W5.heap.size + 2 + 4) Wn st3.rows.length st3.col gb ov vs Y → True) := fun _ _ => trivial
      subst hA
      by_cases hto : (x.to : Int) ≤ cur
      · gi_wp2_with (refine ⟨trivial, ?_⟩; gi_at_call 27; refine (CallsIn.inRound l (callsIn_wide.2 (CL.out _ rfl))).mono ?_; clear CL d0 d1 d2 d3 t1 t9; rintro e Y ⟨⟨u, rfl⟩, ov', vs', HR⟩; have HL : Hid (Ls w (W5.heap.size + 2) (W5.heap.size + 2 + 4) prompt text cur Wn w1.heap.size gb st3 Y ∧ Pb ab at2.1 at2.2 Y ∧ Y.heap[ab + 1]? = some (.cells #[.string text] 9 (0, 0)) ∧ Y.heap[D]? = some (.deferred (some []))) := ⟨HJ.out.1.to HR.out.2.2.1 ⟨ov', vs', HR.out.2.1, HR.out.1⟩, HJ.out.2.1.fg HR.out.2.2.1, HR.out.2.2.1.other HJ.out.2.2.1 (gty_n (by decide)), HR.out.2.2.1.block _ _ HJ.out.2.2.2.1 (.inr (by rintro ⟨_, _, _, e, _⟩; cases e))⟩; obtain ⟨⟨d0, d1, d2, d3⟩, _⟩ := box4 (HR.out.2.2.1.other HJ.out.2.2.2.2.1 (gty_n (by decide))); obtain ⟨t2, _⟩ := box1o HL.out.1.p2; obtain ⟨t9, _⟩ := box1o HL.out.1.pp; obtain ⟨⟨y0, y1, y2, y3⟩, -⟩ := HR.out.1.cells; obtain ⟨⟨z0, z1⟩, z2, z3⟩ := HL.out.2.1.cells)
        have hbox : Y.heap[ab]? = some (.cells #[.int .i64 at2.1, .int .i64 at2.2] 28 (0, 0)) := HL.out.2.1
        have g := o_grown2 (gcell Y ab 0 (.int .i64 st3.rows.length)) (gcell _ ab 1 (.int .i64 st3.col))
        have kb : ∀ {k : Nat} {o : Obj}, Y.heap[k]? = some o → k ≠ ab → ((Y.setCell ⟨ab, 0, none⟩ (.int .i64 st3.rows.length)).setCell ⟨ab, 1, none⟩ (.int .i64 st3.col)).heap[k]? = some o := fun hk hne => (g.block _ (Array.getElem?_eq_some_iff.1 hk).1 (fun e => hne (by injection e))).trans hk
        refine ⟨kf_trans HR.out.2.2.1.kf (kf_cells g hbox), ((HR.out.2.2.1.mo HJ.out.1.bel HR.out.1.bel HJ.out.2.2.1).mono (fun k o _ h => .inl h)).trans (KpT.of_grown g (fun r o e _ => by cases e; exact .inr rfl)), ?_, ?_, kb HL.out.2.2.1 (by omega), kb HL.out.2.2.2 (by omega)⟩
        · rw [HQ.out]
          exact HL.out.1.putPL hbox HJ.out.2.2.2.2.2 _ _
        · rw [HQ.out, if_pos hto]
          exact pb_set hbox
      · gi_wp2_with (refine ⟨trivial, ?_⟩; gi_at_call 27; refine (CallsIn.inRound l (callsIn_wide.2 (CL.out _ rfl))).mono ?_; clear CL d0 d1 d2 d3 t1 t9; rintro e Y ⟨⟨u, rfl⟩, ov', vs', HR⟩; have HL : Hid (Ls w (W5.heap.size + 2) (W5.heap.size + 2 + 4) prompt text cur Wn w1.heap.size gb st3 Y ∧ Pb ab at2.1 at2.2 Y ∧ Y.heap[ab + 1]? = some (.cells #[.string text] 9 (0, 0)) ∧ Y.heap[D]? = some (.deferred (some []))) := ⟨HJ.out.1.to HR.out.2.2.1 ⟨ov', vs', HR.out.2.1, HR.out.1⟩, HJ.out.2.1.fg HR.out.2.2.1, HR.out.2.2.1.other HJ.out.2.2.1 (gty_n (by decide)), HR.out.2.2.1.block _ _ HJ.out.2.2.2.1 (.inr (by rintro ⟨_, _, _, e, _⟩; cases e))⟩; obtain ⟨⟨d0, d1, d2, d3⟩, _⟩ := box4 (HR.out.2.2.1.other HJ.out.2.2.2.2.1 (gty_n (by decide))); obtain ⟨t2, _⟩ := box1o HL.out.1.p2; obtain ⟨t9, _⟩ := box1o HL.out.1.pp)
        refine ⟨HR.out.2.2.1.kf, (HR.out.2.2.1.mo HJ.out.1.bel HR.out.1.bel HJ.out.2.2.1).mono (fun k o _ h => .inl h), ?_, ?_, HL.out.2.2⟩
        · rw [HQ.out]
          exact HL.out.1
        · rw [HQ.out, if_neg (show ¬ (x.to : Int) ≤ cur by omega)]
          exact HL.out.2.1
    case done =>
      rintro D2 ys W hD2 rfl ⟨hi, hj, hj2, hj3⟩ hK
      have hst := curL_st Wn st1 text cur (cl text)
      obtain ⟨st2, at2, hq⟩ : ∃ st2 at2, curL Wn st1 text cur (cl text) = (st2, at2) := ⟨_, _, rfl⟩
      have h2 : ∀ u ∈ cus text (cl text), u.n ≤ 2 := fun u hu => by
        obtain ⟨c, hc, rfl⟩ := List.mem_map.1 hu
        exact (cuOf_n hc).1
      have hrows := layL_rows (W := Wn) (l := cus text (cl text)) (s := st1)
      have e2 : (cus text (cl text)).length = (cl text).length := by simp [cus]
      have e3 := cl_len text
      have hna := layL_nar hW1 h2 HS1.out.1 HS1.out.2.1
      rw [hq] at hst hi hj
      simp only at hst hi hj
      rw [← hst] at hrows hna
      obtain ⟨ov, vs, hvs, hg⟩ := hi.gd
      obtain ⟨oa, ok, hov⟩ := o_slice hg.orow
      subst hov
      have hvl : vs.length = st2.rows.length + 1 := by have := congrArg List.length hvs; simpa [Lst.all] using this
      have CT : Hid (∀ X, X = W → Calls Tryd.prog 28 #[.pointer (some ⟨gb, 0, none⟩)] X fun e Y => (∃ u, e = .returned u) ∧ ∃ vs', Hid (Gd w (W5.heap.size + 2) (W5.heap.size + 2 + 4) Wn st2.rows.length st2.col gb (.slice oa vs.length ok) vs' Y ∧ vs'.map Prod.fst = (vs.map Prod.fst).map trmL ∧ Below w.heap.size w Y ∧ KeptL X Y)) := fun X hX => by
        subst hX
        exact trm_any hg (by have := HS1.out.2.2; omega) (fun o ho => by have := hna o.1 (by rw [← hvs]; exact List.mem_map_of_mem ho); omega)
      obtain ⟨t9, _⟩ := box1o hi.pp
      have hsz5 : ab < W.heap.size := (Array.getElem?_eq_some_iff.1 hj).1
      have HJ : Hid (Ls w (W5.heap.size + 2) (W5.heap.size + 2 + 4) prompt text cur Wn w1.heap.size gb st2 W ∧ Pb ab at2.1 at2.2 W ∧ W.heap[D]? = some (.deferred (some [])) ∧ W.heap[D2]? = some (.deferred (some [])) ∧ W5.heap.size ≤ D2) := ⟨hi, hj, hj3, hK, hD2⟩
      have HV : Hid (vs.map Prod.fst = st2.all ∧ layL Wn st1 (cus text (cl text)) = st2 ∧ curL Wn st1 text cur (cl text) = (st2, at2)) := ⟨hvs, hst.symm, hq⟩
      clear hst hq h2 hrows e2 e3 hna hg hvs hvl hi hj hj2 hj3 hK
      subst hA
      gi_wp2_with (refine ⟨trivial, ?_⟩; gi_at_call 28; refine (callsIn_wide.2 (CT.out _ rfl)).mono ?_; clear CT t9; rintro e Y ⟨⟨u, rfl⟩, vs', HR⟩)
      obtain ⟨r1, r2, r3, r4, r5⟩ := HR.out
      have kc : ∀ {k : Nat} {cs : Array Value} {t : TypeId}, W.heap[k]? = some (.cells cs t (0, 0)) → t ≠ 40 → Y.heap[k]? = some (.cells cs t (0, 0)) := fun h1 h2 => r4 _ _ _ _ h1 h2
      have HY : Hid (Pb ab at2.1 at2.2 Y ∧ Y.heap[w.heap.size + 1 + 1 + 1]? = some (.cells #[.int .i64 0, .slice none 0 0, .int .i64 0, .int .i64 0] 30 (0, 0)) ∧ Y.heap[w1.heap.size]? = some (.cells #[.pointer (some ⟨gb, 0, none⟩)] 59 (0, 0)) ∧ Y.heap[D]? = some (.deferred (some [])) ∧ Y.heap[D2]? = some (.deferred (some []))) :=
        ⟨kc HJ.out.2.1 (by decide), kc HJ.out.1.p3 (by decide), kc HJ.out.1.pp (by decide), r5 _ _ HJ.out.2.2.1 rfl, r5 _ _ HJ.out.2.2.2.1 rfl⟩
      obtain ⟨t9, _⟩ := box1o HY.out.2.2.1
      obtain ⟨⟨y0, y1, y2, y3⟩, -⟩ := r1.cells
      obtain ⟨⟨z0, z1⟩, -⟩ := HY.out.1.cells
      obtain ⟨⟨v0, v1, v2, v3⟩, f0, f1, f2, f3⟩ := box4 HY.out.2.1
      obtain ⟨fb, hfb⟩ : ∃ fb, w.heap.size + 1 + 1 + 1 = fb := ⟨_, rfl⟩
      have HEND : Hid (∀ (V Z : World) (R : Value), V.heap = Y.heap → V.os = Y.os ∧ V.tape = Y.tape ∧ V.output = Y.output → R = .slice oa vs.length ok → Z = (((V.setCell ⟨fb, 0, none⟩ (.int .i64 Wn)).setCell ⟨fb, 1, none⟩ R).setCell ⟨fb, 2, none⟩ (.int .i64 at2.1)).setCell ⟨fb, 3, none⟩ (.int .i64 at2.2) →
          Z.heap[D2]? = some (.deferred (some [])) ∧ (Z.putObj D2 (.deferred none)).heap[D]? = some (.deferred (some [])) ∧ ((Z.putObj D2 (.deferred none)).putObj D (.deferred none)).heap[fb]? = some (.cells #[.int .i64 Wn, R, .int .i64 at2.1, .int .i64 at2.2] 30 (0, 0)) ∧
          Fr w R (st2.all.map trmL) ((Z.putObj D2 (.deferred none)).putObj D (.deferred none)) ∧ Below w.heap.size w ((Z.putObj D2 (.deferred none)).putObj D (.deferred none))) := fun V Z R hV hV2 hR hZ => by
        subst hR
        have hY := HY.out
        have hf : V.heap[fb]? = some (.cells #[.int .i64 0, .slice none 0 0, .int .i64 0, .int .i64 0] 30 (0, 0)) := by rw [hV, ← hfb]; exact hY.2.1
        have s1 := set4 (u0 := .int .i64 Wn) (u1 := .slice oa vs.length ok) (u2 := .int .i64 at2.1) (u3 := .int .i64 at2.2) hf
        have g1 := grown4 V fb (.int .i64 Wn) (.slice oa vs.length ok) (.int .i64 at2.1) (.int .i64 at2.2)
        rw [← hZ] at s1 g1
        have kz : ∀ {k : Nat} {o : Obj}, Y.heap[k]? = some o → k ≠ fb → Z.heap[k]? = some o := fun hk hne => (g1.block _ (by rw [hV]; exact (Array.getElem?_eq_some_iff.1 hk).1) (fun e => hne (by injection e))).trans (by rw [hV]; exact hk)
        have hDD : D ≠ D2 := by have := HJ.out.2.2.2.2; omega
        have d2 := kz hY.2.2.2.2 (by rintro rfl; rw [hY.2.2.2.2] at hY; have := HJ.out.2.2.2.2; omega)
        have d1 := kz hY.2.2.2.1 (by omega)
        have d1' : (Z.putObj D2 (.deferred none)).heap[D]? = some (.deferred (some [])) := (World.putObj_heap_other hDD).trans d1
        have kf : ∀ {k : Nat} {o : Obj}, Z.heap[k]? = some o → o.isCells = true → ((Z.putObj D2 (.deferred none)).putObj D (.deferred none)).heap[k]? = some o := fun {k o} hk hc =>
          (World.putObj_heap_other (fun e => by subst e; rw [d1] at hk; cases hk; cases hc)).trans ((World.putObj_heap_other (fun e => by subst e; rw [d2] at hk; cases hk; cases hc)).trans hk)
        have hBZ : Below w.heap.size w Z := by
          have hBV : Below w.heap.size w V := ⟨hV2.1.trans r3.os, hV2.2.1.trans r3.tape, hV2.2.2.trans r3.output, by rw [hV]; exact r3.size, fun j hj => by rw [hV]; exact r3.block j hj⟩
          exact hBV.grown g1 (by rw [hV]; exact r3.size) (fun k e => by cases e; omega)
        have keep : ∀ (v : Value) (n c : Nat) (t : TypeId) (xs : List Value), t ≠ 30 → Y.ownsRow w.heap.size t c v n xs → ((Z.putObj D2 (.deferred none)).putObj D (.deferred none)).ownsRow w.heap.size t c v n xs := fun v n c t xs ht ho => o_keep ho (fun g e => by
          obtain ⟨⟨cur, hc⟩, -, -⟩ := o_blk ho e
          have hne : g ≠ fb := fun q => by
            rw [q, ← hV, hf] at hc
            injection hc with hc
            injection hc with _ hc
            exact ht hc.symm
          exact (kf (kz hc hne) rfl).trans hc.symm)
        refine ⟨d2, d1', kf s1 rfl, ⟨vs', by rw [r2, HV.out.1], keep _ _ _ _ _ (by decide) (by have := r1.orow; exact this), fun o ho => keep _ _ _ _ _ (by decide) (r1.each o ho).1, r1.sep⟩, (hBZ.trans (belowK_b (w := w) (Nat.le_refl _) _ D2 _ _ (by omega) d2 rfl rfl)).trans (belowK_b (w := w) (Nat.le_refl _) _ D _ _ (by omega) d1' rfl rfl)⟩
      rw [hfb] at v0 v1 v2 v3 f0 f1 f2 f3 ⊢
      clear r2 r3 r4 r5 kc
      refine region_then (by kernel_rfl) (by kernel_rfl) (by kernel_rfl) (by kernel_rfl) rfl rfl ?_
      dsimp only [List.dropLast, List.getLast]
      repeat (gi_big_quiet_step (fail))
      refine wpQuietIn_nil ?_
      intro _ hw'
      obtain ⟨nq, hw''⟩ := hw'
      subst hw''
      have HE := HEND.out (Y.drewN nq) _ _ rfl ⟨rfl, rfl, rfl⟩ rfl rfl
      obtain ⟨e1, e2, e3, e4, e5⟩ := HE
      obtain ⟨⟨c0, c1, c2, c3⟩, -⟩ := box4 e3
      have HF : Hid (Fr w (.slice oa vs.length ok) (st2.all.map trmL) _ ∧ Below w.heap.size w _) := ⟨e4, e5⟩
      clear e3 e4 e5
      gi_wp2
      refine ⟨by simp, .inl ⟨_, _, rfl, run_takeDeferred e1, ?_⟩⟩
      refine ⟨by simp, .inl ⟨_, _, rfl, run_takeDeferred e2, ?_⟩⟩
      refine ⟨.agg #[.int .i64 Wn, .slice oa vs.length ok, .int .i64 at2.1, .int .i64 at2.2], (by simp [results, Tryd.results10, go_sem, c0, c1, c2, c3]), .slice oa vs.length ok, ?_, ?_⟩
      · rw [HV.out.2.2]
      · rw [HV.out.2.1]
        exact HF
theorem lay0_any (hM : Tryd.prog.follows .mixedOrders = true) (prompt text : ByteArray) (cur W0 : Int) (hp : prompt.size ≤ 268435456) (ht : text.size ≤ 268435456) (w : World) (hT : Lib.Utf8Tabs 0 1 w) (hlo0 : 0 < w.heap.size) (hlo1 : 1 < w.heap.size) (Wn : Nat) (hWn : (Wn : Int) = couW W0) :
    Calls Tryd.prog 10 #[.string prompt, .string text, .int .i64 cur, .int .i64 W0] w fun e Y => ∃ ov, e = .returned (.agg #[.int .i64 Wn, ov, .int .i64 (curL Wn (layL Wn lst0 (cus prompt (cl prompt))) text cur (cl text)).2.1, .int .i64 (curL Wn (layL Wn lst0 (cus prompt (cl prompt))) text cur (cl text)).2.2]) ∧ Hid (Fr w ov ((layL Wn (layL Wn lst0 (cus prompt (cl prompt))) (cus text (cl text))).all.map trmL) Y ∧ Below w.heap.size w Y) := callsIn_wide.1 (lay0_in hM prompt text cur W0 hp ht w hT hlo0 hlo1 Wn hWn)
end Go.Proofs.YtfjoklbiocniiaaDoor
