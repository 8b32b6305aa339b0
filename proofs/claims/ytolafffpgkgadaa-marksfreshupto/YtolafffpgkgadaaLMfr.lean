/-
  The walk of the law MarksFresh: lists that are handed in or answered share no memory with a set. Conditions: what the law reads is of at most 1048576 values and letters.
-/
import Derived.Test.YtolafffpgkgadaaERowD
import Derived.Test.YtolafffpgkgadaaELay
import Derived.BigQuiet
import Derived.Deep.QuietTactic
namespace Go.Proofs.Ytolafffpgkgadaa
open Go.RowKit

theorem St.kept2 {W W' : World} {sb sb2 : Nat} {mb mb2 : Option Nat} {L M : Ml} (h : St W sb mb L) (h2 : St W sb2 mb2 M) (hc : Ch sb2 mb2 W W') (d1 : sb ≠ sb2) (d2 : ∀ k, mb = some k → mb2 ≠ some k) : St W' sb mb L := by
  refine h.kept hc d1 (fun e => ?_) (fun b hm => ⟨fun e => ?_, d2 b hm⟩)
  · obtain ⟨es, clock, hb, _⟩ := (h2.own sb e).2.1; rw [h.box] at hb; cases hb
  · obtain ⟨es, clock, hb, _⟩ := (h.own b hm).2.1; rw [e, h2.box] at hb; cases hb
/-- the beginning of a row of marks -/
theorem row_pre {W : World} {base g oc : Nat} {ms : Ml} {x : Nat × Int} (h : W.ownsRow base 26 2 (.slice (some ⟨g, 0, none⟩) (ms.length + 1) oc) (ms.length + 1) (kcl (ms ++ [x]))) : RdK W (.slice (some ⟨g, 0, none⟩) ms.length oc) ms := by
  have hl : (ms ++ [x]).length = ms.length + 1 := by simp
  rw [← hl] at h
  obtain ⟨a, c, e, hr⟩ := RdK.of_row h
  obtain ⟨ea, _, ec⟩ := Value.slice.inj e
  refine ⟨some ⟨g, 0, none⟩, oc, rfl, fun h0 => ?_⟩
  obtain ⟨g', o', e', hg, hc⟩ := hr (by simp)
  rw [← ea] at e'
  exact ⟨g', o', e', hg, fun k p hk => hc k p (by rw [List.getElem?_append_left (List.getElem?_eq_some_iff.1 hk).1]; exact hk)⟩
/-- all that the law keeps in memory -/
structure Fq (w : World) (fn oc go : Nat) (X : Ml) (dn mc gm : Nat) (Y : List Dl) (sb : Nat) (mb : Option Nat) (sb2 : Nat) (mb2 : Option Nat) (rb : Nat) (v : Value) (L1 L2 L3 : Ml) (W : World) : Prop where
  bel : Below w.heap.size w W
  own : W.ownsRow w.heap.size 26 2 (.slice (some ⟨go, 0, none⟩) (fn + 1) oc) (fn + 1) (kcl X)
  xl : X.length = fn + 1
  mov : W.ownsRow w.heap.size 63 3 (.slice (some ⟨gm, 0, none⟩) dn mc) dn (dcl Y)
  yl : Y.length = dn
  s : St W sb mb L1
  t : St W sb2 mb2 L2
  r : Rs W w.heap.size rb v L3
  sl : w.heap.size ≤ sb ∧ w.heap.size ≤ sb2
  ml : (∀ b, mb = some b → w.heap.size ≤ b) ∧ ∀ b, mb2 = some b → w.heap.size ≤ b
  d1 : sb ≠ sb2
  d2 : ∀ k, mb = some k → mb2 ≠ some k
  d3 : v.ownBlock ≠ some go
  g : Gdl L1 ∧ Gdl L2
theorem row_all {W W' : World} {base c n g : Nat} {t : TypeId} {m k : Nat} {xs : List Value} (h : W.ownsRow base t c (.slice (some ⟨g, 0, none⟩) m k) n xs) (e : W'.heap[g]? = W.heap[g]?) : W'.ownsRow base t c (.slice (some ⟨g, 0, none⟩) m k) n xs :=
  ⟨h.1, h.2.imp id (fun ⟨g', cap, cur, h1, h2, h3, h4⟩ => ⟨g', cap, cur, h1, h2, by cases h1; exact e.trans h3, h4⟩)⟩
theorem row_at {W : World} {base c n g : Nat} {t : TypeId} {m k : Nat} {xs : List Value} (h : W.ownsRow base t c (.slice (some ⟨g, 0, none⟩) m k) n xs) : base ≤ g ∧ ∃ cur, W.heap[g]? = some (.cells cur t (0, 0)) := by
  rcases h.2 with ⟨e, _⟩ | ⟨g', cap, cur, h1, h2, h3, h4⟩
  · cases e
  · cases h1; exact ⟨h2, cur, h3⟩
section
variable {w W W' : World} {fn oc go : Nat} {X : Ml} {dn mc gm : Nat} {Y : List Dl} {sb : Nat} {mb : Option Nat} {sb2 : Nat} {mb2 : Option Nat} {rb : Nat} {v : Value} {L1 L2 L3 : Ml}
theorem Fq.below (h : Fq w fn oc go X dn mc gm Y sb mb sb2 mb2 rb v L1 L2 L3 W) (hb : Below W.heap.size W W') : Fq w fn oc go X dn mc gm Y sb mb sb2 mb2 rb v L1 L2 L3 W' := by
  obtain ⟨_, c1, k1⟩ := row_at h.own
  obtain ⟨_, c2, k2⟩ := row_at h.mov
  exact ⟨h.bel.trans (hb.mono h.bel.size), row_all h.own (hb.block go (Array.getElem?_eq_some_iff.1 k1).1), h.xl, row_all h.mov (hb.block gm (Array.getElem?_eq_some_iff.1 k2).1), h.yl, h.s.below hb, h.t.below hb, h.r.below hb, h.sl, h.ml, h.d1, h.d2, h.d3, h.g⟩
/-- a row is written -/
theorem Fq.wrote {q : Nat} {cur : Array Value} {ty : TypeId} (h : Fq w fn oc go X dn mc gm Y sb mb sb2 mb2 rb v L1 L2 L3 W) (hg : W.grownBy W' (some q)) (hq : W.heap[q]? = some (.cells cur ty (0, 0))) (h0 : w.heap.size ≤ q) (h1 : ty ≠ 49) (h2 : ty ≠ 69) (h3 : v.ownBlock ≠ some q) :
    Below w.heap.size w W' ∧ St W' sb mb L1 ∧ St W' sb2 mb2 L2 ∧ Rs W' w.heap.size rb v L3 ∧ (go ≠ q → W'.heap[go]? = W.heap[go]?) ∧ (gm ≠ q → W'.heap[gm]? = W.heap[gm]?) := by
  have hc : Ch q none W W' := ⟨hg.os, hg.tape, hg.output, hg.size, fun k hk hn _ => hg.block k hk (fun e => hn (Option.some.inj e))⟩
  have st : ∀ {sb : Nat} {mb : Option Nat} {L : Ml}, St W sb mb L → St W' sb mb L := fun {sb mb L} hs => hs.kept hc (fun e => by
      have hb := hs.box; rw [e, hq] at hb; injection hb with hb; injection hb with _ ht _; exact h1 ht) (by simp) (fun b hm => ⟨fun e => (by
      obtain ⟨es, clock, hb, _⟩ := (hs.own b hm).2.1
      rw [e, hq] at hb
      cases hb), by simp⟩)
  obtain ⟨_, c1, k1⟩ := row_at h.own
  obtain ⟨_, c2, k2⟩ := row_at h.mov
  refine ⟨hc.low h.bel (Nat.le_refl _) h0 (fun k e => by cases e), st h.s, st h.t, h.r.of_heap (hg.block rb h.r.lt (fun e => ?_)) (fun g hgb => ?_), fun hn => hg.block go (Array.getElem?_eq_some_iff.1 k1).1 (fun e => hn (Option.some.inj e)), fun hn => hg.block gm (Array.getElem?_eq_some_iff.1 k2).1 (fun e => hn (Option.some.inj e))⟩
  · have hb := h.r.box; rw [Option.some.inj e, hq] at hb; injection hb with hb; injection hb with _ ht _; exact h2 ht
  · obtain ⟨cur, hcg, _⟩ := h.r.blk hgb
    exact hg.block g (Array.getElem?_eq_some_iff.1 hcg).1 (fun e => h3 (by rw [hgb, e]))
theorem Fq.gom (h : Fq w fn oc go X dn mc gm Y sb mb sb2 mb2 rb v L1 L2 L3 W) : go ≠ gm := fun e => by
  obtain ⟨_, c1, k1⟩ := row_at h.own
  obtain ⟨_, c2, k2⟩ := row_at h.mov
  rw [e, k2] at k1; injection k1 with hb; injection hb with _ ht _; exact absurd ht (by decide)
theorem Fq.setOwn {k n : Nat} {y : Int} (h : Fq w fn oc go X dn mc gm Y sb mb sb2 mb2 rb v L1 L2 L3 W) (hk : k < fn + 1) : Fq w fn oc go (X.set k (n, y)) dn mc gm Y sb mb sb2 mb2 rb v L1 L2 L3 ((W.setCell ⟨go, k * 2, none⟩ (.int .u8 (n : Int))).setCell ⟨go, k * 2 + 1, none⟩ (.int .i64 y)) := by
  obtain ⟨b1, c1, k1⟩ := row_at h.own
  have ho := h.own
  rw [← h.xl] at ho
  have hp := row_put (n := n) (y := y) ho (by rw [h.xl]; exact hk)
  rw [h.xl] at hp
  obtain ⟨a1, a2, a3, a4, _, a6⟩ := h.wrote hp.2 k1 b1 (by decide) (by decide) h.d3
  exact ⟨a1, hp.1, by rw [List.length_set]; exact h.xl, row_all h.mov (a6 h.gom.symm), h.yl, a2, a3, a4, h.sl, h.ml, h.d1, h.d2, h.d3, h.g⟩
theorem Fq.setMov {k : Nat} {d : Dl} {y : Int} (h : Fq w fn oc go X dn mc gm Y sb mb sb2 mb2 rb v L1 L2 L3 W) (hk : Y[k]? = some d) : Fq w fn oc go X dn mc gm (Y.set k ⟨y, d.o, d.i⟩) sb mb sb2 mb2 rb v L1 L2 L3 (W.setCell ⟨gm, k * 3, none⟩ (.int .i64 y)) := by
  obtain ⟨b1, c1, k1⟩ := row_at h.mov
  have ho := h.mov
  rw [← h.yl] at ho
  have hp := rowD_set (y := y) ho hk
  rw [h.yl] at hp
  have hne : v.ownBlock ≠ some gm := fun e => by
    obtain ⟨cur, hcg, _⟩ := h.r.blk e
    rw [k1] at hcg; injection hcg with hb; injection hb with _ ht _; exact absurd ht (by decide)
  obtain ⟨a1, a2, a3, a4, a5, _⟩ := h.wrote hp.2 k1 b1 (by decide) (by decide) hne
  exact ⟨a1, row_all h.own (a5 h.gom), h.xl, hp.1, by rw [List.length_set]; exact h.yl, a2, a3, a4, h.sl, h.ml, h.d1, h.d2, h.d3, h.g⟩
/-- one set is turned -/
theorem Fq.setS {mb' : Option Nat} {L' : Ml} (h : Fq w fn oc go X dn mc gm Y sb mb sb2 mb2 rb v L1 L2 L3 W) (hs : St W' sb mb' L') (hc : Ch sb mb W W') (hn : mb' = mb) (hg : Gdl L') : Fq w fn oc go X dn mc gm Y sb mb' sb2 mb2 rb v L' L2 L3 W' := by
  subst hn
  exact ⟨hc.low h.bel (Nat.le_refl _) h.sl.1 h.ml.1, rowD_ch h.own (by decide) h.s hc, h.xl, rowD_ch h.mov (by decide) h.s hc, h.yl, hs, h.t.kept2 h.s hc h.d1.symm (fun k e e2 => h.d2 k e2 e), h.r.keptS h.s hc, h.sl, h.ml, h.d1, h.d2, h.d3, hg, h.g.2⟩
theorem Fq.setT {L' : Ml} (h : Fq w fn oc go X dn mc gm Y sb mb sb2 mb2 rb v L1 L2 L3 W) (hs : St W' sb2 mb2 L') (hc : Ch sb2 mb2 W W') (hg : Gdl L') : Fq w fn oc go X dn mc gm Y sb mb sb2 mb2 rb v L1 L' L3 W' :=
  ⟨hc.low h.bel (Nat.le_refl _) h.sl.2 h.ml.2, rowD_ch h.own (by decide) h.t hc, h.xl, rowD_ch h.mov (by decide) h.t hc, h.yl, h.s.kept2 h.t hc h.d1 h.d2, hs, h.r.keptS h.t hc, h.sl, h.ml, h.d1, h.d2, h.d3, h.g.1, hg⟩
theorem Fq.setR {L' : Ml} (h : Fq w fn oc go X dn mc gm Y sb mb sb2 mb2 rb v L1 L2 L3 W) (hs : Rs W' w.heap.size rb v L') (hc : Ch rb v.ownBlock W W') : Fq w fn oc go X dn mc gm Y sb mb sb2 mb2 rb v L1 L2 L' W' := by
  have hgm : v.ownBlock ≠ some gm := fun e => by
    obtain ⟨_, c2, k2⟩ := row_at h.mov
    obtain ⟨cur, hcg, _⟩ := h.r.blk e
    rw [k2] at hcg; injection hcg with hb; injection hb with _ ht _; exact absurd ht (by decide)
  exact ⟨hc.low h.bel (Nat.le_refl _) h.r.low (fun k e => by obtain ⟨_, _, hb⟩ := h.r.blk e; exact hb), rowD_chR h.own (by decide) h.r hc (fun k e e2 => by cases e; exact h.d3 e2), h.xl, rowD_chR h.mov (by decide) h.r hc (fun k e e2 => by cases e; exact hgm e2), h.yl, h.s.keptR h.r hc, h.t.keptR h.r hc, hs, h.sl, h.ml, h.d1, h.d2, h.d3, h.g⟩
end
theorem delta_eq (d : Dl) (w : World) : (binOp .neq 63 (.agg #[.int .i64 d.a, .string d.o, .string d.i]) (.agg #[.int .i64 d.a, .string d.o, .string d.i])).run Try.prog w = .ok (.bool false) w := by simp [go_sem]

def xk (ms : Ml) (k : Nat) : Ml := List.replicate k (121, 5) ++ ms.drop k ++ [(113, 77)]
def yk (ds : List Dl) (k : Nat) : List Dl := (ds.take k).map (fun d => ⟨9, d.o, d.i⟩) ++ ds.drop k
def ak (L : Ml) (k : Nat) : Ml := List.replicate k (120, 3) ++ L.drop k
theorem drop_at {α : Type} {l : List α} {k : Nat} {p : α} (hp : l[k]? = some p) : l.drop k = p :: l.drop (k + 1) := by
  have hk := List.getElem?_eq_some_iff.1 hp
  rw [List.drop_eq_getElem_cons hk.1, hk.2]
theorem ak_step {L : Ml} {k : Nat} {p : Nat × Int} (hp : L[k]? = some p) : (ak L k).set k (120, 3) = ak L (k + 1) ∧ (ak L k).length = L.length := by
  have hk := (List.getElem?_eq_some_iff.1 hp).1
  unfold ak
  refine ⟨?_, by simp; omega⟩
  rw [drop_at hp, List.set_append_right _ _ (by simp), List.length_replicate, Nat.sub_self, List.set_cons_zero, List.replicate_succ']
  simp
theorem xk_step {ms : Ml} {k : Nat} {p : Nat × Int} (hp : ms[k]? = some p) : (xk ms k).set k (121, 5) = xk ms (k + 1) ∧ (xk ms k)[k]? = some p := by
  unfold xk
  rw [drop_at hp, List.append_assoc]
  refine ⟨?_, ?_⟩
  · rw [List.set_append_right _ _ (by simp), List.length_replicate, Nat.sub_self, List.cons_append, List.set_cons_zero, List.replicate_succ']
    simp
  · rw [List.getElem?_append_right (by simp), List.length_replicate, Nat.sub_self]; rfl
theorem yk_step {ds : List Dl} {k : Nat} {d : Dl} (hp : ds[k]? = some d) : (yk ds k).set k ⟨9, d.o, d.i⟩ = yk ds (k + 1) ∧ (yk ds k)[k]? = some d := by
  have hk := (List.getElem?_eq_some_iff.1 hp).1
  have hl : ((ds.take k).map (fun d : Dl => (⟨9, d.o, d.i⟩ : Dl))).length = k := by rw [List.length_map, List.length_take]; omega
  unfold yk
  rw [drop_at hp]
  refine ⟨?_, ?_⟩
  · rw [List.set_append_right _ _ (by omega), hl, Nat.sub_self, List.set_cons_zero, List.take_add_one, hp]
    simp
  · rw [List.getElem?_append_right (by omega), hl, Nat.sub_self]; rfl
theorem row_keep {W W' : World} {base c n : Nat} {t : TypeId} {v : Value} {xs : List Value} (h : W.ownsRow base t c v n xs) (e : ∀ g, v.ownBlock = some g → W'.heap[g]? = W.heap[g]?) : W'.ownsRow base t c v n xs :=
  ⟨h.1, h.2.imp id (fun ⟨g', cap, cur, h1, h2, h3, h4⟩ => ⟨g', cap, cur, h1, h2, (e g' (by rw [h1]; rfl)).trans h3, h4⟩)⟩
theorem x77 {ms : Ml} {fn : Nat} (h : ms.length = fn) : (xk ms fn)[fn]? = some (113, 77) := by
  unfold xk
  rw [List.drop_of_length_le (by omega), List.append_nil, List.getElem?_append_right (by simp), List.length_replicate, Nat.sub_self]; rfl
/-- two lists that All answered -/
structure Gb (wo : World) (B : Nat) (va vb : Value) (N : Nat) (A L : Ml) (W : World) : Prop where
  bel : Below wo.heap.size wo W
  a : W.ownsRow wo.heap.size 26 2 va N (kcl A)
  al : A.length = N
  b : W.ownsRow B 26 2 vb N (kcl L)
  lo : ∀ g, va.ownBlock = some g → g < B
theorem Gb.app {wo W W' : World} {B N : Nat} {va vb : Value} {A L : Ml} (h : Gb wo B va vb N A L W) (hg : W.grownBy W' va.ownBlock) : Below wo.heap.size wo W' ∧ W'.ownsRow B 26 2 vb N (kcl L) :=
  ⟨h.bel.grown hg h.bel.size (fun j e => (h.a.lt j e).1), row_keep h.b (fun g e => hg.block g (h.b.lt g e).2 (fun e2 => by have := h.lo g e2.symm; have := (h.b.lt g e).1; omega))⟩
theorem Gb.put {wo W : World} {B N ga ca k n : Nat} {vb : Value} {A L : Ml} {y : Int} (h : Gb wo B (.slice (some ⟨ga, 0, none⟩) N ca) vb N A L W) (hk : k < N) :
    Gb wo B (.slice (some ⟨ga, 0, none⟩) N ca) vb N (A.set k (n, y)) L ((W.setCell ⟨ga, k * 2, none⟩ (.int .u8 (n : Int))).setCell ⟨ga, k * 2 + 1, none⟩ (.int .i64 y)) := by
  have ho := h.a
  rw [← h.al] at ho
  have hp := row_put (n := n) (y := y) ho (by rw [h.al]; exact hk)
  rw [h.al] at hp
  have ha := h.app hp.2
  exact ⟨ha.1, hp.1, by rw [List.length_set]; exact h.al, ha.2, h.lo⟩
set_option maxRecDepth 100000 in
set_option maxHeartbeats 4000000 in
theorem walk_of (fa : Option Addr) (fn fc : Nat) (da : Option Addr) (dn dc : Nat) (w : World) (ms : Ml) (hR : RdK0 w (.slice fa fn fc) ms) (hb : ms.length ≤ 1048576 ∧ Fit8 ms) (ds : List Dl) (hD : RdD0 w (.slice da dn dc) ds) (hd : ds.length + dls ds ≤ 1048576 ∧ ∀ x ∈ ds, x.fit) :
    Calls Try.prog 6 #[.slice fa fn fc, .slice da dn dc] w fun e w' => e = .returned (.bool true) ∧ Below w.heap.size w w' := by
  have CL := lays_any w
  have hN1 : ms.length = fn := by obtain ⟨⟨_, _, e, _⟩, _⟩ := hR; cases e; rfl
  have hN2 : ds.length = dn := by obtain ⟨⟨_, _, e, _⟩, _⟩ := hD; cases e; rfl
  have hfn : fn ≤ 1048576 := by omega
  have hdn : dn ≤ 1048576 := by omega
  obtain ⟨L, hL⟩ : ∃ L, ld [] ms = L := ⟨_, rfl⟩
  have HR : Hid (∀ W, Below w.heap.size w W → RdK W (.slice fa fn fc) ms) := fun W hb => hR.1.below (Nat.le_refl _) hb
  have HD : Hid (∀ W, Below w.heap.size w W → RdD W (.slice da dn dc) ds) := fun W hb => hD.1.below (Nat.le_refl _) hb
  have HZ : Hid ((fa = none → fc = 0) ∧ (da = none → dc = 0)) := ⟨fun e => hR.2 fn fc (by rw [e]), fun e => hD.2 dn dc (by rw [e])⟩
  have HF : Hid (ms.length = fn ∧ Fit8 ms ∧ ds.length = dn ∧ (∀ x ∈ ds, x.fit) ∧ dls ds ≤ 1048576 ∧ ld [] ms = L ∧ Gdl L) := ⟨hN1, hb.2, hN2, hd.2, by omega, hL, hL ▸ Gdl.nil.ld⟩
  clear hR hD hb hd hN1 hN2 hL
  go_enter Try.func6, Try.ntmps6
  go_upto_region 3 with (first
    | (go_at_call 8; refine CL.mono ?_; clear CL; rintro e w1 ⟨rfl, hb1⟩; have HB1 : Hid (Below w.heap.size w w1) := hb1; clear hb1))
  have H1 : Hid (Below w.heap.size w (w1.alloc (.cells #[] 26)) ∧ (w1.alloc (.cells #[] 26)).ownsRow w.heap.size 26 2 (.slice (some ⟨w1.heap.size, 0, none⟩) 0 0) 0 []) := ⟨HB1.out.alloc HB1.out.size _, by simp, .inr ⟨w1.heap.size, 0, #[], rfl, HB1.out.size, World.alloc_heap_new w1 _, Nat.le_refl _, by unfold maxLen; omega, rfl, rfl⟩⟩
  go_upto_region 4 with (first
    | (at_builtin; refine app_rd rfl _ _ rfl w.heap.size _ 0 [] rfl H1.out.2 fa fn fc ms rfl HZ.out.1 HF.out.1 (HR.out _ H1.out.1) (by omega) H1.out.1.size ?_; intro v2 w2 hown hg hob; have H2 : Hid (w2.ownsRow w.heap.size 26 2 v2 ms.length (kcl ms) ∧ Below w.heap.size w w2) := ⟨by rw [HF.out.1]; simpa using hown, H1.out.1.grown hg H1.out.1.size (fun j e => (H1.out.2.lt j e).1)⟩; clear hown hg hob H1)
    | (at_builtin; refine app_one rfl _ _ rfl w.heap.size _ ms rfl (113, 77) H2.out.1 _ rfl (by rw [HF.out.1]; omega) H2.out.2.size ?_; intro v3 w3 hown hg hob; have H3 : Hid (w3.ownsRow w.heap.size 26 2 v3 (ms ++ [(113, 77)]).length (kcl (ms ++ [(113, 77)])) ∧ Below w.heap.size w w3) := ⟨hown, (H2.out.2.alloc H2.out.2.size _).grown hg (by have := H2.out.2.size; simp; omega) (fun j e => (H2.out.1.lt j e).1)⟩; clear hown hg hob H2))
  obtain ⟨go, oc, hv3, HO, hoc, hoc2⟩ : ∃ go oc, v3 = .slice (some ⟨go, 0, none⟩) (fn + 1) oc ∧ Hid (w3.ownsRow w.heap.size 26 2 (.slice (some ⟨go, 0, none⟩) (fn + 1) oc) (fn + 1) (kcl (ms ++ [(113, 77)])) ∧ Below w.heap.size w w3 ∧ go < w3.heap.size) ∧ fn + 1 ≤ oc ∧ oc ≤ 9223372036854775807 := by
    have hl : (ms ++ [((113, 77) : Nat × Int)]).length = fn + 1 := by rw [List.length_append, HF.out.1]; rfl
    obtain ⟨h1, h2⟩ := H3.out
    rw [hl] at h1
    rcases id h1.2 with ⟨_, hz⟩ | ⟨g, cap, cur, hv, _, hg, hn, hcm, _⟩
    · omega
    · refine ⟨g, cap, hv, ⟨hv ▸ h1, h2, (Array.getElem?_eq_some_iff.1 hg).1⟩, hn, ?_⟩
      unfold maxLen at hcm
      omega
  subst hv3
  have HRP : Hid (∀ W, W.heap[go]? = w3.heap[go]? → RdK W (.slice (some ⟨go, 0, none⟩) fn oc) ms) := fun W he => by
    have := row_all HO.out.1 he
    rw [← HF.out.1] at this ⊢
    exact row_pre this
  have CR : Hid (Calls Try.prog 10 #[.slice fa fn fc] w3 fun e w' => ∃ rb v, e = .returned (.pointer (some ⟨rb, 0, none⟩)) ∧ Rs w' w.heap.size rb v L ∧ Below w3.heap.size w3 w' ∧ v.ownBlock ≠ some go) := by
    refine (rnew_any (base := w.heap.size) HF.out.1 (by omega) HF.out.2.1 (HR.out _ HO.out.2.1) HO.out.2.1.size).mono ?_
    rintro e w' ⟨rfl, v, h1, h2, h3⟩
    exact ⟨_, v, rfl, HF.out.2.2.2.2.2.1 ▸ h1, h2, fun e => by rcases h3 go e with h | h; cases h; have := HO.out.2.2; omega⟩
  have CN : Hid (∀ W, W.heap[go]? = w3.heap[go]? → Calls Try.prog 9 #[.slice (some ⟨go, 0, none⟩) fn oc] W fun e w' => ∃ sb mb, e = .returned (.pointer (some ⟨sb, 0, none⟩)) ∧ St w' sb mb L ∧ Below W.heap.size W w' ∧ W.heap.size ≤ sb ∧ ∀ b, mb = some b → W.heap.size ≤ b) := fun W he => by
    refine (new_any HF.out.1 (by omega) HF.out.2.1 (HRP.out W he)).mono ?_
    rintro e w' ⟨rfl, mb, h1, h2, h3⟩
    exact ⟨_, mb, rfl, HF.out.2.2.2.2.2.1 ▸ h1, h2, Nat.le_refl _, fun b e => Nat.le_of_lt (h3 b e)⟩
  have CT : Hid (∀ W, Calls Try.prog 9 #[.slice none 0 0] W fun e w' => ∃ sb mb, e = .returned (.pointer (some ⟨sb, 0, none⟩)) ∧ St w' sb mb [] ∧ Below W.heap.size W w' ∧ W.heap.size ≤ sb ∧ ∀ b, mb = some b → W.heap.size ≤ b) := fun W => by
    refine (new_any (ms := []) rfl (by simp) (fun _ h => by cases h) ⟨none, 0, rfl, fun h => absurd rfl h⟩).mono ?_
    rintro e w' ⟨rfl, mb, h1, h2, h3⟩
    exact ⟨_, mb, rfl, h1, h2, Nat.le_refl _, fun b e => Nat.le_of_lt (h3 b e)⟩
  have CD : Hid (∀ W sb2 mb2, St W sb2 mb2 [] → W.ownsRow w.heap.size 26 2 (.slice (some ⟨go, 0, none⟩) (fn + 1) oc) (fn + 1) (kcl (ms ++ [(113, 77)])) → Calls Try.prog 18 #[.pointer (some ⟨sb2, 0, none⟩), .slice (some ⟨go, 0, none⟩) fn oc] W fun e w' => ∃ mb', e = .returned (.tuple #[]) ∧ St w' sb2 mb' L ∧ Ch sb2 mb2 W w' ∧ Nx W mb2 mb') := fun W sb2 mb2 h ho => by
    refine (load_any h HF.out.1 (by omega) HF.out.2.1 (fun W' hc => ?_)).mono ?_
    · have := rowD_ch ho (by decide) h hc
      rw [← HF.out.1] at this ⊢
      exact row_pre this
    · rintro e w' ⟨rfl, mb', h1, h2, h3⟩
      exact ⟨mb', rfl, HF.out.2.2.2.2.2.1 ▸ h1, h2, h3.x⟩
  clear H3 HB1
  have T1 : True := trivial
  go_upto_region 8 with (first
    | (go_at_call 10; refine CR.out.mono ?_; clear CR; rintro e w4 ⟨rb, v, rfl, h4a, h4b, h4c⟩; have H4 : Hid (Rs w4 w.heap.size rb v L ∧ Below w3.heap.size w3 w4 ∧ v.ownBlock ≠ some go) := ⟨h4a, h4b, h4c⟩; clear h4a h4b h4c)
    | (go_at_call 9; clear T1; refine (CN.out _ (H4.out.2.1.block go HO.out.2.2)).mono ?_; clear CN; rintro e w5 ⟨sb, mb, rfl, h5a, h5b, h5c, h5d⟩; have H5 : Hid (St w5 sb mb L ∧ Below w4.heap.size w4 w5 ∧ w4.heap.size ≤ sb ∧ (∀ b, mb = some b → w4.heap.size ≤ b)) := ⟨h5a, h5b, h5c, h5d⟩; clear h5a h5b h5c h5d)
    | (go_at_call 9; refine (CT.out _).mono ?_; clear CT; rintro e w6 ⟨sb2, mb2, rfl, h6a, h6b, h6c, h6d⟩; have H6 : Hid (St w6 sb2 mb2 [] ∧ Below w5.heap.size w5 w6 ∧ w5.heap.size ≤ sb2 ∧ (∀ b, mb2 = some b → w5.heap.size ≤ b)) := ⟨h6a, h6b, h6c, h6d⟩; have HO6 : Hid (w6.ownsRow w.heap.size 26 2 (.slice (some ⟨go, 0, none⟩) (fn + 1) oc) (fn + 1) (kcl (ms ++ [(113, 77)]))) := row_all HO.out.1 (by have a1 := HO.out.2.2; have a2 := H4.out.2.1; have a3 := H5.out.2.1; have a4 := a2.size; have a5 := a3.size; exact ((h6b.block go (by omega)).trans (a3.block go (by omega))).trans (a2.block go a1)); clear h6a h6b h6c h6d)
    | (go_at_call 18; refine (CD.out _ _ _ H6.out.1 HO6.out).mono ?_; clear CD; rintro e w7 ⟨mb7, rfl, h7a, h7b, h7c⟩; have H7 : Hid (St w7 sb2 mb7 L ∧ Ch sb2 mb2 w6 w7 ∧ Nx w6 mb2 mb7) := ⟨h7a, h7b, h7c⟩; clear h7a h7b h7c))
  have HB7 : Hid (Below w.heap.size w w7 ∧ w7.ownsRow w.heap.size 26 2 (.slice (some ⟨go, 0, none⟩) (fn + 1) oc) (fn + 1) (kcl (ms ++ [(113, 77)])) ∧ St w7 sb mb L ∧ St w7 sb2 mb7 L ∧ Rs w7 w.heap.size rb v L ∧ sb ≠ sb2 ∧ (∀ k, mb = some k → mb7 ≠ some k) ∧ (w.heap.size ≤ sb ∧ w.heap.size ≤ sb2) ∧ (∀ b, mb = some b → w.heap.size ≤ b) ∧ (∀ b, mb7 = some b → w.heap.size ≤ b)) := by
    obtain ⟨a1, a2, a3⟩ := HO.out
    obtain ⟨b1, b2, b3⟩ := H4.out
    obtain ⟨c1, c2, c3, c4⟩ := H5.out
    obtain ⟨d1, d2, d3, d4⟩ := H6.out
    obtain ⟨e1, e2, e3⟩ := H7.out
    have z1 := a2.size
    have z2 := b2.size
    have z3 := c2.size
    have z4 := d2.size
    have lt1 := c1.lt
    have hb6 : Below w.heap.size w w6 := ((a2.trans (b2.mono z1)).trans (c2.mono (by omega))).trans (d2.mono (by omega))
    have hs6 := c1.below d2
    have hne : sb ≠ sb2 := by omega
    have hdm : ∀ k, mb = some k → mb2 ≠ some k := fun k e1 e2 => by
      have := (c1.own k e1).2.lt
      have := d4 k e2
      omega
    have hl2 : ∀ b, mb2 = some b → w.heap.size ≤ b := fun b e => by have := d4 b e; omega
    refine ⟨e2.low hb6 (Nat.le_refl _) (by omega) hl2, rowD_ch HO6.out (by decide) d1 e2, hs6.kept2 d1 e2 hne hdm, e1, ((b1.below c2).below d2).keptS d1 e2, hne, fun k q1 q2 => ?_, ⟨by omega, by omega⟩, fun b e => by have := c4 b e; omega, fun b e => ?_⟩
    · rcases e3 k q2 with h | h
      · exact hdm k q1 h
      · have := (hs6.own k q1).2.lt; omega
    · rcases e3 b e with h | h
      · exact hl2 b h
      · omega
  have HV : Hid (v.ownBlock ≠ some go) := H4.out.2.2
  clear HO H4 H5 H6 H7 HO6 HRP
  have H1 : Hid (Below w7.heap.size w7 (w7.alloc (.cells #[] 63)) ∧ (w7.alloc (.cells #[] 63)).ownsRow w.heap.size 63 3 (.slice (some ⟨w7.heap.size, 0, none⟩) 0 0) 0 []) := ⟨(Below.refl _ w7).alloc (Nat.le_refl _) _, by simp, .inr ⟨w7.heap.size, 0, #[], rfl, HB7.out.1.size, World.alloc_heap_new w7 _, Nat.le_refl _, by unfold maxLen; omega, rfl, rfl⟩⟩
  go_upto_region 9 with (first
    | (at_builtin; refine app_rdD rfl _ _ rfl w.heap.size (.slice (some ⟨w7.heap.size, 0, none⟩) 0 0) rfl H1.out.2 da dn dc ds rfl HZ.out.2 HF.out.2.2.1 (HD.out _ (HB7.out.1.trans (H1.out.1.mono HB7.out.1.size))) (by omega) (by have := HB7.out.1.size; have := H1.out.1.size; omega) ?_; intro v9 w9 hown hg hob; have H9 : Hid (w9.ownsRow w.heap.size 63 3 v9 dn (dcl ds) ∧ Below w7.heap.size w7 w9 ∧ ∃ k, v9.ownBlock = some k) := ⟨hown, H1.out.1.grown hg H1.out.1.size (fun j e => by cases e; exact Nat.le_refl _), by rcases hob with h | h; exact ⟨_, h⟩; exact ⟨_, h⟩⟩; clear hown hg hob H1))
  obtain ⟨gm, mc, hv9, HQ⟩ : ∃ gm mc, v9 = .slice (some ⟨gm, 0, none⟩) dn mc ∧ Hid (Fq w fn oc go (ms ++ [(113, 77)]) dn mc gm ds sb mb sb2 mb7 rb v L L L w9) := by
    obtain ⟨h1, h2, k, h3⟩ := H9.out
    obtain ⟨a1, a2, a3, a4, a5, a6, a7, a8, a9, a10⟩ := HB7.out
    obtain ⟨_, cg, kg⟩ := row_at a2
    rcases id h1.2 with ⟨e, _⟩ | ⟨g, cap, cur, hv, _, hg, hn, hcm, _⟩
    · rw [e] at h3; cases h3
    · exact ⟨g, cap, hv, ⟨a1.trans (h2.mono a1.size), row_all a2 (h2.block go (Array.getElem?_eq_some_iff.1 kg).1), by rw [List.length_append, HF.out.1]; rfl, hv ▸ h1, HF.out.2.2.1, a3.below h2, a4.below h2, a5.below h2, a8, ⟨a9, a10⟩, a6, a7, HV.out, HF.out.2.2.2.2.2.2, HF.out.2.2.2.2.2.2⟩⟩
  subst hv9
  clear H9 HB7 HV HZ
  have CF : Hid (∀ W, Below w.heap.size w W → Calls Try.prog 19 #[.int .i64 0, .slice da dn dc] W fun e w' => e = .returned (.bool (farP 0 ds)) ∧ Below W.heap.size W w') := fun W hb => far_any HF.out.2.2.1 (by omega) (HD.out W hb) 0
  have CG : Hid (∀ W, Below w.heap.size w W → Calls Try.prog 28 #[.slice fa fn fc] W fun e w' => e = .returned (.bool (gtP ms)) ∧ Below W.heap.size W w') := fun W hb => great_any HF.out.1 (by omega) (HR.out W hb)
  have three : farP 0 ds = true ∨ farP 0 ds = false ∧ gtP ms = true ∨ farP 0 ds = false ∧ gtP ms = false := by
    cases farP 0 ds <;> cases gtP ms <;> simp
  rcases three with c | ⟨c, c'⟩ | ⟨c, c'⟩
  case' inl =>
    rw [c] at CF
    clear c CG
    obtain ⟨LL, hLL⟩ : ∃ LL, LL = L := ⟨_, rfl⟩
    go_upto_region 13 with (first
      | (go_at_call 19; refine (CF.out _ HQ.out.bel).mono ?_; clear CF; rintro e wt ⟨rfl, hbt⟩; have HT : Hid (Fq w fn oc go (ms ++ [(113, 77)]) dn mc gm ds sb mb sb2 mb7 rb v LL LL LL wt) := (by subst hLL; exact HQ.out.below hbt); clear hbt HQ))
    clear hLL
  case' inr.inl =>
    rw [c] at CF
    rw [c'] at CG
    clear c c'
    obtain ⟨LL, hLL⟩ : ∃ LL, LL = L := ⟨_, rfl⟩
    go_upto_region 13 with (first
      | (go_at_call 19; refine (CF.out _ HQ.out.bel).mono ?_; clear CF; rintro e w10 ⟨rfl, hb10⟩; have HQ2 : Hid (Fq w fn oc go (ms ++ [(113, 77)]) dn mc gm ds sb mb sb2 mb7 rb v L L L w10) := HQ.out.below hb10; clear hb10 HQ)
      | (go_at_call 28; refine (CG.out _ HQ2.out.bel).mono ?_; clear CG; rintro e wt ⟨rfl, hbt⟩; have HT : Hid (Fq w fn oc go (ms ++ [(113, 77)]) dn mc gm ds sb mb sb2 mb7 rb v LL LL LL wt) := (by subst hLL; exact HQ2.out.below hbt); clear hbt HQ2))
    clear hLL
  case' inr.inr =>
    rw [c] at CF
    rw [c'] at CG
    have HDS : Hid (∀ d ∈ ds, 0 ≤ d.a ∧ d.a ≤ 1099511627776) := fun d hd => by
      unfold farP at c
      rw [Bool.or_eq_false_iff] at c
      have := List.any_eq_false.1 c.2 d hd
      simp at this
      omega
    have HLB : Hid (∀ p ∈ L, 0 ≤ p.2 ∧ p.2 ≤ 1125899906842624) := fun p hp => by
      have h1 : ∀ p ∈ ms, p.2 ≤ 549755813888 := fun p hp => by
        have := List.any_eq_false.1 c' p hp
        simp at this
        omega
      have h2 : Bd 0 (ld [] ms) := Bd.ld (Bd.nil _) h1
      rw [HF.out.2.2.2.2.2.1] at h2
      have := h2 p hp
      omega
    have HRM : Hid (∀ W, W.ownsRow w.heap.size 63 3 (.slice (some ⟨gm, 0, none⟩) dn mc) dn (dcl ds) → RdD W (.slice (some ⟨gm, 0, none⟩) dn mc) ds) := fun W h => by
      rw [← HF.out.2.2.1] at h ⊢
      exact RdD.of_row h
    clear c c'
    obtain ⟨LL, hLL⟩ : ∃ LL, LL = mvL ds L := ⟨_, rfl⟩
    have T2 : True := trivial
    go_upto_region 13 with (first
      | (go_at_call 19; refine (CF.out _ HQ.out.bel).mono ?_; clear CF; rintro e w10 ⟨rfl, hb10⟩; have HQ2 : Hid (Fq w fn oc go (ms ++ [(113, 77)]) dn mc gm ds sb mb sb2 mb7 rb v L L L w10) := HQ.out.below hb10; clear hb10 HQ)
      | (go_at_call 28; refine (CG.out _ HQ2.out.bel).mono ?_; clear CG; rintro e w11 ⟨rfl, hb11⟩; have HQ3 : Hid (Fq w fn oc go (ms ++ [(113, 77)]) dn mc gm ds sb mb sb2 mb7 rb v L L L w11) := HQ2.out.below hb11; clear hb11 HQ2)
      | (go_at_call 20; clear T2; refine (move_any HQ3.out.s HQ3.out.g.1 HF.out.2.2.1 (by omega) HF.out.2.2.2.1 (fun W' hc => HRM.out _ (rowD_ch HQ3.out.mov (by decide) HQ3.out.s hc))).mono ?_; rintro e w12 ⟨rfl, hs12, hc12⟩; have HQ4 : Hid (Fq w fn oc go (ms ++ [(113, 77)]) dn mc gm ds sb mb sb2 mb7 rb v (mvL ds L) L L w12) := HQ3.out.setS hs12 hc12 rfl HQ3.out.g.1.move; clear hs12 hc12 HQ3)
      | (go_at_call 20; refine (move_any HQ4.out.t HQ4.out.g.2 HF.out.2.2.1 (by omega) HF.out.2.2.2.1 (fun W' hc => HRM.out _ (rowD_ch HQ4.out.mov (by decide) HQ4.out.t hc))).mono ?_; rintro e w13 ⟨rfl, hs13, hc13⟩; have HQ5 : Hid (Fq w fn oc go (ms ++ [(113, 77)]) dn mc gm ds sb mb sb2 mb7 rb v (mvL ds L) (mvL ds L) L w13) := HQ4.out.setT hs13 hc13 HQ4.out.g.2.move; clear hs13 hc13 HQ4)
      | (go_at_call 29; refine (rmove_any HQ5.out.r HF.out.2.2.1 (by omega) HF.out.2.2.2.1 HDS.out HF.out.2.2.2.2.1 HLB.out (fun W' hc => HD.out _ (hc.low HQ5.out.bel (Nat.le_refl _) HQ5.out.r.low (fun k e => by obtain ⟨_, _, hb⟩ := HQ5.out.r.blk e; exact hb)))).mono ?_; rintro e wt ⟨rfl, hst, hct⟩; have HT : Hid (Fq w fn oc go (ms ++ [(113, 77)]) dn mc gm ds sb mb sb2 mb7 rb v LL LL LL wt) := (by subst hLL; exact HQ5.out.setR hst hct); clear hst hct HQ5))
    clear hLL HDS HLB HRM
  all_goals
    have hl27 : LL.length ≤ 27 := len27 HT.out.s.ris.1 HT.out.g.1
    go_wp2
    go_loopw [60] (fun t60 wr => ∃ k : Nat, k ≤ fn ∧ t60 = .int .i64 k ∧ Hid (Fq w fn oc go (xk ms k) dn mc gm ds sb mb sb2 mb7 rb v LL LL LL wr)) (fun t60 _ => fn - (intOf t60).toNat)
    case atStart => exact ⟨0, Nat.zero_le _, rfl, HT⟩
    case round =>
      obtain ⟨k, hk, rfl, HK⟩ := hrel
      clear HT
      by_cases hlt : k < fn
      · obtain ⟨p, hp⟩ : ∃ p, ms[k]? = some p := ⟨ms[k]'(by rw [HF.out.1]; exact hlt), List.getElem?_eq_getElem _⟩
        obtain ⟨_, _, ev, hrd⟩ := HR.out _ HK.out.bel
        obtain ⟨ea, en, ec⟩ := Value.slice.inj ev
        obtain ⟨g, o, eg, hg, hcs⟩ := hrd (fun e => by rw [e] at hp; cases hp)
        rw [← ea] at eg
        subst eg
        obtain ⟨y0, y1⟩ := hcs k p hp
        obtain ⟨z0, z1⟩ := new2 wr (.int .u8 (p.1 : Int)) (.int .i64 p.2) 26
        have HX : Hid (Fq w fn oc go (xk ms k) dn mc gm ds sb mb sb2 mb7 rb v LL LL LL (wr.alloc (.cells #[.int .u8 (p.1 : Int), .int .i64 p.2] 26))) := HK.out.below ((Below.refl _ wr).alloc (Nat.le_refl _) _)
        obtain ⟨q0, q1⟩ := kcl_get _ k p (xk_step hp).2
        have o0 : (wr.alloc (.cells #[.int .u8 (p.1 : Int), .int .i64 p.2] 26)).cell? ⟨go, k * 2, none⟩ = some (.int .u8 (p.1 : Int)) := (HX.out.own.cellAt (k * 2) (by omega)).trans q0
        have o1 : (wr.alloc (.cells #[.int .u8 (p.1 : Int), .int .i64 p.2] 26)).cell? ⟨go, k * 2 + 1, none⟩ = some (.int .i64 p.2) := (HX.out.own.cellAt (k * 2 + 1) (by omega)).trans q1
        have f0 := HX.out.own.frozenAt (k * 2)
        have f1 := HX.out.own.frozenAt (k * 2 + 1)
        have HST : Hid ((xk ms k).set k (121, 5) = xk ms (k + 1)) := (xk_step hp).1
        have he := mark_eq p.1 p.2
        clear hrd hcs hp ev ea en ec hg q0 q1 HK
        go_upto_region 16 with fail
        obtain ⟨xb, hxb⟩ : ∃ xb, wr.heap.size = xb := ⟨_, rfl⟩
        obtain ⟨W2, hW2⟩ : ∃ W2, wr.alloc (.cells #[.int .u8 (p.1 : Int), .int .i64 p.2] 26) = W2 := ⟨_, rfl⟩
        rw [hW2] at HX o0 o1 f0 f1 z0 z1 ⊢
        rw [hxb] at z0 z1 ⊢
        clear hxb hW2 y0 y1
        go_quiet (fail)
        go_wp2
        refine ⟨⟨k + 1, by omega, by go_num, ?_⟩, by simp [intOf]; omega⟩
        rw [← HST.out]
        exact (HX.out.below (drewN_below _ _ _)).setOwn (by omega)
      · have hkf : k = fn := by omega
        have HU : Hid (Fq w fn oc go (xk ms fn) dn mc gm (yk ds 0) sb mb sb2 mb7 rb v LL LL LL wr) := hkf ▸ HK
        clear HK
        go_wp2
        obtain ⟨wo, hwo⟩ : ∃ wo, wo = wr := ⟨_, rfl⟩
        rw [← hwo] at HU ⊢
        clear hwo wr
        go_loopw [78] (fun t78 wr => ∃ j : Nat, j ≤ dn ∧ t78 = .int .i64 j ∧ Hid (Fq w fn oc go (xk ms fn) dn mc gm (yk ds j) sb mb sb2 mb7 rb v LL LL LL wr)) (fun t78 _ => dn - (intOf t78).toNat)
        case atStart => exact ⟨0, Nat.zero_le _, rfl, HU⟩
        case round =>
          obtain ⟨j, hj, rfl, HX⟩ := hrel
          clear HU
          by_cases hltj : j < dn
          · obtain ⟨d, hd⟩ : ∃ d, ds[j]? = some d := ⟨ds[j]'(by rw [HF.out.2.2.1]; exact hltj), List.getElem?_eq_getElem _⟩
            obtain ⟨_, _, ev, hrd⟩ := HD.out _ HX.out.bel
            obtain ⟨ea, en, ec⟩ := Value.slice.inj ev
            obtain ⟨g, o, eg, hg, hcs⟩ := hrd (fun e => by rw [e] at hd; cases hd)
            rw [← ea] at eg
            subst eg
            obtain ⟨y0, y1, y2⟩ := hcs j d hd
            obtain ⟨q0, q1, q2⟩ := dcl_get _ j d (yk_step hd).2
            have o0 : wr.cell? ⟨gm, j * 3, none⟩ = some (.int .i64 d.a) := (HX.out.mov.cellAt (j * 3) (by omega)).trans q0
            have o1 : wr.cell? ⟨gm, j * 3 + 1, none⟩ = some (.string d.o) := (HX.out.mov.cellAt (j * 3 + 1) (by omega)).trans q1
            have o2 : wr.cell? ⟨gm, j * 3 + 2, none⟩ = some (.string d.i) := (HX.out.mov.cellAt (j * 3 + 2) (by omega)).trans q2
            have f0 := HX.out.mov.frozenAt (j * 3)
            have HST : Hid ((yk ds j).set j ⟨9, d.o, d.i⟩ = yk ds (j + 1) ∧ (yk ds j)[j]? = some d) := yk_step hd
            have he := delta_eq d
            clear hrd hcs hd ev ea en ec hg q0 q1 q2
            go_upto_region 23 with fail
            go_quiet (fail)
            go_wp2
            refine ⟨⟨j + 1, by omega, by go_num, ?_⟩, by simp [intOf]; omega⟩
            rw [← HST.out.1]
            exact (HX.out.below (drewN_below _ _ _)).setMov HST.out.2
          · have HW : Hid (∃ Y, Fq w fn oc go (xk ms fn) dn mc gm Y sb mb sb2 mb7 rb v LL LL LL wr) := ⟨_, HX.out⟩
            obtain ⟨N, hN⟩ : ∃ N, LL.length = N := ⟨_, rfl⟩
            have HN : Hid (LL.length = N) := hN
            have hNl : N ≤ 27 := by omega
            have CB : Hid (∀ W, Below wr.heap.size wr W → Calls Try.prog 16 #[.pointer (some ⟨rb, 0, none⟩)] W fun e W' => ∃ a c, e = .returned (.slice a N c) ∧ RdK W' (.slice a N c) LL ∧ Below W.heap.size W W') := fun W hb => by
              refine (rall_any (HX.out.below hb).r).mono ?_
              rintro e w' ⟨v, rfl, h1, h2⟩
              have hk := RdK.of_row h1
              obtain ⟨a, c, e1, _⟩ := id hk
              rw [hN] at e1
              subst e1
              exact ⟨a, c, rfl, hk, h2⟩
            have CA : Hid (∀ W, Below wr.heap.size wr W → Calls Try.prog 25 #[.pointer (some ⟨sb, 0, none⟩)] W fun e W' => ∃ a c, e = .returned (.slice a N c) ∧ W'.ownsRow W.heap.size 26 2 (.slice a N c) N (kcl LL) ∧ RdK W' (.slice a N c) LL ∧ Below W.heap.size W W') := fun W hb => by
              refine (All_any (HX.out.below hb).s HX.out.g.1).mono ?_
              rintro e w' ⟨v, rfl, h1, h2⟩
              have hk := RdK.of_row h1
              obtain ⟨a, c, e1, _⟩ := id hk
              rw [hN] at e1 h1
              subst e1
              exact ⟨a, c, rfl, h1, hk, h2⟩
            have CT : Hid (∀ W, Below wr.heap.size wr W → Calls Try.prog 25 #[.pointer (some ⟨sb2, 0, none⟩)] W fun e W' => ∃ a c, e = .returned (.slice a N c) ∧ RdK W' (.slice a N c) LL ∧ Below W.heap.size W W') := fun W hb => by
              have := All_rd (HX.out.below hb).t HX.out.g.2
              rw [hN] at this
              exact this
            have CS : Hid (∀ W a c a' c', RdK W (.slice a N c) LL → RdK W (.slice a' N c') LL → Calls Try.prog 30 #[.slice a N c, .slice a' N c'] W fun e w' => e = .returned (.bool true) ∧ Below W.heap.size W w') := fun W a c a' c' h1 h2 => same_any hN (by omega) h1 h2
            clear HX hN hl27 HD HR
            obtain ⟨wo, hwo⟩ : ∃ wo, wo = wr := ⟨_, rfl⟩
            rw [← hwo] at HW CB CA CT ⊢
            clear hwo wr
            have T1 : True := trivial
            go_wp2_with (first
              | (go_at_call 25; clear T1; refine (CA.out _ (Below.refl _ _)).mono ?_; rintro e w14 ⟨aa, ca, rfl, h1, _, h2⟩; have H14 : Hid (w14.ownsRow wo.heap.size 26 2 (.slice aa N ca) N (kcl LL) ∧ Below wo.heap.size wo w14) := ⟨h1, h2⟩; clear h1 h2)
              | (go_at_call 25; refine (CA.out _ H14.out.2).mono ?_; rintro e w15 ⟨ab, cb, rfl, h1, _, h2⟩; have H15 : Hid (Gb wo w14.heap.size (.slice aa N ca) (.slice ab N cb) N LL LL w15) := ⟨H14.out.2.trans (h2.mono H14.out.2.size), row_keep H14.out.1 (fun g e => h2.block g (H14.out.1.lt g e).2), HN.out, h1, fun g e => (H14.out.1.lt g e).2⟩; clear h1 h2 H14))
            go_loopw [101] (fun t101 wr => ∃ i : Nat, i ≤ N ∧ t101 = .int .i64 i ∧ Hid (Gb wo w14.heap.size (.slice aa N ca) (.slice ab N cb) N (ak LL i) LL wr)) (fun t101 _ => N - (intOf t101).toNat)
            case atStart => exact ⟨0, Nat.zero_le _, rfl, H15⟩
            case round =>
              obtain ⟨i, hi, rfl, HG⟩ := hrel
              clear H15
              by_cases hlti : i < N
              · obtain ⟨ga, rfl⟩ : ∃ ga, aa = some ⟨ga, 0, none⟩ := by
                  rcases HG.out.a.2 with ⟨e, hz⟩ | ⟨g, cap, cur, e, _⟩
                  · omega
                  · cases e; exact ⟨g, rfl⟩
                obtain ⟨p, hp⟩ : ∃ p, LL[i]? = some p := ⟨LL[i]'(by rw [HN.out]; exact hlti), List.getElem?_eq_getElem _⟩
                have HST : Hid ((ak LL i).set i (120, 3) = ak LL (i + 1)) := (ak_step hp).1
                obtain ⟨u, hu⟩ : ∃ u, (kcl (ak LL i))[i * 2]? = some u := ⟨_, List.getElem?_eq_getElem (by rw [kcl_len, HG.out.al]; omega)⟩
                obtain ⟨u', hu'⟩ : ∃ u', (kcl (ak LL i))[i * 2 + 1]? = some u' := ⟨_, List.getElem?_eq_getElem (by rw [kcl_len, HG.out.al]; omega)⟩
                have o0 : wr.cell? ⟨ga, i * 2, none⟩ = some u := (HG.out.a.cellAt (i * 2) (by omega)).trans hu
                have o1 : wr.cell? ⟨ga, i * 2 + 1, none⟩ = some u' := (HG.out.a.cellAt (i * 2 + 1) (by omega)).trans hu'
                have f0 := HG.out.a.frozenAt (i * 2)
                have f1 := HG.out.a.frozenAt (i * 2 + 1)
                clear hp hu hu'
                go_wp2
                refine ⟨⟨i + 1, by omega, by go_num, ?_⟩, by simp [intOf]; omega⟩
                rw [← HST.out]
                exact HG.out.put hlti
              · obtain ⟨vz, wz, run, hgz⟩ := app_zeros HG.out.a (by omega)
                obtain ⟨hbz, hrz⟩ := HG.out.app hgz
                have S0 : Hid (Below wo.heap.size wo wz ∧ RdK wz (.slice ab N cb) LL) := ⟨hbz, by
                  rw [← HN.out] at hrz ⊢
                  exact RdK.of_row hrz⟩
                obtain ⟨Y, hY⟩ := HW.out
                have c77 : wz.cell? ⟨go, fn * 2 + 1, none⟩ = some (.int .i64 77) := ((hY.below hbz).own.cellAt (fn * 2 + 1) (by omega)).trans (kcl_get _ fn _ (x77 HF.out.1)).2
                have HE : Hid (∀ W, Below wo.heap.size wo W → Below w.heap.size w W) := fun W hb => (hY.below hb).bel
                clear hgz hbz hrz hY HG HW
                go_wp2_with (first
                  | (at_builtin; refine Lib.wpList_append_run _ rfl _ _ 22 3 rfl _ _ rfl rfl _ _ run ?_)
                  | (go_at_call 16; refine (CB.out _ S0.out.1).mono ?_; rintro e w20 ⟨a0, c0, rfl, h1, h2⟩; have S1 : Hid (RdK w20 (.slice ab N cb) LL ∧ RdK w20 (.slice a0 N c0) LL ∧ Below wo.heap.size wo w20) := ⟨S0.out.2.below (Nat.le_refl _) h2, h1, S0.out.1.trans (h2.mono S0.out.1.size)⟩; clear S0 h1 h2)
                  | (go_at_call 30; refine (CS.out _ _ _ _ _ S1.out.1 S1.out.2.1).mono ?_; rintro e w21 ⟨rfl, h2⟩; have S2 : Hid (Below wo.heap.size wo w21) := S1.out.2.2.trans (h2.mono S1.out.2.2.size); clear S1 h2)
                  | (go_at_call 25; refine (CA.out _ S2.out).mono ?_; rintro e w22 ⟨a2, c2, rfl, _, h1, h2⟩; have S3 : Hid (Below wo.heap.size wo w22 ∧ RdK w22 (.slice a2 N c2) LL) := ⟨S2.out.trans (h2.mono S2.out.size), h1⟩; clear S2 h1 h2)
                  | (go_at_call 16; refine (CB.out _ S3.out.1).mono ?_; rintro e w23 ⟨a3, c3, rfl, h1, h2⟩; have S4 : Hid (RdK w23 (.slice a2 N c2) LL ∧ RdK w23 (.slice a3 N c3) LL ∧ Below wo.heap.size wo w23) := ⟨S3.out.2.below (Nat.le_refl _) h2, h1, S3.out.1.trans (h2.mono S3.out.1.size)⟩; clear S3 h1 h2)
                  | (go_at_call 30; refine (CS.out _ _ _ _ _ S4.out.1 S4.out.2.1).mono ?_; rintro e w24 ⟨rfl, h2⟩; have S5 : Hid (Below wo.heap.size wo w24) := S4.out.2.2.trans (h2.mono S4.out.2.2.size); clear S4 h2)
                  | (go_at_call 25; refine (CT.out _ S5.out).mono ?_; rintro e w25 ⟨a5, c5, rfl, h1, h2⟩; have S6 : Hid (Below wo.heap.size wo w25 ∧ RdK w25 (.slice a5 N c5) LL) := ⟨S5.out.trans (h2.mono S5.out.size), h1⟩; clear S5 h1 h2)
                  | (go_at_call 16; refine (CB.out _ S6.out.1).mono ?_; rintro e w26 ⟨a6, c6, rfl, h1, h2⟩; have S7 : Hid (RdK w26 (.slice a5 N c5) LL ∧ RdK w26 (.slice a6 N c6) LL ∧ Below wo.heap.size wo w26) := ⟨S6.out.2.below (Nat.le_refl _) h2, h1, S6.out.1.trans (h2.mono S6.out.1.size)⟩; clear S6 h1 h2)
                  | (go_at_call 30; refine (CS.out _ _ _ _ _ S7.out.1 S7.out.2.1).mono ?_; rintro e w27 ⟨rfl, h2⟩; have S8 : Hid (Below wo.heap.size wo w27) := S7.out.2.2.trans (h2.mono S7.out.2.2.size); clear S7 h2))
                go_ret
                exact ⟨rfl, HE.out _ S8.out⟩
end Go.Proofs.Ytolafffpgkgadaa
