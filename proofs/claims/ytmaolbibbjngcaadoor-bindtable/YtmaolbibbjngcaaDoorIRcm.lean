/-
  The document's own Single and Commands of layer 19. Conditions: the keys are such as the contract of Key asks.
-/
import Derived.Test.YtmaolbibbjngcaaDoorIPar
import Derived.Deep.DeepCutAuto
namespace Go.Proofs.YtmaolbibbjngcaaDoor
open Go.RowKit Go.Shelf Bod

/-- while commands are made: a binder of the call's own, what waits in it, the row of commands -/
structure Lr (w : World) (b : Nat) (s : Bs) (v : Value) (ys : List Cm) (W : World) : Prop where
  bel : Below w.heap.size w W
  ge : w.heap.size ≤ b
  bn : Rn b s W
  row : W.ownsRow w.heap.size 34 4 v ys.length (ccl ys)
section
variable {w W X : World} {b : Nat} {s t : Bs} {v v' : Value} {ys : List Cm}
theorem Lr.lt (h : Lr w b s v ys W) : b < W.heap.size := (Array.getElem?_eq_some_iff.1 h.bn).1
theorem Lr.ne (h : Lr w b s v ys W) : v.ownBlock = none ∨ v.ownBlock ≠ some b := by
  rcases h.row.2 with ⟨rfl, _⟩ | ⟨g, cap, cur, rfl, _, hg, _⟩
  · exact .inl rfl
  · refine .inr (fun e => ?_)
    simp only [Value.ownBlock, Option.some.injEq] at e
    subst e
    have := h.bn
    unfold Rn at this
    rw [hg] at this
    have := Option.some.inj this
    injection this with _ h3 _
    exact absurd h3 (by decide)
theorem Lr.below (h : Lr w b s v ys W) (hb : Below W.heap.size W X) : Lr w b s v ys X :=
  ⟨h.bel.trans (hb.mono h.bel.size), h.ge, h.bn.below hb, h.row.kept (row := none) ⟨hb.os, hb.tape, hb.output, hb.size, fun k hk _ => hb.block k hk⟩ (by cases v.ownBlock <;> simp)⟩
theorem Lr.to (h : Lr w b s v ys W) (h1 : Rn b t X) (hg : W.grownBy X (some b)) : Lr w b t v ys X :=
  ⟨h.bel.grown hg (by have := h.bel.size; omega) (fun k e => by cases e; exact h.ge), h.ge, h1, h.row.kept hg h.ne⟩
theorem Lr.app {c : Cm} {o : Obj} (h : Lr w b s v ys W) (h1 : X.ownsRow w.heap.size 34 4 v' (ys.length + 1) (ccl ys ++ [.int .i64 c.kd, .int .i64 c.n, .string c.tx, .int .u8 c.mr])) (hg : (W.alloc o).grownBy X v.ownBlock) : Lr w b s v' (ys ++ [c]) X := by
  have hb1 := h.bel.alloc h.bel.size o
  have hl := h.lt
  refine ⟨hb1.grown hg (by have := h.bel.size; simp; omega) (fun k e => (h.row.lt k e).1), h.ge, ?_, ?_⟩
  · refine (hg.block b (by simp; omega) (fun e => ?_)).trans ((Below.heap_alloc _ _ _ hl).trans h.bn)
    rcases h.ne with q | q
    · rw [q] at e; cases e
    · exact q e.symm
  · rw [ccl_snoc, List.length_append]
    exact h1
end
set_option maxRecDepth 100000 in
set_option maxHeartbeats 2000000 in
theorem rcms_any (a0 : Option Addr) (cap : Nat) (l : List Ky) (w : World) (hS : RdKy w (.slice a0 l.length cap) l) (hl : l.length ≤ 2097152) (hk : ∀ k ∈ l, k.Ok) :
    Calls Tryd.prog 23 #[.slice a0 l.length cap] w fun e W' => ∃ v, e = .returned v ∧ W'.ownsRow w.heap.size 34 4 v (runP bsz l).1.length (ccl (runP bsz l).1) ∧ Below w.heap.size w W' := by
  obtain ⟨i0, hi, hz0, hz1, hz2⟩ := info_parts info_ccl
  have HR : Hid (∀ W, Below w.heap.size w W → RdKy W (.slice a0 l.length cap) l) := fun W hW => hS.below (Nat.le_refl _) hW
  obtain ⟨N, hN⟩ : ∃ N, l.length = N := ⟨_, rfl⟩
  have HN : Hid (l.length = N) := hN
  have CK : Hid (∀ (W : World) (b : Nat) (s : Bs) (v : Value) (ys : List Cm) (k : Ky), s.Ok → k ∈ l → Lr w b s v ys W → Calls Tryd.prog 16 #[.pointer (some ⟨b, 0, none⟩), kyv k] W fun e w' => e = .returned (.tuple #[.agg (cmc (keyP s k).1), .bool (keyP s k).2.1]) ∧ Hid (Lr w b (keyP s k).2.2 v ys w')) := fun W b s v ys k hs hkm hW =>
    (rky_any b s hs k (hk k hkm) W hW.bn).mono fun e w' q => ⟨q.1, hW.to q.2.1 q.2.2⟩
  rw [hN] at HR hl ⊢
  have hl' : (N : Int) ≤ 2097152 := by omega
  clear hS hN hk
  go_enter Tryd.func23, Tryd.ntmps23
  go_upto_region 4 with (go_at_call 11; refine (rnw_any _).mono ?_; rintro e w1 ⟨rfl, rfl⟩)
  have H0 : Hid (Lr w w.heap.size bsz (.slice none 0 0) [] (w.alloc (.cells (bsc bsz) 55))) := ⟨(Below.refl _ w).alloc (Nat.le_refl _) _, Nat.le_refl _, World.alloc_heap_new _ _, World.ownsRow_nil _ _ _ _⟩
  generalize w.alloc (.cells (bsc bsz) 55) = W1 at H0 ⊢
  go_loopw [3, 5] (fun t4 t12 wr => ∃ i : Nat, t12 = .int .i64 i ∧ i ≤ N ∧ Hid (Lr w w.heap.size (runP bsz (l.take i)).2 t4 (runP bsz (l.take i)).1 wr)) (fun _ t12 _ => N - (intOf t12).toNat)
  case atStart => exact ⟨0, rfl, Nat.zero_le _, H0⟩
  case round =>
    clear H0
    obtain ⟨i, rfl, hi', HL⟩ := hrel
    by_cases hlt : i < N
    · have hlt' : (i : Int) < N := by omega
      obtain ⟨x, hx⟩ : ∃ x, l[i]? = some x := ⟨l[i]'(by rw [HN.out]; exact hlt), List.getElem?_eq_getElem _⟩
      obtain ⟨g, o, rfl, hg, q0, q1, q2, q3, q4, q5⟩ := (HR.out wr HL.out.bel).at hx
      have hOk : (runP bsz (l.take i)).2.Ok := runP_ok bsz_ok _
      have hyl : (runP bsz (l.take i)).1.length ≤ i := Nat.le_trans (runP_len _ _) (by rw [List.length_take]; omega)
      have HT : Hid (runP bsz (l.take (i + 1)) = _) := runP_take bsz hx
      generalize (runP bsz (l.take i)).1 = ys at HL HT hyl
      generalize (runP bsz (l.take i)).2 = s at HL HT hOk
      have D : Hid (∀ (W : World), Lr w w.heap.size s u3 ys W → Calls Tryd.prog 16 #[.pointer (some ⟨w.heap.size, 0, none⟩), kyv x] W fun e w' => e = .returned (.tuple #[.agg (cmc (keyP s x).1), .bool (keyP s x).2.1]) ∧ Hid (Lr w w.heap.size (keyP s x).2.2 u3 ys w')) := fun W hW => CK.out W _ s u3 ys x hOk (List.mem_of_getElem? hx) hW
      generalize (keyP s x).2.2 = s' at D HT
      generalize (keyP s x).2.1 = ok at D HT
      generalize (keyP s x).1 = c at D HT
      clear hOk hx CK HR
      obtain ⟨x0, x1, x2, x3, x4, x5⟩ := x
      obtain ⟨c0, c1, c2, c3⟩ := c
      simp only [kyv, cmc] at q0 q1 q2 q3 q4 q5 D
      cases ok
      · go_wp2_with (go_at_call 16; refine (D.out _ HL.out).mono ?_; rintro e w2 ⟨rfl, H2⟩; clear q0 q1 q2 q3 q4 q5)
        refine ⟨⟨i + 1, by go_num, by omega, ?_⟩, by simp [intOf]; omega⟩
        rw [HT.out, if_neg (by decide), List.append_nil]
        exact H2.out.below ((Below.refl _ _).alloc (Nat.le_refl _) _)
      · go_upto_region 7 with (go_at_call 16; refine (D.out _ HL.out).mono ?_; rintro e w2 ⟨rfl, H2⟩; clear q0 q1 q2 q3 q4 q5)
        have HQ : Hid (Lr w w.heap.size s' u3 ys _) := H2.out.below ((Below.refl _ w2).alloc (Nat.le_refl _) (.cells #[.int .i64 c0, .int .i64 c1, .string c2, .int .u8 c3] 34))
        obtain ⟨v0, v1, v2, v3⟩ := (box4 (World.alloc_heap_new w2 (.cells #[.int .i64 c0, .int .i64 c1, .string c2, .int .u8 c3] 34))).1
        clear H2
        generalize w2.alloc (.cells #[.int .i64 c0, .int .i64 c1, .string c2, .int .u8 c3] 34) = W4 at HQ v0 v1 v2 v3 ⊢
        have HY : Hid (ys.length ≤ i) := hyl
        go_wp2_with (at_builtin; refine wpList_append_own_at _ rfl _ _ 39 rfl w.heap.size 34 i0 _ 4 40 Tryd.underlying39 hi hz0 hz1 hz2 rfl (by decide) _ _ _ rfl (HQ.out.row.alloc _) ⟨W4.heap.size, 0, none⟩ 1 1 [.int .i64 c0, .int .i64 c1, .string c2, .int .u8 c3] rfl rfl (World.news_of_block (World.alloc_heap_new W4 _)) (by simp [Value.oneCell']) (by unfold maxLen; omega) (by omega) (by have := HQ.out.bel.size; simp; omega) ?_; intro v' w6 hown' hgrow _ hob; have HF : Hid (Lr w w.heap.size s' v' (ys ++ [⟨c0, c1, c2, c3⟩]) w6) := HQ.out.app hown' hgrow; clear hown' hgrow hob)
        refine ⟨⟨i + 1, by go_num, by omega, ?_⟩, by simp [intOf]; omega⟩
        rw [HT.out, if_pos trivial]
        exact HF
    · have hge : ¬ ((i : Int) < N) := by omega
      go_wp2
      go_ret
      have e : l.take i = l := by rw [show i = l.length by rw [HN.out]; omega]; exact List.take_length
      have := HL.out
      rw [e] at this
      exact ⟨_, rfl, this.row, this.bel⟩
set_option maxRecDepth 100000 in
set_option maxHeartbeats 2000000 in
theorem rsg_any (k : Ky) (hk : k.Ok) (w : World) : Calls Tryd.prog 21 #[kyv k] w fun e w' => e = .returned (.tuple #[.agg (cmc (keyP bsz k).1), .bool (keyP bsz k).2.1]) ∧ Below w.heap.size w w' := by
  have H0 : Hid (Sg w ((w.alloc (.cells (kyc k) 30)).alloc (.cells (cmc cmz) 34)) ∧ ((w.alloc (.cells (kyc k) 30)).alloc (.cells (cmc cmz) 34)).heap[w.heap.size]? = some (.cells (kyc k) 30 (0, 0))) := by
    refine ⟨⟨((Below.refl _ w).alloc (Nat.le_refl _) _).alloc (by simp) _, by simp, ?_⟩, (Below.heap_alloc _ _ _ (by simp)).trans (World.alloc_heap_new _ _)⟩
    have := World.alloc_heap_new (w.alloc (.cells (kyc k) 30)) (.cells (cmc cmz) 34)
    simpa using this
  have CK : Hid (∀ (W : World), Sg w W → Calls Tryd.prog 16 #[.pointer (some ⟨w.heap.size + 1 + 1, 0, none⟩), kyv k] (W.alloc (.cells (bsc bsz) 55)) fun e w' => e = .returned (.tuple #[.agg (cmc (keyP bsz k).1), .bool (keyP bsz k).2.1]) ∧ Hid (Sh w w')) := fun W hW => by
    have hB := hW.bel.alloc hW.bel.size (.cells (bsc bsz) 55)
    have hn := World.alloc_heap_new W (.cells (bsc bsz) 55)
    have hz := hW.sz
    refine (rky_any (w.heap.size + 1 + 1) bsz bsz_ok k hk _ (by unfold Rn; rw [← hW.sz]; exact hn)).mono fun e w' q => ⟨q.1, hB.grown q.2.2 (by show _ ≤ (W.alloc _).heap.size; simp; omega) (fun k e => by cases e; omega), ?_⟩
    refine (q.2.2.block _ (by show _ < (W.alloc _).heap.size; simp; omega) (by intro e; have := Option.some.inj e; omega)).trans ((Below.heap_alloc _ _ _ (by omega)).trans hW.rs)
  generalize (keyP bsz k).2.1 = ok at CK ⊢
  generalize (keyP bsz k).1 = c at CK ⊢
  clear hk
  obtain ⟨x0, x1, x2, x3, x4, x5⟩ := k
  obtain ⟨c0, c1, c2, c3⟩ := c
  simp only [kyv, cmc, kyc, cmz] at CK H0 ⊢
  go_enter Tryd.func21, Tryd.ntmps21
  go_wp2_with (first
    | (go_at_call 11; refine (rnw_any _).mono ?_; rintro e w1 ⟨rfl, rfl⟩)
    | (go_at_call 16; refine (CK.out _ H0.out.1).mono ?_; rintro e w2 ⟨rfl, K2⟩; obtain ⟨⟨r0, r1, r2, r3⟩, ⟨s0, s1, s2, s3⟩⟩ := box4 K2.out.rs))
  obtain ⟨p, q0, q1, q2, q3⟩ := K2.out.fin (.int .i64 c0) (.int .i64 c1) (.string c2) (.int .u8 c3)
  exact bodyPost_ret (v := .tuple #[.agg #[.int .i64 c0, .int .i64 c1, .string c2, .int .u8 c3], .bool ok]) (by simp [results, Tryd.results21, go_sem, q0, q1, q2, q3]) rfl ⟨rfl, p⟩
end Go.Proofs.YtmaolbibbjngcaaDoor
