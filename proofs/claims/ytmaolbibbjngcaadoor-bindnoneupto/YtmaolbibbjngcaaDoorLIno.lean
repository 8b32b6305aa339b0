/-
  The walk of the law BindNone: a nil binder makes nothing of any key; the zero Binder is as a new one. Conditions: those of walk_of.
-/
import Derived.Test.YtmaolbibbjngcaaDoorILay
namespace Go.Proofs.YtmaolbibbjngcaaDoor.bindNone
open Go.RowKit Go.Shelf Bod

/-- and the key's box -/
structure Lk (w : World) (b : Nat) (s : Bs) (v : Value) (ys : List Cm) (kb : Nat) (k : Ky) (W : World) : Prop where
  lc : Lc w b s v ys W
  kx : W.heap[kb]? = some (.cells (kyc k) 30 (0, 0))
theorem Lk.below {w W X : World} {b kb : Nat} {s : Bs} {v : Value} {ys : List Cm} {k : Ky} (h : Lk w b s v ys kb k W) (hb : Below W.heap.size W X) : Lk w b s v ys kb k X :=
  ⟨h.lc.below hb, (hb.block _ (Array.getElem?_eq_some_iff.1 h.kx).1).trans h.kx⟩
set_option maxRecDepth 100000 in
set_option maxHeartbeats 2000000 in
theorem walk (hM : Tryd.prog.follows .mixedOrders = true) (a0 : Option Addr) (cap : Nat) (l : List Ky) (w : World) (hS : RdKy w (.slice a0 l.length cap) l) (hl : l.length ≤ 1048576) (hk : ∀ k ∈ l, k.Ok) (hT : Tb w) :
    Calls Tryd.prog 8 #[.slice a0 l.length cap] w fun e W' => e = .returned (.bool true) ∧ Below w.heap.size w W' := by
  obtain ⟨i0, hi, hz0, hz1, hz2⟩ := info_parts info_ccl
  have HR : Hid (∀ W, Below w.heap.size w W → RdKy W (.slice a0 l.length cap) l) := fun W hW => hS.below (Nat.le_refl _) hW
  have CB : Hid (Calls Tryd.prog 9 #[] w fun e w' => e = .returned (.bool true) ∧ Hid (Below w.heap.size w w')) := bds_any hM w hT
  have CK : Hid (∀ (W : World) (b : Nat) (s : Bs) (v : Value) (ys : List Cm) (k : Ky), s.Ok → k ∈ l → Lc w b s v ys W → Calls Tryd.prog 15 #[.pointer (some ⟨b, 0, none⟩), kyv k] W fun e w' => e = .returned (.tuple #[.agg (cmc (keyP s k).1), .bool (keyP s k).2.1]) ∧ Hid (Lc w b (keyP s k).2.2 v ys w')) := fun W b s v ys k hs hkm hW =>
    (key_any hM b s hs k (hk k hkm) W (hT.below hW.bel) (hT.ab hW.ge) hW.bn).mono fun e w' q => ⟨q.1, hW.to q.2.1 q.2.2⟩
  have CM : Hid (∀ (W : World) (b : Nat) (s : Bs) (v : Value), Lc w b s v (runP bsz l).1 W → Calls Tryd.prog 19 #[.slice a0 l.length cap] W fun e W' => ∃ v', e = .returned v' ∧ Hid (W'.ownsRow w.heap.size 34 4 v (runP bsz l).1.length (ccl (runP bsz l).1) ∧ W'.ownsRow W.heap.size 34 4 v' (runP bsz l).1.length (ccl (runP bsz l).1) ∧ Below w.heap.size w W')) := fun W b s v hW =>
    (cms_any hM a0 cap l W (HR.out W hW.bel) (by omega) hk (hT.below hW.bel)).mono fun e W' ⟨v', e', r, hb⟩ => ⟨v', e', (hW.below hb).row, r, (hW.below hb).bel⟩
  have CS : Hid (∀ (W : World) (v v' : Value) (p q : Nat), W.ownsRow p 34 4 v (runP bsz l).1.length (ccl (runP bsz l).1) → W.ownsRow q 34 4 v' (runP bsz l).1.length (ccl (runP bsz l).1) → Calls Tryd.prog 22 #[v, v'] W fun e w' => e = .returned (.bool true) ∧ Below W.heap.size W w') := fun W v v' p q h h' => sam_any _ (by have := runP_len bsz l; omega) v v' p q W h h'
  obtain ⟨N, hN⟩ : ∃ N, l.length = N := ⟨_, rfl⟩
  have HN : Hid (l.length = N) := hN
  rw [hN] at HR CM hl ⊢
  have hl' : (N : Int) ≤ 1048576 := by omega
  clear hS hN hM hT hk
  go_enter Tryd.func8, Tryd.ntmps8
  go_upto_region 7 with (go_at_call 9; refine CB.out.mono ?_; clear CB; rintro e w1 ⟨rfl, HB⟩)
  have H0 : Hid (Lc w w1.heap.size bsz (.slice none 0 0) [] (w1.alloc (.cells #[.string ⟨#[]⟩, .int .i64 0, .bool false] 53))) := ⟨HB.out.alloc HB.out.size _, HB.out.size, World.alloc_heap_new _ _, World.ownsRow_nil _ _ _ _⟩
  generalize w1.alloc (.cells #[.string ⟨#[]⟩, .int .i64 0, .bool false] 53) = W1 at H0 ⊢
  clear HB
  go_loopw [5, 20] (fun t5 t20 wr => ∃ i : Nat, t20 = .int .i64 i ∧ i ≤ N ∧ Hid (Lc w w1.heap.size (runP bsz (l.take i)).2 t5 (runP bsz (l.take i)).1 wr)) (fun _ t20 _ => N - (intOf t20).toNat)
  case atStart => exact ⟨0, rfl, Nat.zero_le _, H0⟩
  case round =>
    clear H0
    obtain ⟨i, rfl, hi', HL⟩ := hrel
    by_cases hlt : i < N
    · have hlt' : (i : Int) < N := by omega
      obtain ⟨x, hx⟩ : ∃ x, l[i]? = some x := ⟨l[i]'(by rw [HN.out]; exact hlt), List.getElem?_eq_getElem _⟩
      obtain ⟨g, o, rfl, hg, q0, q1, q2, q3, q4, q5⟩ := (HR.out wr HL.out.bel).at hx
      have hOk : (runP bsz (l.take i)).2.Ok := runP_ok bsz_ok _
      have hyl : (runP bsz (l.take i)).1.length ≤ i := Nat.le_trans (runP_len _ _) (by rw [List.length_take]; omega)
      have HT : Hid (runP bsz (l.take (i + 1)) = _) := runP_take bsz hx
      generalize (runP bsz (l.take i)).1 = ys at HL HT hyl
      generalize (runP bsz (l.take i)).2 = s at HL HT hOk
      have D : Hid (∀ (W : World), Lc w w1.heap.size s u5 ys W → Calls Tryd.prog 15 #[.pointer (some ⟨w1.heap.size, 0, none⟩), kyv x] W fun e w' => e = .returned (.tuple #[.agg (cmc (keyP s x).1), .bool (keyP s x).2.1]) ∧ Hid (Lc w w1.heap.size (keyP s x).2.2 u5 ys w')) := fun W hW => CK.out W _ s u5 ys x hOk (List.mem_of_getElem? hx) hW
      have D0 : Hid (∀ (W : World) (kb : Nat), Lk w w1.heap.size s u5 ys kb x W → Calls Tryd.prog 15 #[.pointer none, kyv x] W fun e w' => e = .returned (.tuple #[.agg (cmc cmz), .bool false]) ∧ Hid (Lk w w1.heap.size s u5 ys kb x w')) := fun W kb hW => (key_nil x W).mono fun e w' q => ⟨q.1, hW.below q.2⟩
      have HK0 : Hid (Lk w w1.heap.size s u5 ys wr.heap.size x (wr.alloc (.cells (kyc x) 30))) := ⟨HL.out.below ((Below.refl _ _).alloc (Nat.le_refl _) _), World.alloc_heap_new _ _⟩
      generalize (keyP s x).2.2 = s' at D HT
      generalize (keyP s x).2.1 = ok at D HT
      generalize (keyP s x).1 = c at D HT
      clear hOk hx CK HR CM CS HL
      obtain ⟨x0, x1, x2, x3, x4, x5⟩ := x
      obtain ⟨c0, c1, c2, c3⟩ := c
      simp only [kyv, kyc, cmc, cmz] at q0 q1 q2 q3 q4 q5 D D0 HK0
      go_upto_region 10 with (go_at_call 15; refine (D0.out _ _ HK0.out).mono ?_; rintro e w2 ⟨rfl, H2⟩; clear q0 q1 q2 q3 q4 q5 HK0)
      obtain ⟨q0, q1, q2, q3, q4, q5, ql⟩ := box6 H2.out.kx
      have ql' : wr.heap.size < w2.heap.size := ql
      cases ok
      · go_wp2_with (first
          | (go_at_call 26; refine (cnt_nil _).mono ?_; rintro e w3 ⟨rfl, rfl⟩)
          | (go_at_call 18; refine (pfx_nil _).mono ?_; rintro e w3 ⟨rfl, rfl⟩)
          | (go_at_call 17; refine (rst_nil _).mono ?_; rintro e w3 ⟨rfl, rfl⟩)
          | (go_at_call 15; refine (D.out _ (H2.out.lc.below ((Below.refl _ _).alloc (Nat.le_refl _) _))).mono ?_; rintro e w4 ⟨rfl, H4⟩))
        refine ⟨⟨i + 1, by go_num, by omega, ?_⟩, by simp [intOf]; omega⟩
        rw [HT.out, if_neg (by decide), List.append_nil]
        exact H4.out.below ((Below.refl _ _).alloc (Nat.le_refl _) _)
      · go_upto_region 15 with (first
          | (go_at_call 26; refine (cnt_nil _).mono ?_; rintro e w3 ⟨rfl, rfl⟩)
          | (go_at_call 18; refine (pfx_nil _).mono ?_; rintro e w3 ⟨rfl, rfl⟩)
          | (go_at_call 17; refine (rst_nil _).mono ?_; rintro e w3 ⟨rfl, rfl⟩)
          | (go_at_call 15; refine (D.out _ (H2.out.lc.below ((Below.refl _ _).alloc (Nat.le_refl _) _))).mono ?_; rintro e w4 ⟨rfl, H4⟩))
        clear q0 q1 q2 q3 q4 q5 ql ql' H2
        have HQ : Hid (Lc w w1.heap.size s' u5 ys _) := H4.out.below ((Below.refl _ w4).alloc (Nat.le_refl _) (.cells #[.int .i64 c0, .int .i64 c1, .string c2, .int .u8 c3] 34))
        obtain ⟨v0, v1, v2, v3⟩ := (box4 (World.alloc_heap_new w4 (.cells #[.int .i64 c0, .int .i64 c1, .string c2, .int .u8 c3] 34))).1
        clear H4
        generalize w4.alloc (.cells #[.int .i64 c0, .int .i64 c1, .string c2, .int .u8 c3] 34) = W4 at HQ v0 v1 v2 v3 ⊢
        have HY : Hid (ys.length ≤ i) := hyl
        go_wp2_with (at_builtin; refine wpList_append_own_at _ rfl _ _ 39 rfl w.heap.size 34 i0 _ 4 40 Tryd.underlying39 hi hz0 hz1 hz2 rfl (by decide) _ _ _ rfl (HQ.out.row.alloc _) ⟨W4.heap.size, 0, none⟩ 1 1 [.int .i64 c0, .int .i64 c1, .string c2, .int .u8 c3] rfl rfl (World.news_of_block (World.alloc_heap_new W4 _)) (by simp [Value.oneCell']) (by unfold maxLen; omega) (by omega) (by have := HQ.out.bel.size; simp; omega) ?_; intro v' w6 hown' hgrow _ hob; have HF : Hid (Lc w w1.heap.size s' v' (ys ++ [⟨c0, c1, c2, c3⟩]) w6) := HQ.out.app hown' hgrow; clear hown' hgrow hob)
        refine ⟨⟨i + 1, by go_num, by omega, ?_⟩, by simp [intOf]; omega⟩
        rw [HT.out, if_pos trivial]
        exact HF
    · have hge : ¬ ((i : Int) < N) := by omega
      have e : l.take i = l := by rw [show i = l.length by rw [HN.out]; omega]; exact List.take_length
      rw [e] at HL
      go_wp2_with (first
        | (go_at_call 12; refine (cln_nil _).mono ?_; rintro e w3 ⟨rfl, rfl⟩)
        | (go_at_call 19; refine (CM.out _ _ _ _ HL.out).mono ?_; rintro e w4 ⟨v', rfl, H4⟩)
        | (go_at_call 22; refine (CS.out _ _ _ _ _ H4.out.1 H4.out.2.1).mono ?_; rintro e w5 ⟨rfl, H5⟩))
      go_ret
      exact ⟨rfl, H4.out.2.2.trans (H5.mono H4.out.2.2.size)⟩
theorem walk_of {H : Type} {d : DataW H} (a0 : Option Addr) (len cap : Nat) (w : World) (hT : Tb w) (l : List Ky) (hS : RdKy w (.slice a0 len cap) l) (hu : kyb l ≤ Rows.uptoBulk d ∧ ∀ k ∈ l, (-2147483648 ≤ k.ch ∧ k.ch ≤ 2147483647) ∧ (-9223372036854775808 ≤ k.kd ∧ k.kd ≤ 9223372036854775807)) (hk : Rows.uptoSmall H ([d] ++ []) = true) :
    Calls Tryd.prog 8 #[.slice a0 len cap] w fun e w' => e = .returned (.bool true) ∧ Below w.heap.size w w' := by
  have h : Rows.uptoBulkAll ([d] ++ []) ≤ 1048576 := of_decide_eq_true hk
  simp only [List.append_nil, Rows.uptoBulkAll] at h
  obtain ⟨a, cap', e, hc⟩ := id hS
  cases e
  exact walk (by kernel_rfl) a0 cap l w hS (by have := kyb_len l; have := hu.1; omega) (kys_ok (m := 1048576) (Nat.le_refl _) (by have := hu.1; omega) hu.2) hT
end Go.Proofs.YtmaolbibbjngcaaDoor.bindNone
