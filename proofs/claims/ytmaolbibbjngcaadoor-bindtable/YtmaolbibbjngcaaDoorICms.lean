/-
  Package bind's Commands: the commands that a new binder makes of keys. Conditions: those of Key, for each of the keys; the slice reads as the keys.
-/
import Derived.Test.YtmaolbibbjngcaaDoorIRow
import Derived.Deep.DeepCutAuto
namespace Go.Proofs.YtmaolbibbjngcaaDoor
open Go.RowKit Go.Shelf Bod

set_option maxRecDepth 100000 in
set_option maxHeartbeats 2000000 in
theorem cms_any (hM : Tryd.prog.follows .mixedOrders = true) (a0 : Option Addr) (cap : Nat) (l : List Ky) (w : World) (hS : RdKy w (.slice a0 l.length cap) l) (hl : l.length ≤ 2097152) (hk : ∀ k ∈ l, k.Ok) (hT : Tb w) :
    Calls Tryd.prog 19 #[.slice a0 l.length cap] w fun e W' => ∃ v, e = .returned v ∧ W'.ownsRow w.heap.size 34 4 v (runP bsz l).1.length (ccl (runP bsz l).1) ∧ Below w.heap.size w W' := by
  obtain ⟨i0, hi, hz0, hz1, hz2⟩ := info_parts info_ccl
  have HR : Hid (∀ W, Below w.heap.size w W → RdKy W (.slice a0 l.length cap) l) := fun W hW => hS.below (Nat.le_refl _) hW
  obtain ⟨N, hN⟩ : ∃ N, l.length = N := ⟨_, rfl⟩
  have HN : Hid (l.length = N) := hN
  have CK : Hid (∀ (W : World) (b : Nat) (s : Bs) (v : Value) (ys : List Cm) (k : Ky), s.Ok → k ∈ l → Lc w b s v ys W → Calls Tryd.prog 15 #[.pointer (some ⟨b, 0, none⟩), kyv k] W fun e w' => e = .returned (.tuple #[.agg (cmc (keyP s k).1), .bool (keyP s k).2.1]) ∧ Hid (Lc w b (keyP s k).2.2 v ys w')) := fun W b s v ys k hs hkm hW =>
    (key_any hM b s hs k (hk k hkm) W (hT.below hW.bel) (hT.ab hW.ge) hW.bn).mono fun e w' q => ⟨q.1, hW.to q.2.1 q.2.2⟩
  rw [hN] at HR hl ⊢
  have hl' : (N : Int) ≤ 2097152 := by omega
  clear hS hN hM hT hk
  go_enter Tryd.func19, Tryd.ntmps19
  go_upto_region 4 with (go_at_call 10; refine (new_any _).mono ?_; rintro e w1 ⟨rfl, rfl⟩)
  have H0 : Hid (Lc w w.heap.size bsz (.slice none 0 0) [] (w.alloc (.cells (bsc bsz) 53))) := ⟨(Below.refl _ w).alloc (Nat.le_refl _) _, Nat.le_refl _, World.alloc_heap_new _ _, World.ownsRow_nil _ _ _ _⟩
  generalize w.alloc (.cells (bsc bsz) 53) = W1 at H0 ⊢
  go_loopw [4, 12] (fun t4 t12 wr => ∃ i : Nat, t12 = .int .i64 i ∧ i ≤ N ∧ Hid (Lc w w.heap.size (runP bsz (l.take i)).2 t4 (runP bsz (l.take i)).1 wr)) (fun _ t12 _ => N - (intOf t12).toNat)
  case atStart => exact ⟨0, rfl, Nat.zero_le _, H0⟩
  case round =>
    clear H0
    obtain ⟨i, rfl, hi', HL⟩ := hrel
    by_cases hlt : i < N
    · have hlt' : (i : Int) < N := by omega
      obtain ⟨x, hx⟩ : ∃ x, l[i]? = some x := ⟨l[i]'(by rw [HN.out]; exact hlt), List.getElem?_eq_getElem _⟩
      obtain ⟨g, o, rfl, hg, q0, q1, q2, q3, q4, q5⟩ := (HR.out wr HL.out.bel).at hx
      have hOk : (runP bsz (l.take i)).2.Ok := runP_ok bsz_ok _
      have hyl : (runP bsz (l.take i)).1.length ≤ i := Nat.le_trans (runP_len _ _) (by rw [List.length_take]; omega)
      have HT : Hid (runP bsz (l.take (i + 1)) = _) := runP_take bsz hx
      generalize (runP bsz (l.take i)).1 = ys at HL HT hyl
      generalize (runP bsz (l.take i)).2 = s at HL HT hOk
      have D : Hid (∀ (W : World), Lc w w.heap.size s u4 ys W → Calls Tryd.prog 15 #[.pointer (some ⟨w.heap.size, 0, none⟩), kyv x] W fun e w' => e = .returned (.tuple #[.agg (cmc (keyP s x).1), .bool (keyP s x).2.1]) ∧ Hid (Lc w w.heap.size (keyP s x).2.2 u4 ys w')) := fun W hW => CK.out W _ s u4 ys x hOk (List.mem_of_getElem? hx) hW
      generalize (keyP s x).2.2 = s' at D HT
      generalize (keyP s x).2.1 = ok at D HT
      generalize (keyP s x).1 = c at D HT
      clear hOk hx CK HR
      obtain ⟨x0, x1, x2, x3, x4, x5⟩ := x
      obtain ⟨c0, c1, c2, c3⟩ := c
      simp only [kyv, cmc] at q0 q1 q2 q3 q4 q5 D
      cases ok
      · go_wp2_with (go_at_call 15; refine (D.out _ (HL.out.below ((Below.refl _ _).alloc (Nat.le_refl _) _))).mono ?_; rintro e w2 ⟨rfl, H2⟩; clear q0 q1 q2 q3 q4 q5)
        refine ⟨⟨i + 1, by go_num, by omega, ?_⟩, by simp [intOf]; omega⟩
        rw [HT.out, if_neg (by decide), List.append_nil]
        exact H2.out.below ((Below.refl _ _).alloc (Nat.le_refl _) _)
      · go_upto_region 7 with (go_at_call 15; refine (D.out _ (HL.out.below ((Below.refl _ _).alloc (Nat.le_refl _) _))).mono ?_; rintro e w2 ⟨rfl, H2⟩; clear q0 q1 q2 q3 q4 q5)
        have HQ : Hid (Lc w w.heap.size s' u4 ys _) := H2.out.below ((Below.refl _ w2).alloc (Nat.le_refl _) (.cells #[.int .i64 c0, .int .i64 c1, .string c2, .int .u8 c3] 34))
        obtain ⟨v0, v1, v2, v3⟩ := (box4 (World.alloc_heap_new w2 (.cells #[.int .i64 c0, .int .i64 c1, .string c2, .int .u8 c3] 34))).1
        clear H2
        generalize w2.alloc (.cells #[.int .i64 c0, .int .i64 c1, .string c2, .int .u8 c3] 34) = W4 at HQ v0 v1 v2 v3 ⊢
        have HY : Hid (ys.length ≤ i) := hyl
        go_wp2_with (at_builtin; refine wpList_append_own_at _ rfl _ _ 39 rfl w.heap.size 34 i0 _ 4 40 Tryd.underlying39 hi hz0 hz1 hz2 rfl (by decide) _ _ _ rfl (HQ.out.row.alloc _) ⟨W4.heap.size, 0, none⟩ 1 1 [.int .i64 c0, .int .i64 c1, .string c2, .int .u8 c3] rfl rfl (World.news_of_block (World.alloc_heap_new W4 _)) (by simp [Value.oneCell']) (by unfold maxLen; omega) (by omega) (by have := HQ.out.bel.size; simp; omega) ?_; intro v' w6 hown' hgrow _ hob; have HF : Hid (Lc w w.heap.size s' v' (ys ++ [⟨c0, c1, c2, c3⟩]) w6) := HQ.out.app hown' hgrow; clear hown' hgrow hob)
        refine ⟨⟨i + 1, by go_num, by omega, ?_⟩, by simp [intOf]; omega⟩
        rw [HT.out, if_pos trivial]
        exact HF
    · have hge : ¬ ((i : Int) < N) := by omega
      go_wp2
      go_ret
      have e : l.take i = l := by rw [show i = l.length by rw [HN.out]; omega]; exact List.take_length
      have := HL.out
      rw [e] at this
      exact ⟨_, rfl, this.row, this.bel⟩
end Go.Proofs.YtmaolbibbjngcaaDoor
