/-
  Package change's Of and Does: what FChg tells. Conditions: the two tables of unicode/utf8 lie as their text lays them; the text can be read.
-/
import Derived.Test.YtdggbnkhbmffoaaGreatDoorPkFB
import Derived.Test.YtdggbnkhbmffoaaGreatDoorPkFC
namespace Go.Proofs.YtdggbnkhbmffoaaGreatDoor
open Go.RowKit Go.Shelf Go.Sort Bod Wid

/-- a kind's maker -/
structure Mkr (w : World) (k : Int) (F : Nat) (cap : Array Value) : Prop where
  en : ∀ args W, (callFunc F args).run Tryz.prog W = .ok (.enter F args) W
  run : ∀ (W : World) (s : ByteArray) (a : Nat) (r : Option Nat) (n : Nat), Below w.heap.size w W → s.size ≤ 1099511627776 → cbZ s a = true → (∀ x, r = some x → x ≤ s.size) → n ≤ 1000 →
    Calls Tryz.prog F (#[scv s a (rgv r) n] ++ cap) W fun e W' => e = .returned (rsv (makP k s n a r)) ∧ Below W.heap.size W W'
theorem does_cases {k : Int} (h : doesP k = true) : k = 14 ∨ k = 15 ∨ k = 16 ∨ k = 17 ∨ k = 18 ∨ k = 19 ∨ k = 20 ∨ k = 21 ∨ k = 24 ∨ k = 25 ∨ k = 26 ∨ k = 27 ∨ k = 28 := by
  have := of_decide_eq_true h
  omega
theorem mk_of (hM : Tryz.prog.follows .mixedOrders = true) {w : World} {b : Nat} {k : Int} (hK : Kb b w) (hT : Tw w) (hd : doesP k = true) : ∃ F cap, kres b k = .tuple #[.func (.func F) #[] cap, .bool true] ∧ Mkr w k F cap := by
  have hlt := hK.lt
  rcases does_cases hd with rfl | rfl | rfl | rfl | rfl | rfl | rfl | rfl | rfl | rfl | rfl | rfl | rfl
  · exact ⟨71, #[.pointer (some ⟨b + 0, 0, none⟩)], rfl, enters_of Tryz.func71 (by kernel_rfl) rfl, fun W s a r n hW hs ha hr hn => del1_any (stp_next (hT.below hW) hs) (Below.refl _ _) hs a ha (rgv r) n hn _ (hK.below hW).c0 (by have := (hK.below hW).lt; omega)⟩
  · exact ⟨71, #[.pointer (some ⟨b + 1, 0, none⟩)], rfl, enters_of Tryz.func71 (by kernel_rfl) rfl, fun W s a r n hW hs ha hr hn => del1_any (stp_prev (hT.below hW) hs) (Below.refl _ _) hs a ha (rgv r) n hn _ (hK.below hW).c1 (by have := (hK.below hW).lt; omega)⟩
  · exact ⟨74, #[.pointer (some ⟨b + 2, 0, none⟩)], rfl, enters_of Tryz.func74 (by kernel_rfl) rfl, fun W s a r n hW hs ha hr hn => kil1_any (stp_ahead (hT.below hW) hs) (Below.refl _ _) hs a ha (rgv r) n hn _ (hK.below hW).c2 (by have := (hK.below hW).lt; omega)⟩
  · exact ⟨74, #[.pointer (some ⟨b + 3, 0, none⟩)], rfl, enters_of Tryz.func74 (by kernel_rfl) rfl, fun W s a r n hW hs ha hr hn => kil1_any (stp_behind (hT.below hW) hs) (Below.refl _ _) hs a ha (rgv r) n hn _ (hK.below hW).c3 (by have := (hK.below hW).lt; omega)⟩
  · exact ⟨74, #[.pointer (some ⟨b + 4, 0, none⟩)], rfl, enters_of Tryz.func74 (by kernel_rfl) rfl, fun W s a r n hW hs ha hr hn => kil1_any (stp_line (hT.below hW) hs) (Below.refl _ _) hs a ha (rgv r) n hn _ (hK.below hW).c4 (by have := (hK.below hW).lt; omega)⟩
  · exact ⟨43, #[], rfl, enters_of Tryz.func43 (by kernel_rfl) rfl, fun W s a r n hW hs ha hr hn => killLineStart_any s hs a ha (rgv r) n W⟩
  · exact ⟨44, #[], rfl, enters_of Tryz.func44 (by kernel_rfl) rfl, fun W s a r n hW hs ha hr hn => killRegion_any s hs a (cb_le ha) r hr n W⟩
  · exact ⟨45, #[], rfl, enters_of Tryz.func45 (by kernel_rfl) rfl, fun W s a r n hW hs ha hr hn => copyRegion_any s hs a (cb_le ha) r hr n W⟩
  · exact ⟨46, #[], rfl, enters_of Tryz.func46 (by kernel_rfl) rfl, fun W s a r n hW hs ha hr hn => transposeChars_any hM s hs a ha (rgv r) n W (hT.below hW)⟩
  · exact ⟨47, #[], rfl, enters_of Tryz.func47 (by kernel_rfl) rfl, fun W s a r n hW hs ha hr hn => transposeWords_any hM s hs a ha (rgv r) n W (hT.below hW)⟩
  · exact ⟨82, #[.pointer (some ⟨b + 5, 0, none⟩)], rfl, enters_of Tryz.func82 (by kernel_rfl) rfl, fun W s a r n hW hs ha hr hn => wri1_any hM (hT.below hW) (frm_up (hT.below hW)) hs a ha (rgv r) n hn _ (hK.below hW).c5 (by have := (hK.below hW).lt; omega)⟩
  · exact ⟨82, #[.pointer (some ⟨b + 6, 0, none⟩)], rfl, enters_of Tryz.func82 (by kernel_rfl) rfl, fun W s a r n hW hs ha hr hn => wri1_any hM (hT.below hW) (frm_low (hT.below hW)) hs a ha (rgv r) n hn _ (hK.below hW).c6 (by have := (hK.below hW).lt; omega)⟩
  · exact ⟨82, #[.pointer (some ⟨b + 7, 0, none⟩)], rfl, enters_of Tryz.func82 (by kernel_rfl) rfl, fun W s a r n hW hs ha hr hn => wri1_any hM (hT.below hW) (frm_cap (hT.below hW)) hs a ha (rgv r) n hn _ (hK.below hW).c7 (by have := (hK.below hW).lt; omega)⟩
theorem kres_no {b : Nat} {k : Int} (h : doesP k = false) : kres b k = .tuple #[.nilFunc, .bool false] := by
  have := of_decide_eq_false h
  have e : kfind b k = none := by
    unfold kfind
    rw [List.find?_eq_none]
    intro p hp
    simp only [kds, List.mem_cons, List.not_mem_nil, or_false] at hp
    rcases hp with rfl | rfl | rfl | rfl | rfl | rfl | rfl | rfl | rfl | rfl | rfl | rfl | rfl <;> simp <;> omega
  unfold kres
  rw [e]
set_option maxRecDepth 100000 in
set_option maxHeartbeats 1000000 in
theorem Does_any (hM : Tryz.prog.follows .mixedOrders = true) (k : Int) (w : World) (hT : Tw w) : Calls Tryz.prog 10 #[.int .i64 k] w fun e W' => e = .returned (.bool (doesP k)) ∧ Below w.heap.size w W' := by
  have C := makerOf_any k w
  cases hd : doesP k with
  | true =>
    have C1 : Hid (Calls Tryz.prog 12 #[.int .i64 k] w fun e W' => ∃ F cap, e = .returned (.tuple #[.func (.func F) #[] cap, .bool true]) ∧ Hid (Below w.heap.size w W')) := C.mono fun e W' ⟨b, k1, k2, k3, k4⟩ => by
      obtain ⟨F, cap, h1, -⟩ := mk_of hM k3 (hT.below k4) hd
      exact ⟨F, cap, by rw [k1, h1], k4⟩
    clear C
    go_enter Tryz.func10, Tryz.ntmps10
    go_wp2_with (go_at_call 12; refine C1.out.mono ?_; clear C1; rintro e w1 ⟨F, cap, rfl, HB⟩)
    go_ret
    exact ⟨rfl, HB.out⟩
  | false =>
    have C1 : Hid (Calls Tryz.prog 12 #[.int .i64 k] w fun e W' => e = .returned (.tuple #[.nilFunc, .bool false]) ∧ Hid (Below w.heap.size w W')) := C.mono fun e W' ⟨b, k1, k2, k3, k4⟩ => ⟨by rw [k1, kres_no hd], k4⟩
    clear C
    go_enter Tryz.func10, Tryz.ntmps10
    go_wp2_with (go_at_call 12; refine C1.out.mono ?_; clear C1; rintro e w1 ⟨rfl, HB⟩)
    go_ret
    exact ⟨rfl, HB.out⟩
theorem snap_eq (s : ByteArray) (i : Int) (hs : s.size ≤ 1099511627776) (hi : i ≤ 9223372036854775807) (w : World) (hT : Tw w) : Calls Tryz.prog 13 #[.string s, .int .i64 i] w fun e W' => e = .returned (.int .i64 (snp s i)) ∧ Below w.heap.size w W' :=
  (csnap_any s i (by unfold maxLen; omega) w hT.t hi).mono fun e W' ⟨m, k1, k2, k3⟩ => ⟨by rw [k1, k2.uniq (snp_is s i)], k3⟩
set_option maxRecDepth 100000 in
set_option maxHeartbeats 1000000 in
theorem heldRegion_any (s : ByteArray) (r : Int) (hs : s.size ≤ 1099511627776) (hr : r ≤ 9223372036854775807) (w : World) (hT : Tw w) : Calls Tryz.prog 14 #[.string s, .int .i64 r] w fun e W' => e = .returned (.int .i64 (rgv (regP s r))) ∧ Below w.heap.size w W' := by
  have C : Hid (Calls Tryz.prog 13 #[.string s, .int .i64 r] w fun e W' => e = .returned (.int .i64 (snp s r)) ∧ Hid (Below w.heap.size w W')) := snap_eq s r hs hr w hT
  unfold regP
  by_cases h : r < 0
  · rw [if_pos h]
    clear C
    go_enter Tryz.func14, Tryz.ntmps14
    go_wp2
    go_ret
    exact ⟨rfl, Below.refl _ _⟩
  · rw [if_neg h]
    show Calls _ _ _ _ fun e W' => e = .returned (.int .i64 (snp s r)) ∧ _
    generalize snp s r = x at *
    go_enter Tryz.func14, Tryz.ntmps14
    go_wp2_with (go_at_call 13; refine C.out.mono ?_; clear C; rintro e w1 ⟨rfl, HB⟩)
    go_ret
    exact ⟨rfl, HB.out⟩
/-- a call of Of: the command's box, and the answer's, still zero -/
structure Fo (w : World) (k c : Int) (x : ByteArray) (m : Int) (W : World) : Prop where
  bel : Below w.heap.size w W
  sc : W.heap[w.heap.size]? = some (.cells #[.int .i64 k, .int .i64 c, .string x, .int .u8 m] 35 (0, 0))
  rs : W.heap[w.heap.size + 1]? = some (.cells #[.int .i64 0, .int .i64 0, .string ⟨#[]⟩, .int .i64 0, .string ⟨#[]⟩, .bool false] 29 (0, 0))
section
variable {w W X : World} {x : ByteArray} {k c m : Int}
theorem Fo.below (h : Fo w k c x m W) (hb : Below W.heap.size W X) : Fo w k c x m X :=
  ⟨below_on h.bel hb, (hb.block _ (Array.getElem?_eq_some_iff.1 h.sc).1).trans h.sc, (hb.block _ (Array.getElem?_eq_some_iff.1 h.rs).1).trans h.rs⟩
theorem fo0 (w : World) (k c : Int) (x : ByteArray) (m : Int) : Fo w k c x m ((w.alloc (.cells #[.int .i64 k, .int .i64 c, .string x, .int .u8 m] 35)).alloc (.cells #[.int .i64 0, .int .i64 0, .string ⟨#[]⟩, .int .i64 0, .string ⟨#[]⟩, .bool false] 29)) := by
  refine ⟨((Below.refl _ w).alloc (Nat.le_refl _) _).alloc (by simp) _, ?_, ?_⟩
  · rw [Below.heap_alloc _ _ _ (by simp)]; exact World.alloc_heap_new _ _
  · have := World.alloc_heap_new (w.alloc (.cells #[.int .i64 k, .int .i64 c, .string x, .int .u8 m] 35)) (.cells #[.int .i64 0, .int .i64 0, .string ⟨#[]⟩, .int .i64 0, .string ⟨#[]⟩, .bool false] 29)
    rwa [show (w.alloc (.cells #[.int .i64 k, .int .i64 c, .string x, .int .u8 m] 35)).heap.size = w.heap.size + 1 by simp] at this
theorem Fo.fin (h : Fo w k c x m W) (u0 u1 u2 u3 u4 u5 : Value) : let W' := (((((W.setCell ⟨w.heap.size + 1, 0, none⟩ u0).setCell ⟨w.heap.size + 1, 1, none⟩ u1).setCell ⟨w.heap.size + 1, 2, none⟩ u2).setCell ⟨w.heap.size + 1, 3, none⟩ u3).setCell ⟨w.heap.size + 1, 4, none⟩ u4).setCell ⟨w.heap.size + 1, 5, none⟩ u5
    Below w.heap.size w W' ∧ (W'.cell? ⟨w.heap.size + 1, 0, none⟩ = some u0 ∧ W'.cell? ⟨w.heap.size + 1, 1, none⟩ = some u1 ∧ W'.cell? ⟨w.heap.size + 1, 2, none⟩ = some u2 ∧ W'.cell? ⟨w.heap.size + 1, 3, none⟩ = some u3 ∧ W'.cell? ⟨w.heap.size + 1, 4, none⟩ = some u4 ∧ W'.cell? ⟨w.heap.size + 1, 5, none⟩ = some u5) := by
  obtain ⟨q1, q2⟩ := cset u0 u1 u2 u3 u4 u5 h.bel (Nat.le_succ _) h.rs
  exact ⟨q1, (cbox q2).1⟩
end
set_option maxRecDepth 100000 in
set_option maxHeartbeats 2000000 in
theorem Of_any (hM : Tryz.prog.follows .mixedOrders = true) (s : ByteArray) (hs : s.size ≤ 1099511627776) (k c i r : Int) (hi : i ≤ 9223372036854775807) (hr : r ≤ 9223372036854775807) (x : ByteArray) (m : Int) (w : World) (hT : Tw w) :
    Calls Tryz.prog 6 #[.agg #[.int .i64 k, .int .i64 c, .string x, .int .u8 m], .string s, .int .i64 i, .int .i64 r] w fun e W' => e = .returned (rsv (ofP s k c i r)) ∧ Below w.heap.size w W' := by
  have HF : Hid (Fo w k c x m ((w.alloc (.cells #[.int .i64 k, .int .i64 c, .string x, .int .u8 m] 35)).alloc (.cells #[.int .i64 0, .int .i64 0, .string ⟨#[]⟩, .int .i64 0, .string ⟨#[]⟩, .bool false] 29))) := fo0 w k c x m
  have HM : Hid (Tryz.prog.follows .mixedOrders = true) := hM
  unfold ofP
  cases hd : doesP k with
  | false =>
    have C1 : Hid (∀ W, Fo w k c x m W → Calls Tryz.prog 12 #[.int .i64 k] W fun e W' => e = .returned (.tuple #[.nilFunc, .bool false]) ∧ Hid (Fo w k c x m W')) := fun W hW => (makerOf_any k W).mono fun e W' ⟨b, k1, k2, k3, k4⟩ => ⟨by rw [k1, kres_no hd], hW.below k4⟩
    rw [if_neg (by simp)]
    go_enter Tryz.func6, Tryz.ntmps6
    go_wp2_with (go_at_call 12; refine (C1.out _ HF.out).mono ?_; clear C1 HF; rintro e w1 ⟨rfl, HF⟩; obtain ⟨⟨z0, z1, z2, z3, z4, z5⟩, f0, f1, f2, f3, f4, f5, hl⟩ := cbox HF.out.rs)
    obtain ⟨k1, k2, k3, k4, k5, k6, k7⟩ := HF.out.fin (.int .i64 0) (.int .i64 0) (.string ⟨#[]⟩) (.int .i64 0) (.string ⟨#[]⟩) (.bool false)
    exact bodyPost_ret (v := rsv (chz, 13)) (by simp [results, Tryz.results6, go_sem, rsv, chc, chz, k2, k3, k4, k5, k6, k7]) rfl ⟨rfl, k1⟩
  | true =>
    rw [if_pos rfl]
    have hcn := cnt_in c
    have e1 : min (max c 1) 1000 = ((cntP c : Nat) : Int) := hcn.2.2.symm
    obtain ⟨n, hn⟩ : ∃ n, cntP c = n := ⟨_, rfl⟩
    obtain ⟨a, ha⟩ : ∃ a, snp s i = a := ⟨_, rfl⟩
    have hcb : cbZ s a = true := by rw [← ha]; exact (snp_is s i).cb
    have hro : ∀ y, regP s r = some y → y ≤ s.size := fun y e => by
      unfold regP at e
      split at e
      · cases e
      · cases e; exact snp_le s r
    obtain ⟨q, hq⟩ : ∃ q, regP s r = q := ⟨_, rfl⟩
    rw [hn] at hcn e1
    rw [hq] at hro
    rw [hn, ha, hq]
    obtain ⟨d, e, hde⟩ : ∃ d e, makP k s n a q = (d, e) := ⟨_, _, rfl⟩
    obtain ⟨q0, q1, q2, q3, q4, q5⟩ := d
    rw [hde]
    have C1 : Hid (∀ W, Fo w k c x m W → Calls Tryz.prog 12 #[.int .i64 k] W fun e W' => ∃ F cap, e = .returned (.tuple #[.func (.func F) #[] cap, .bool true]) ∧ Hid (Fo w k c x m W' ∧ Mkr W' k F cap)) := fun W hW => (makerOf_any k W).mono fun e W' ⟨b, k1, k2, k3, k4⟩ => by
      obtain ⟨F, cap, h1, h2⟩ := mk_of hM k3 ((hT.below hW.bel).below k4) hd
      exact ⟨F, cap, by rw [k1, h1], hW.below k4, h2⟩
    have C2 : Hid (∀ W, Below w.heap.size w W → Calls Tryz.prog 13 #[.string s, .int .i64 i] W fun e W' => e = .returned (.int .i64 a) ∧ Below W.heap.size W W') := fun W hW => by have := snap_eq s i hs hi W (hT.below hW); rw [ha] at this; exact this
    have C3 : Hid (∀ W, Below w.heap.size w W → Calls Tryz.prog 14 #[.string s, .int .i64 r] W fun e W' => e = .returned (.int .i64 (rgv q)) ∧ Below W.heap.size W W') := fun W hW => by have := heldRegion_any s r hs hr W (hT.below hW); rw [hq] at this; exact this
    have C4 : Hid (∀ V F cap W, Mkr V k F cap → Below V.heap.size V W → Calls Tryz.prog F (#[.agg #[.string s, .int .i64 a, .int .i64 (rgv q), .int .i64 n]] ++ cap) W fun e' W' => e' = .returned (.tuple #[.agg #[.int .i64 q0, .int .i64 q1, .string q2, .int .i64 q3, .string q4, .bool q5], .int .i64 e]) ∧ Below W.heap.size W W') := fun V F cap W h hb => by
      have := h.run W s a q n hb hs hcb hro (by omega)
      rw [hde] at this
      exact this
    generalize rgv q = rq at *
    clear hde hq ha hn hM hT hcb hro
    go_enter Tryz.func6, Tryz.ntmps6
    go_upto_region 4 with (go_at_call 12; refine (C1.out _ HF.out).mono ?_; clear C1 HF; rintro e' w1 ⟨F, cap, rfl, HF⟩)
    have en := HF.out.2.en
    obtain ⟨⟨c0, c1, c2, c3⟩, -⟩ := box4 HF.out.1.sc
    have t1 := cell_rgw c1
    have cA := call_rgw (W := w1) (f := 13) (args := #[.string s, .int .i64 i]) (v := .int .i64 a) (fun W hW => C2.out W (below_on HF.out.1.bel hW))
    have cB := call_rgw (W := w1) (f := 14) (args := #[.string s, .int .i64 r]) (v := .int .i64 rq) (fun W hW => C3.out W (below_on HF.out.1.bel hW))
    obtain ⟨args, hargs⟩ : ∃ args, #[.agg #[.string s, .int .i64 a, .int .i64 rq, .int .i64 (min (max c 1) 1000)]] ++ cap = args := ⟨_, rfl⟩
    have cC : ∀ d os, Calls Tryz.prog F args (grow (redrawn w1 d) os) fun e' w'' => e' = .returned (.tuple #[.agg #[.int .i64 q0, .int .i64 q1, .string q2, .int .i64 q3, .string q4, .bool q5], .int .i64 e]) ∧ ∃ p : Regrown, w'' = grow (redrawn w1 p.d) p.os := fun d os => by
      rw [← hargs, e1]
      exact Calls.regrown_of (C4.out w1 F cap _ HF.out.2 (below_regrown w1 d os))
    clear c0 c1 c2 c3 C2 C3 C4 e1 hcn
    refine region_then2 HM.out (by kernel_rfl) (by kernel_rfl) (by kernel_rfl) (by kernel_rfl) rfl rfl rfl rfl ?_
    dsimp only [List.dropLast, List.getLast]
    repeat (go_big_quiet_step (first | exact cA _ _ | exact cB _ _ | exact cC _ _))
    refine wpQuiet_nil ?_
    intro _ hw'
    obtain ⟨⟨dq, osq⟩, hw''⟩ := hw'
    subst hw''
    have HX : Hid (Fo w k c x m (grow (redrawn w1 dq) osq)) := HF.out.1.below (below_regrown w1 dq osq)
    simp only at HX ⊢
    generalize grow (redrawn w1 dq) osq = W1 at HX ⊢
    clear t1 cA cB cC HF
    obtain ⟨⟨z0, z1, z2, z3, z4, z5⟩, f0, f1, f2, f3, f4, f5, hl⟩ := cbox HX.out.rs
    refine .inr ⟨(((((W1.setCell ⟨w.heap.size + 1, 0, none⟩ (.int .i64 q0)).setCell ⟨w.heap.size + 1, 1, none⟩ (.int .i64 q1)).setCell ⟨w.heap.size + 1, 2, none⟩ (.string q2)).setCell ⟨w.heap.size + 1, 3, none⟩ (.int .i64 q3)).setCell ⟨w.heap.size + 1, 4, none⟩ (.string q4)).setCell ⟨w.heap.size + 1, 5, none⟩ (.bool q5), (by go_simp), ?_⟩
    obtain ⟨k1, k2, k3, k4, k5, k6, k7⟩ := HX.out.fin (.int .i64 q0) (.int .i64 q1) (.string q2) (.int .i64 q3) (.string q4) (.bool q5)
    have HK : Hid (Below w.heap.size w ((((((W1.setCell ⟨w.heap.size + 1, 0, none⟩ (.int .i64 q0)).setCell ⟨w.heap.size + 1, 1, none⟩ (.int .i64 q1)).setCell ⟨w.heap.size + 1, 2, none⟩ (.string q2)).setCell ⟨w.heap.size + 1, 3, none⟩ (.int .i64 q3)).setCell ⟨w.heap.size + 1, 4, none⟩ (.string q4)).setCell ⟨w.heap.size + 1, 5, none⟩ (.bool q5))) := k1
    generalize (((((W1.setCell ⟨w.heap.size + 1, 0, none⟩ (.int .i64 q0)).setCell ⟨w.heap.size + 1, 1, none⟩ (.int .i64 q1)).setCell ⟨w.heap.size + 1, 2, none⟩ (.string q2)).setCell ⟨w.heap.size + 1, 3, none⟩ (.int .i64 q3)).setCell ⟨w.heap.size + 1, 4, none⟩ (.string q4)).setCell ⟨w.heap.size + 1, 5, none⟩ (.bool q5) = W2 at HK k2 k3 k4 k5 k6 k7 ⊢
    clear k1 z0 z1 z2 z3 z4 z5 f0 f1 f2 f3 f4 f5 HX
    refine .inl ⟨.int .i64 e, W2, (by dsimp only [Act.put]; go_simp), ?_⟩
    dsimp only [Act.put]
    go_wp2
    exact bodyPost_ret (v := rsv (⟨q0, q1, q2, q3, q4, q5⟩, e)) (by simp [results, Tryz.results6, go_sem, rsv, chc, k2, k3, k4, k5, k6, k7]) rfl ⟨rfl, HK.out⟩
end Go.Proofs.YtdggbnkhbmffoaaGreatDoor
