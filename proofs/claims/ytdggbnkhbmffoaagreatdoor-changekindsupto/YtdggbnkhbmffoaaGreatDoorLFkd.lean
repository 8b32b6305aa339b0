/-
  The walk of the law ChangeKinds: every kind of command at every place of a text makes the document's change. Conditions: those of walk_of.
-/
import Derived.Test.YtdggbnkhbmffoaaGreatDoorFRs
import Derived.Test.YtdggbnkhbmffoaaGreatDoorFAwk
namespace Go.Proofs.YtdggbnkhbmffoaaGreatDoor.changeKinds
open Go.RowKit Go.Shelf Bod Wid

set_option maxRecDepth 100000 in
set_option maxHeartbeats 2000000 in
theorem walk (hM : Tryz.prog.follows .mixedOrders = true) (s : ByteArray) (hs : s.size ≤ 1048576) (r : Int) (hr : r ≤ 9223372036854775807) (w : World) (hT : Tw w) :
    Calls Tryz.prog 4 #[.string s, .int .i64 r] w fun e W' => e = .returned (.bool true) ∧ Below w.heap.size w W' := by
  have CA : Hid (Calls Tryz.prog 5 #[] w fun e W' => e = .returned (.bool true) ∧ Hid (Below w.heap.size w W')) := awake_any hM w hT
  have CD : Hid (∀ (k : Int) W, Below w.heap.size w W → Calls Tryz.prog 10 #[.int .i64 k] W fun e W' => e = .returned (.bool (doesP k)) ∧ Hid (Below w.heap.size w W')) := fun k W hW => (Does_any hM k W (hT.below hW)).mono fun e W' ⟨q1, q2⟩ => ⟨q1, below_on hW q2⟩
  have CR : Hid (∀ (k : Int) W, Below w.heap.size w W → Calls Tryz.prog 11 #[.int .i64 k] W fun e W' => e = .returned (.bool (doesP k)) ∧ Hid (Below w.heap.size w W')) := fun k W hW => (rdoes_any k W).mono fun e W' ⟨q1, q2⟩ => ⟨q1, below_on hW q2⟩
  have CO : Hid (∀ (k : Int) (i : Nat) (d : Chg) (e : Int), i ≤ 100 → ofP s k 0 i r = (d, e) → ∀ W, Below w.heap.size w W → Calls Tryz.prog 6 #[.agg #[.int .i64 k, .int .i64 0, .string ⟨#[]⟩, .int .u8 0], .string s, .int .i64 i, .int .i64 r] W fun e' W' => e' = .returned (rsv (d, e)) ∧ Hid (Below w.heap.size w W')) := fun k i d e hi h W hW => (Of_any hM s (by omega) k 0 i r (by omega) hr ⟨#[]⟩ 0 W (hT.below hW)).mono fun e' W' ⟨q1, q2⟩ => ⟨by rw [q1, h], below_on hW q2⟩
  have CP : Hid (∀ (k : Int) (i : Nat) (d : Chg) (e : Int), ofP s k 0 i r = (d, e) → ∀ (W : World) (b7 : Nat), Below w.heap.size w W → W.heap[b7]? = some (.cells (chc d) 29 (0, 0)) → Calls Tryz.prog 8 #[.agg #[.int .i64 k, .int .i64 0, .string ⟨#[]⟩, .int .u8 0], .string s, .int .i64 i, .int .i64 r] W fun e' W' => e' = .returned (rsv (d, e)) ∧ Hid (Below w.heap.size w W' ∧ W'.heap[b7]? = some (.cells (chc d) 29 (0, 0)))) := fun k i d e h W b7 hW hb => (rOf_any hM s (by omega) k 0 i r ⟨#[]⟩ 0 W).mono fun e' W' ⟨q1, q2⟩ => ⟨by rw [q1, h], below_on hW q2, (q2.block _ (Array.getElem?_eq_some_iff.1 hb).1).trans hb⟩
  clear hT hM
  go_enter Tryz.func4, Tryz.ntmps4
  go_wp2_with (go_at_call 5; refine CA.out.mono ?_; clear CA; rintro e w1 ⟨rfl, HB⟩)
  go_loopw [5] (fun t5 wr => ∃ k : Int, -1 ≤ k ∧ k ≤ 42 ∧ t5 = .int .i64 k ∧ Hid (Below w.heap.size w wr)) (fun t5 _ => (42 - intOf t5).toNat)
  case atStart => exact ⟨-1, by omega, by omega, rfl, HB⟩
  case round =>
    obtain ⟨k, hk1, hk2, rfl, HW⟩ := hrel
    clear HB
    obtain ⟨wo, hwo⟩ : ∃ wo, wo = wr := ⟨_, rfl⟩
    subst hwo
    by_cases hk : k ≤ 41
    · have C1 : Hid (∀ W, Below w.heap.size w W → Calls Tryz.prog 10 #[.int .i64 k] W fun e W' => e = .returned (.bool (doesP k)) ∧ Hid (Below w.heap.size w W')) := CD.out k
      have C2 : Hid (∀ W, Below w.heap.size w W → Calls Tryz.prog 11 #[.int .i64 k] W fun e W' => e = .returned (.bool (doesP k)) ∧ Hid (Below w.heap.size w W')) := CR.out k
      generalize doesP k = dd at C1 C2
      go_upto_region 9 with (first | (go_at_call 10; refine (C1.out _ HW.out).mono ?_; clear C1 HW; rintro e w2 ⟨rfl, HW⟩) | (go_at_call 11; refine (C2.out _ HW.out).mono ?_; clear C2 HW; rintro e w3 ⟨rfl, HW⟩))
      go_loopw [6] (fun t6 wr => ∃ i : Nat, i ≤ 24 ∧ t6 = .int .i64 (i : Int) ∧ Hid (Below w.heap.size w wr)) (fun t6 _ => 24 - (intOf t6).toNat)
      case atStart => exact ⟨0, by omega, rfl, HW⟩
      case round =>
        obtain ⟨i, hi, rfl, HI⟩ := hrel
        clear HW
        by_cases hc1 : i ≤ s.size
        · have c1 : (i : Int) ≤ s.size := by omega
          by_cases hc2 : i < 24
          · have c2 : (i : Int) < 24 := by omega
            obtain ⟨d, e, hde⟩ : ∃ d e, ofP s k 0 i r = (d, e) := ⟨_, _, rfl⟩
            obtain ⟨q0, q1, q2, q3, q4, q5⟩ := d
            have C3 : Hid (∀ W, Below w.heap.size w W → Calls Tryz.prog 6 #[.agg #[.int .i64 k, .int .i64 0, .string ⟨#[]⟩, .int .u8 0], .string s, .int .i64 i, .int .i64 r] W fun e' W' => e' = .returned (.tuple #[.agg #[.int .i64 q0, .int .i64 q1, .string q2, .int .i64 q3, .string q4, .bool q5], .int .i64 e]) ∧ Hid (Below w.heap.size w W')) := CO.out k i _ e (by omega) hde
            have C4 : Hid (∀ (W : World) (b7 : Nat), Below w.heap.size w W → W.heap[b7]? = some (.cells (chc ⟨q0, q1, q2, q3, q4, q5⟩) 29 (0, 0)) → Calls Tryz.prog 8 #[.agg #[.int .i64 k, .int .i64 0, .string ⟨#[]⟩, .int .u8 0], .string s, .int .i64 i, .int .i64 r] W fun e' W' => e' = .returned (.tuple #[.agg #[.int .i64 q0, .int .i64 q1, .string q2, .int .i64 q3, .string q4, .bool q5], .int .i64 e]) ∧ Hid (Below w.heap.size w W' ∧ W'.heap[b7]? = some (.cells (chc ⟨q0, q1, q2, q3, q4, q5⟩) 29 (0, 0)))) := CP.out k i _ e hde
            clear hde
            go_upto_region 12 with (go_at_call 6; refine (C3.out _ HI.out).mono ?_; clear C3 HI; rintro e' w4 ⟨rfl, HI⟩)
            have HG : Hid (Below w.heap.size w (w4.alloc (.cells #[.int .i64 q0, .int .i64 q1, .string q2, .int .i64 q3, .string q4, .bool q5] 29)) ∧ (w4.alloc (.cells #[.int .i64 q0, .int .i64 q1, .string q2, .int .i64 q3, .string q4, .bool q5] 29)).heap[w4.heap.size]? = some (.cells (chc ⟨q0, q1, q2, q3, q4, q5⟩) 29 (0, 0))) := ⟨below_on HI.out ((Below.refl _ w4).alloc (Nat.le_refl _) _), World.alloc_heap_new _ _⟩
            clear HI
            generalize w4.alloc (.cells #[.int .i64 q0, .int .i64 q1, .string q2, .int .i64 q3, .string q4, .bool q5] 29) = w5 at HG ⊢
            generalize w4.heap.size = b7 at HG ⊢
            go_upto_region 13 with (go_at_call 8; refine (C4.out _ _ HG.out.1 HG.out.2).mono ?_; clear C4 HG; rintro e' w6 ⟨rfl, HG⟩)
            have HK : Hid (K2 w b7 w6.heap.size ⟨q0, q1, q2, q3, q4, q5⟩ (w6.alloc (.cells #[.int .i64 q0, .int .i64 q1, .string q2, .int .i64 q3, .string q4, .bool q5] 37))) := ⟨below_on HG.out.1 ((Below.refl _ w6).alloc (Nat.le_refl _) _), (Below.heap_alloc _ _ _ (Array.getElem?_eq_some_iff.1 HG.out.2).1).trans HG.out.2, World.alloc_heap_new _ _⟩
            clear HG
            generalize w6.alloc (.cells #[.int .i64 q0, .int .i64 q1, .string q2, .int .i64 q3, .string q4, .bool q5] 37) = w7 at HK ⊢
            generalize w6.heap.size = b9 at HK ⊢
            obtain ⟨⟨x0, x1, x2, x3, x4, x5⟩, y0, y1, y2, y3, y4, y5⟩ := HK.out.get
            have CX : Hid (Calls Tryz.prog 9 #[.agg #[.int .i64 q0, .int .i64 q1, .string q2, .int .i64 q3, .string q4, .bool q5], .agg #[.int .i64 q0, .int .i64 q1, .string q2, .int .i64 q3, .string q4, .bool q5]] w7 fun e W' => e = .returned (.bool true) ∧ Hid (Below w7.heap.size w7 W')) := csame_any w7 q0 q1 q2 q3 q4 q5
            go_wp2_with (go_at_call 9; refine CX.out.mono ?_; clear CX x0 x1 x2 x3 x4 x5 y0 y1 y2 y3 y4 y5; rintro e' w8 ⟨rfl, HB8⟩)
            exact ⟨⟨i + 1, by omega, by simp, below_on HK.out.bel HB8.out⟩, by simp only [intOf]; omega⟩
          · have c2 : ¬ (i : Int) < 24 := by omega
            go_wp2
            exact ⟨⟨k + 1, by omega, by omega, by go_num, HI⟩, by simp only [intOf]; omega⟩
        · have c1 : ¬ (i : Int) ≤ s.size := by omega
          go_wp2
          exact ⟨⟨k + 1, by omega, by omega, by go_num, HI⟩, by simp only [intOf]; omega⟩
    · go_wp2
      go_ret
      exact ⟨rfl, HW.out⟩
theorem walk_of {H : Type} (s : ByteArray) (x : Int) (w : World) (hT : Lib.Utf8Tabs 1 2 w) (hlo0 : 1 < w.heap.size) (hlo1 : 2 < w.heap.size) (_hs : s.size ≤ 140737488351232) (hx : -9223372036854775808 ≤ x ∧ x ≤ 9223372036854775807) (hk : Rows.uptoSmall H ([DataW.lit (.string s.data.toList), DataW.lit (.int .i64 x)] ++ []) = true) :
    Calls Tryz.prog 4 #[.string s, .int .i64 x] w fun e w' => e = .returned (.bool true) ∧ Below w.heap.size w w' := by
  have h : Rows.uptoBulkAll ([DataW.lit (H := H) (.string s.data.toList), DataW.lit (.int .i64 x)] ++ []) ≤ 1048576 := of_decide_eq_true hk
  simp only [List.cons_append, List.nil_append, Rows.uptoBulkAll, Rows.uptoBulk] at h
  exact walk (by kernel_rfl) s (by rw [Lib.size_eq]; omega) x hx.2 w ⟨hT, hlo0, hlo1⟩
end Go.Proofs.YtdggbnkhbmffoaaGreatDoor.changeKinds
