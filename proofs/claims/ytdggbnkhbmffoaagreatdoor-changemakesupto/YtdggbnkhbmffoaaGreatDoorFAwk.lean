/-
  The law's own awake: answers that the document fixes. Conditions: the two tables of unicode/utf8 lie as their text lays them.
-/
import Derived.Test.YtdggbnkhbmffoaaGreatDoorFOf
namespace Go.Proofs.YtdggbnkhbmffoaaGreatDoor
open Go.RowKit Go.Shelf Bod Wid

def smpl : ByteArray := ⟨#[97, 98, 32, 99, 45, 100, 10, 101, 102]⟩
theorem smpl_cb (a : Nat) (h : cbZ smpl a = true) : snp smpl (a : Int) = a := snp_self h
theorem aw_words : words smpl = [(0, 2), (3, 4), (5, 6), (7, 9)] := by decide +kernel
theorem aw1 : ofP smpl 17 2 6 (-1) = (⟨3, 3, ⟨#[]⟩, 3, ⟨#[99, 45, 100]⟩, true⟩, 0) := by
  have e1 : snp smpl 6 = 6 := smpl_cb 6 (by decide +kernel)
  have e2 : stF 17 smpl = behindW [(0, 2), (3, 4), (5, 6), (7, 9)] := by funext a; unfold stF; rw [aw_words]; rfl
  unfold ofP
  rw [if_pos (by decide), e1, show regP smpl (-1) = none from rfl, show cntP 2 = 2 from rfl]
  unfold makP
  have e3 : rpt (behindW [(0, 2), (3, 4), (5, 6), (7, 9)]) 2 6 = 3 := by decide +kernel
  have e4 : smpl.extract 3 6 = ⟨#[99, 45, 100]⟩ := by decide +kernel
  rw [if_neg (by decide), if_pos (by decide), e2, e3]
  unfold killP
  rw [if_neg (by decide), show min 6 3 = 3 from rfl, show max 6 3 = 6 from rfl, e4]
  rfl
theorem aw2 : ofP smpl 25 0 4 (-1) = (⟨3, 3, ⟨#[100, 45, 99]⟩, 6, ⟨#[]⟩, false⟩, 0) := by
  have e1 : snp smpl 4 = 4 := smpl_cb 4 (by decide +kernel)
  unfold ofP
  rw [if_pos (by decide), e1]
  unfold makP
  rw [if_neg (by decide), if_neg (by decide), if_neg (by decide), if_neg (by decide), if_neg (by decide), if_neg (by decide), if_pos rfl]
  have e3 : [(0, 2), (3, 4), (5, 6), (7, 9)].getD (selI [(0, 2), (3, 4), (5, 6), (7, 9)] 4 - 1) (0, 0) = (3, 4) := by decide +kernel
  have e4 : [(0, 2), (3, 4), (5, 6), (7, 9)].getD (selI [(0, 2), (3, 4), (5, 6), (7, 9)] 4) (0, 0) = (5, 6) := by decide +kernel
  have e5 : smpl.extract 5 6 ++ smpl.extract 4 5 ++ smpl.extract 3 4 = ⟨#[100, 45, 99]⟩ := by decide +kernel
  unfold wordsP
  rw [aw_words, if_neg (by decide), e3, e4]
  unfold swapP swp
  simp only
  rw [e5]
theorem aw3 : ofP smpl 14 0 9 (-1) = (chz, 8) := by
  have e1 : snp smpl 9 = 9 := smpl_cb 9 (by decide +kernel)
  have e2 : nxt smpl 9 = 9 := (nxt_ok smpl 9).2.2.2 (by decide)
  unfold ofP
  rw [if_pos (by decide), e1, show cntP 0 = 1 from rfl]
  unfold makP
  rw [if_pos (by decide)]
  have : rpt (stF 14 smpl) 1 9 = 9 := e2
  rw [this]
  rfl
/-- a change's box -/
structure Bc (w : World) (b : Nat) (c : Chg) (W : World) : Prop where
  bel : Below w.heap.size w W
  bx : W.heap[b]? = some (.cells (chc c) 29 (0, 0))
theorem Bc.below {w W X : World} {b : Nat} {c : Chg} (h : Bc w b c W) (hb : Below W.heap.size W X) : Bc w b c X :=
  ⟨below_on h.bel hb, (hb.block _ (Array.getElem?_eq_some_iff.1 h.bx).1).trans h.bx⟩
theorem bc_new {w W : World} (h : Below w.heap.size w W) (c : Chg) : Bc w W.heap.size c (W.alloc (.cells (chc c) 29)) := ⟨h.alloc h.size _, World.alloc_heap_new _ _⟩
theorem Bc.get {w W : World} {b : Nat} {c : Chg} (h : Bc w b c W) : W.cell? ⟨b, 0, none⟩ = some (.int .i64 c.at') ∧ W.cell? ⟨b, 1, none⟩ = some (.int .i64 c.cut) ∧ W.cell? ⟨b, 2, none⟩ = some (.string c.put) ∧ W.cell? ⟨b, 3, none⟩ = some (.int .i64 c.cur) ∧ W.cell? ⟨b, 4, none⟩ = some (.string c.kill) ∧ W.cell? ⟨b, 5, none⟩ = some (.bool c.ahead) := (cbox h.bx).1
set_option maxRecDepth 100000 in
set_option maxHeartbeats 1000000 in
theorem awake_any (hM : Tryz.prog.follows .mixedOrders = true) (w : World) (hT : Tw w) : Calls Tryz.prog 5 #[] w fun e W' => e = .returned (.bool true) ∧ Below w.heap.size w W' := by
  have hz : smpl.size = 9 := rfl
  have C1 := Of_any hM smpl (by rw [hz]; decide) 17 2 6 (-1) (by decide) (by decide) ⟨#[]⟩ 0 w hT
  rw [aw1] at C1
  have C2 := fun W (hW : Below w.heap.size w W) => Of_any hM smpl (by rw [hz]; decide) 25 0 4 (-1) (by decide) (by decide) ⟨#[]⟩ 0 W (hT.below hW)
  rw [aw2] at C2
  have C3 := fun W (hW : Below w.heap.size w W) => Of_any hM smpl (by rw [hz]; decide) 14 0 9 (-1) (by decide) (by decide) ⟨#[]⟩ 0 W (hT.below hW)
  rw [aw3] at C3
  have D1 : Hid (Calls Tryz.prog 6 #[.agg #[.int .i64 17, .int .i64 2, .string ⟨#[]⟩, .int .u8 0], .string ⟨#[97, 98, 32, 99, 45, 100, 10, 101, 102]⟩, .int .i64 6, .int .i64 (-1)] w fun e W' => e = .returned (.tuple #[.agg #[.int .i64 3, .int .i64 3, .string ⟨#[]⟩, .int .i64 3, .string ⟨#[99, 45, 100]⟩, .bool true], .int .i64 0]) ∧ Hid (Below w.heap.size w W')) := C1
  have D2 : Hid (∀ W b, Bc w b ⟨3, 3, ⟨#[]⟩, 3, ⟨#[99, 45, 100]⟩, true⟩ W → Calls Tryz.prog 6 #[.agg #[.int .i64 25, .int .i64 0, .string ⟨#[]⟩, .int .u8 0], .string ⟨#[97, 98, 32, 99, 45, 100, 10, 101, 102]⟩, .int .i64 4, .int .i64 (-1)] W fun e W' => e = .returned (.tuple #[.agg #[.int .i64 3, .int .i64 3, .string ⟨#[100, 45, 99]⟩, .int .i64 6, .string ⟨#[]⟩, .bool false], .int .i64 0]) ∧ Hid (Bc w b ⟨3, 3, ⟨#[]⟩, 3, ⟨#[99, 45, 100]⟩, true⟩ W')) := fun W b hW => (C2 W hW.bel).mono fun e W' ⟨k1, k2⟩ => ⟨k1, hW.below k2⟩
  have D3 : Hid (∀ W b d, Bc w b ⟨3, 3, ⟨#[]⟩, 3, ⟨#[99, 45, 100]⟩, true⟩ W ∧ Bc w d ⟨3, 3, ⟨#[100, 45, 99]⟩, 6, ⟨#[]⟩, false⟩ W → Calls Tryz.prog 6 #[.agg #[.int .i64 14, .int .i64 0, .string ⟨#[]⟩, .int .u8 0], .string ⟨#[97, 98, 32, 99, 45, 100, 10, 101, 102]⟩, .int .i64 9, .int .i64 (-1)] W fun e W' => e = .returned (.tuple #[.agg #[.int .i64 0, .int .i64 0, .string ⟨#[]⟩, .int .i64 0, .string ⟨#[]⟩, .bool false], .int .i64 8]) ∧ Hid (Bc w b ⟨3, 3, ⟨#[]⟩, 3, ⟨#[99, 45, 100]⟩, true⟩ W' ∧ Bc w d ⟨3, 3, ⟨#[100, 45, 99]⟩, 6, ⟨#[]⟩, false⟩ W')) := fun W b d hW => (C3 W hW.1.bel).mono fun e W' ⟨k1, k2⟩ => ⟨k1, hW.1.below k2, hW.2.below k2⟩
  have D4 : Hid (∀ W, Below w.heap.size w W → Calls Tryz.prog 10 #[.int .i64 21] W fun e W' => e = .returned (.bool true) ∧ Hid (Below w.heap.size w W')) := fun W hW => (Does_any hM 21 W (hT.below hW)).mono fun e W' ⟨k1, k2⟩ => ⟨k1, below_on hW k2⟩
  clear C1 C2 C3 hT hz
  go_enter Tryz.func5, Tryz.ntmps5
  go_upto_region 2 with (go_at_call 6; refine D1.out.mono ?_; clear D1; rintro e w1 ⟨rfl, HB⟩)
  have H1 : Hid (Bc w w1.heap.size ⟨3, 3, ⟨#[]⟩, 3, ⟨#[99, 45, 100]⟩, true⟩ (w1.alloc (.cells #[.int .i64 3, .int .i64 3, .string ⟨#[]⟩, .int .i64 3, .string ⟨#[99, 45, 100]⟩, .bool true] 29))) := bc_new HB.out _
  generalize w1.alloc (.cells #[.int .i64 3, .int .i64 3, .string ⟨#[]⟩, .int .i64 3, .string ⟨#[99, 45, 100]⟩, .bool true] 29) = w2 at H1 ⊢
  generalize w1.heap.size = b1 at H1 ⊢
  clear HB
  go_upto_region 3 with (go_at_call 6; refine (D2.out _ _ H1.out).mono ?_; clear D2 H1; rintro e w3 ⟨rfl, H1⟩)
  have H2 : Hid (Bc w b1 ⟨3, 3, ⟨#[]⟩, 3, ⟨#[99, 45, 100]⟩, true⟩ (w3.alloc (.cells #[.int .i64 3, .int .i64 3, .string ⟨#[100, 45, 99]⟩, .int .i64 6, .string ⟨#[]⟩, .bool false] 29)) ∧ Bc w w3.heap.size ⟨3, 3, ⟨#[100, 45, 99]⟩, 6, ⟨#[]⟩, false⟩ (w3.alloc (.cells #[.int .i64 3, .int .i64 3, .string ⟨#[100, 45, 99]⟩, .int .i64 6, .string ⟨#[]⟩, .bool false] 29))) := ⟨H1.out.below ((Below.refl _ w3).alloc (Nat.le_refl _) _), bc_new H1.out.bel _⟩
  generalize w3.alloc (.cells #[.int .i64 3, .int .i64 3, .string ⟨#[100, 45, 99]⟩, .int .i64 6, .string ⟨#[]⟩, .bool false] 29) = w4 at H2 ⊢
  generalize w3.heap.size = b2 at H2 ⊢
  clear H1
  go_upto_region 4 with (go_at_call 6; refine (D3.out _ _ _ H2.out).mono ?_; clear D3 H2; rintro e w5 ⟨rfl, H2⟩)
  have H3 : Hid (Bc w b1 ⟨3, 3, ⟨#[]⟩, 3, ⟨#[99, 45, 100]⟩, true⟩ (w5.alloc (.cells #[.int .i64 0, .int .i64 0, .string ⟨#[]⟩, .int .i64 0, .string ⟨#[]⟩, .bool false] 29)) ∧ Bc w b2 ⟨3, 3, ⟨#[100, 45, 99]⟩, 6, ⟨#[]⟩, false⟩ (w5.alloc (.cells #[.int .i64 0, .int .i64 0, .string ⟨#[]⟩, .int .i64 0, .string ⟨#[]⟩, .bool false] 29))) := ⟨H2.out.1.below ((Below.refl _ w5).alloc (Nat.le_refl _) _), H2.out.2.below ((Below.refl _ w5).alloc (Nat.le_refl _) _)⟩
  generalize w5.alloc (.cells #[.int .i64 0, .int .i64 0, .string ⟨#[]⟩, .int .i64 0, .string ⟨#[]⟩, .bool false] 29) = w6 at H3 ⊢
  clear H2
  obtain ⟨c0, c1, c2, c3, c4, c5⟩ := H3.out.1.get
  obtain ⟨d0, d1, d2, d3, d4, d5⟩ := H3.out.2.get
  simp only at c0 c1 c2 c3 c4 c5 d0 d1 d2 d3 d4 d5
  go_wp2_with (go_at_call 10; refine (D4.out _ H3.out.1.bel).mono ?_; clear D4 H3; rintro e w7 ⟨rfl, HB⟩)
  go_ret
  exact ⟨rfl, HB.out⟩
end Go.Proofs.YtdggbnkhbmffoaaGreatDoor
