/-
  The walk of the law LayoutBlank: package layout's Blank is the document's. Conditions: those of walk_of.
-/
import Derived.Test.YtojkpkokjkjeeaaDoorOBlk
namespace Go.Proofs.YtojkpkokjkjeeaaDoor.layoutBlank
open Go.RowKit Go.Shelf Bod Wid
set_option maxRecDepth 100000 in
set_option maxHeartbeats 1000000 in
theorem walk (hM : Tryd.prog.follows .mixedOrders = true) (W0 R0 : Int) (w : World) (hT : Lib.Utf8Tabs 0 1 w) (hlo0 : 0 < w.heap.size) (hlo1 : 1 < w.heap.size) :
    Calls Tryd.prog 5 #[.int .i64 W0, .int .i64 R0] w fun e w' => e = .returned (.bool true) ∧ Below w.heap.size w w' := by
  obtain ⟨Wn, hW⟩ : ∃ Wn : Nat, couW W0 = Wn := ⟨(couW W0).toNat, by have := couW_in W0; omega⟩
  obtain ⟨Rn, hR⟩ : ∃ Rn : Nat, couW R0 = Rn := ⟨(couW R0).toNat, by have := couW_in R0; omega⟩
  have hRb : Rn ≤ 65535 := by have := couW_in R0; omega
  have CA : Hid (Calls Tryd.prog 9 #[] w fun e w' => e = .returned (.bool true) ∧ Hid (Below w.heap.size w w')) := awk_any hM w hT hlo0 hlo1
  have CB : Hid (∀ X, Calls Tryd.prog 17 #[.int .i64 W0, .int .i64 R0] X fun e Y => ∃ ov, e = .returned (.agg #[.int .i64 Wn, ov, .int .i64 0, .int .i64 0]) ∧ Hid (Fr X ov (bls Rn) Y ∧ Below X.heap.size X Y)) := fun X => bln_any W0 R0 X Wn Rn hW hR
  have CR : Hid (∀ X, Calls Tryd.prog 18 #[.int .i64 W0, .int .i64 R0] X fun e Y => ∃ ov, e = .returned (.agg #[.int .i64 Wn, ov, .int .i64 0, .int .i64 0]) ∧ Hid (Fr X ov (bls Rn) Y ∧ Below X.heap.size X Y)) := fun X => rbl_any W0 R0 X Wn Rn hW hR
  have CS : Hid (∀ (X b1 b2 : World) (v1 v2 : Value), Fr b1 v1 (bls Rn) X → Fr b2 v2 (bls Rn) X → Calls Tryd.prog 11 #[.agg #[.int .i64 Wn, v1, .int .i64 0, .int .i64 0], .agg #[.int .i64 Wn, v2, .int .i64 0, .int .i64 0]] X fun e w' => e = .returned (.bool true) ∧ Hid (Below X.heap.size X w')) := fun X b1 b2 v1 v2 h1 h2 => rsm_any (bls Rn) (by simp [bls]; omega) (fun l hl => by rw [(List.mem_replicate.1 hl).2]; simp) X h1 h2
  clear hM hT hW hR
  go_enter Tryd.func5, Tryd.ntmps5
  go_wp2_with (first | (go_at_call 9; refine CA.out.mono ?_; clear CA; rintro e w1 ⟨rfl, HB1⟩) | (go_at_call 17; refine (CB.out _).mono ?_; clear CB; rintro e w2 ⟨v1, rfl, H2⟩) | (go_at_call 18; refine (CR.out _).mono ?_; clear CR; rintro e w3 ⟨v2, rfl, H3⟩) | (go_at_call 11; refine (CS.out _ _ _ _ _ (H2.out.1.below H3.out.2) H3.out.1).mono ?_; clear CS; rintro e w4 ⟨rfl, HB4⟩))
  go_ret
  have b2 : Below w.heap.size w w2 := HB1.out.trans (H2.out.2.mono HB1.out.size)
  have b3 : Below w.heap.size w w3 := b2.trans (H3.out.2.mono b2.size)
  exact ⟨rfl, b3.trans (HB4.out.mono b3.size)⟩
theorem walk_of (W0 R0 : Int) (w : World) (hT : Lib.Utf8Tabs 0 1 w) (hlo0 : 0 < w.heap.size) (hlo1 : 1 < w.heap.size) (_h0 : -9223372036854775808 ≤ W0 ∧ W0 ≤ 9223372036854775807) (_h1 : -9223372036854775808 ≤ R0 ∧ R0 ≤ 9223372036854775807) :
    Calls Tryd.prog 5 #[.int .i64 W0, .int .i64 R0] w fun e w' => e = .returned (.bool true) ∧ Below w.heap.size w w' := walk (by kernel_rfl) W0 R0 w hT hlo0 hlo1
end Go.Proofs.YtojkpkokjkjeeaaDoor.layoutBlank
