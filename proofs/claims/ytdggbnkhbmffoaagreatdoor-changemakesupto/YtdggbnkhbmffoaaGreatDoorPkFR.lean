/-
  The document's own layer 17: transposed, cased, regional, words. No program is walked in this text; no conditions.
-/
import Derived.Test.YtdggbnkhbmffoaaGreatDoorFRa
import Derived.Test.YtdggbnkhbmffoaaGreatDoorPkWS
import Derived.Test.YtdggbnkhbmffoaaGreatDoorFSwp
import Derived.Test.YtdggbnkhbmffoaaGreatDoorFGood
import Derived.BigQuiet
import Derived.Test.YtdggbnkhbmffoaaGreatDoorUThenC
namespace Go.Proofs.YtdggbnkhbmffoaaGreatDoor
open Go.RowKit Go.Shelf Go.Sort Bod Wid

/-- two spans in boxes, and the answer's box -/
structure Rt (w : World) (v1 v2 x1 x2 : Nat) (W : World) : Prop where
  bel : Below w.heap.size w W
  va : W.heap[w.heap.size]? = some (.cells #[.int .i64 v1, .int .i64 v2] 53 (0, 0))
  xa : W.heap[w.heap.size + 1]? = some (.cells #[.int .i64 x1, .int .i64 x2] 53 (0, 0))
  rs : W.heap[w.heap.size + 1 + 1]? = some (.cells #[.int .i64 0, .int .i64 0, .string ⟨#[]⟩, .int .i64 0, .string ⟨#[]⟩, .bool false] 37 (0, 0))
theorem rt0 (w : World) (v1 v2 x1 x2 : Nat) : Rt w v1 v2 x1 x2 (((w.alloc (.cells #[.int .i64 v1, .int .i64 v2] 53)).alloc (.cells #[.int .i64 x1, .int .i64 x2] 53)).alloc (.cells #[.int .i64 0, .int .i64 0, .string ⟨#[]⟩, .int .i64 0, .string ⟨#[]⟩, .bool false] 37)) := by
  obtain ⟨p0, p1, p2⟩ := push3 w.heap (.cells #[.int .i64 v1, .int .i64 v2] 53) (.cells #[.int .i64 x1, .int .i64 x2] 53) (.cells #[.int .i64 0, .int .i64 0, .string ⟨#[]⟩, .int .i64 0, .string ⟨#[]⟩, .bool false] 37)
  exact ⟨(((Below.refl _ w).alloc (Nat.le_refl _) _).alloc (by simp) _).alloc (by simp; omega) _, p0, p1, p2⟩
theorem Rt.below {w W X : World} {v1 v2 x1 x2 : Nat} (h : Rt w v1 v2 x1 x2 W) (hb : Below W.heap.size W X) : Rt w v1 v2 x1 x2 X :=
  ⟨below_on h.bel hb, (hb.block _ (Array.getElem?_eq_some_iff.1 h.va).1).trans h.va, (hb.block _ (Array.getElem?_eq_some_iff.1 h.xa).1).trans h.xa, (hb.block _ (Array.getElem?_eq_some_iff.1 h.rs).1).trans h.rs⟩
set_option maxRecDepth 100000 in
set_option maxHeartbeats 2000000 in
theorem rtrans_any (w : World) (s : ByteArray) (v x : Nat × Nat) (hs : s.size ≤ 1099511627776) (h1 : v.1 ≤ v.2) (h2 : v.2 ≤ x.1) (h3 : x.1 ≤ x.2) (h4 : x.2 ≤ s.size) :
    Calls Tryz.prog 32 #[.string s, .agg #[.int .i64 v.1, .int .i64 v.2], .agg #[.int .i64 x.1, .int .i64 x.2]] w fun e W' => e = .returned (.agg (chc (swapP s v x))) ∧ Below w.heap.size w W' := by
  obtain ⟨v1, v2⟩ := v
  obtain ⟨x1, x2⟩ := x
  simp only at h1 h2 h3 h4 ⊢
  unfold swapP swp
  simp only
  have e1 : ((x2 - v1 : Nat) : Int) = (x2 : Int) - v1 := by omega
  have HW0 : Hid (Rt w v1 v2 x1 x2 (((w.alloc (.cells #[.int .i64 v1, .int .i64 v2] 53)).alloc (.cells #[.int .i64 x1, .int .i64 x2] 53)).alloc (.cells #[.int .i64 0, .int .i64 0, .string ⟨#[]⟩, .int .i64 0, .string ⟨#[]⟩, .bool false] 37))) := rt0 w v1 v2 x1 x2
  go_enter Tryz.func32, Tryz.ntmps32
  go_upto_region 1 with fail
  generalize ((w.alloc (.cells #[.int .i64 v1, .int .i64 v2] 53)).alloc (.cells #[.int .i64 x1, .int .i64 x2] 53)).alloc (.cells #[.int .i64 0, .int .i64 0, .string ⟨#[]⟩, .int .i64 0, .string ⟨#[]⟩, .bool false] 37) = W0 at HW0 ⊢
  obtain ⟨c4, c5⟩ := box2' HW0.out.va
  obtain ⟨c6, c7⟩ := box2' HW0.out.xa
  obtain ⟨⟨z0, z1, z2, z3, z4, z5⟩, f0, f1, f2, f3, f4, f5, hl⟩ := cbox HW0.out.rs
  go_quiet (fail)
  have HX : Hid (Rt w v1 v2 x1 x2 (W0.drewN nq)) := HW0.out.below ⟨rfl, rfl, rfl, Nat.le_refl _, fun _ _ => rfl⟩
  generalize W0.drewN nq = W1 at HX ⊢
  clear HW0 c4 c5 c6 c7 z0 z1 z2 z3 z4 z5 f0 f1 f2 f3 f4 f5 hl
  obtain ⟨c4, c5⟩ := box2' HX.out.va
  obtain ⟨c6, c7⟩ := box2' HX.out.xa
  obtain ⟨⟨z0, z1, z2, z3, z4, z5⟩, f0, f1, f2, f3, f4, f5, hl⟩ := cbox HX.out.rs
  go_wp2
  obtain ⟨k1, k2⟩ := cset (.int .i64 v1) (.int .i64 ((x2 : Int) - v1)) (.string (s.extract x1 x2 ++ s.extract v2 x1 ++ s.extract v1 v2)) (.int .i64 x2) (.string ⟨#[]⟩) (.bool false) HX.out.bel (by omega) HX.out.rs
  obtain ⟨⟨y0, y1, y2, y3, y4, y5⟩, -⟩ := cbox k2
  exact bodyPost_ret (v := .agg (chc ⟨v1, x2 - v1, s.extract x1 x2 ++ s.extract v2 x1 ++ s.extract v1 v2, x2, ⟨#[]⟩, false⟩)) (by simp [results, Tryz.results32, go_sem, chc, e1, y0, y1, y2, y3, y4, y5]) rfl ⟨rfl, k1⟩
end Go.Proofs.YtdggbnkhbmffoaaGreatDoor
namespace Go.Proofs.YtdggbnkhbmffoaaGreatDoor
open Go.RowKit Go.Shelf Go.Sort Bod Wid

theorem frm_sz {k : Int} {s : ByteArray} {a b : Nat} (hb : b ≤ s.size) : (frm k (s.extract a b)).size ≤ 3 * s.size + 16 := by
  rw [frm_size, size_extract s a b hb]; omega
set_option maxRecDepth 100000 in
set_option maxHeartbeats 1000000 in
theorem rcased_any (w : World) (s : ByteArray) (k : Int) (hk : k = 26 ∨ k = 27 ∨ k = 28) (a b : Nat) (h : a ≤ b) (hb : b ≤ s.size) (hs : s.size ≤ 2097152) :
    Calls Tryz.prog 23 #[.int .i64 k, .string s, .int .i64 a, .int .i64 b] w fun e W' => e = .returned (.agg (chc ⟨a, b - a, frm k (s.extract a b), a + (frm k (s.extract a b)).size, ⟨#[]⟩, false⟩)) ∧ Below w.heap.size w W' := by
  have HF : Hid (Rx w (w.alloc (.cells #[.int .i64 0, .int .i64 0, .string ⟨#[]⟩, .int .i64 0, .string ⟨#[]⟩, .bool false] 37))) := rx0 w
  have hx : (s.extract a b).size ≤ 4398046511000 := by rw [size_extract s a b hb]; omega
  have C1 : Hid (∀ W, Rx w W → Calls Tryz.prog 34 #[.string (s.extract a b)] W fun e W' => e = .returned (.string (fm (fun _ => upc) (s.extract a b))) ∧ Hid (Rx w W')) := fun W hW => (rupper_any _ hx W).mono fun e W' ⟨q1, q2⟩ => ⟨q1, hW.below q2⟩
  have C2 : Hid (∀ W, Rx w W → Calls Tryz.prog 35 #[.string (s.extract a b)] W fun e W' => e = .returned (.string (fm (fun _ => lowc) (s.extract a b))) ∧ Hid (Rx w W')) := fun W hW => (rlower_any _ hx W).mono fun e W' ⟨q1, q2⟩ => ⟨q1, hW.below q2⟩
  have C3 : Hid (∀ W, Rx w W → Calls Tryz.prog 36 #[.string (s.extract a b)] W fun e W' => e = .returned (.string (fm (capG (words (s.extract a b))) (s.extract a b))) ∧ Hid (Rx w W')) := fun W hW => (rcapital_any _ hx W).mono fun e W' ⟨q1, q2⟩ => ⟨q1, hW.below q2⟩
  have hz := frm_sz (k := k) (a := a) hb
  have e2 : (a : Int) ≤ b := by omega
  have e3 : (b : Int) ≤ s.size := by omega
  have e4 : ((b - a : Nat) : Int) = (b : Int) - a := by omega
  have e5 : a ≤ 2097152 := by omega
  have e6 : b ≤ 2097152 := by omega
  clear hx
  rcases hk with rfl | rfl | rfl
  · rw [show frm 26 (s.extract a b) = fm (fun _ => upc) (s.extract a b) from if_pos rfl] at *
    generalize fm (fun _ => upc) (s.extract a b) = x at *
    clear C2 C3
    have e7 : x.size ≤ 6291472 := by omega
    go_enter Tryz.func23, Tryz.ntmps23
    go_upto_region 7 with (go_at_call 34; refine (C1.out _ HF.out).mono ?_; clear C1 HF; rintro e w1 ⟨rfl, HF⟩)
    obtain ⟨⟨z0, z1, z2, z3, z4, z5⟩, f0, f1, f2, f3, f4, f5, hl⟩ := cbox HF.out.rs
    go_wp2
    obtain ⟨k1, k2, k3, k4, k5, k6, k7⟩ := HF.out.fin (.int .i64 a) (.int .i64 (b - a)) (.string x) (.int .i64 (a + x.size)) (.string ⟨#[]⟩) (.bool false)
    exact bodyPost_ret (v := .agg (chc ⟨a, b - a, x, a + x.size, ⟨#[]⟩, false⟩)) (by simp [results, Tryz.results23, go_sem, chc, e4, k2, k3, k4, k5, k6, k7]) rfl ⟨rfl, k1⟩
  · rw [show frm 27 (s.extract a b) = fm (fun _ => lowc) (s.extract a b) from (if_neg (by decide)).trans (if_pos rfl)] at *
    generalize fm (fun _ => lowc) (s.extract a b) = x at *
    generalize fm (fun _ => upc) (s.extract a b) = y at *
    clear C3
    have e7 : x.size ≤ 6291472 := by omega
    go_enter Tryz.func23, Tryz.ntmps23
    go_upto_region 7 with (first | (go_at_call 34; refine (C1.out _ HF.out).mono ?_; clear C1 HF; rintro e w1 ⟨rfl, HF⟩) | (go_at_call 35; refine (C2.out _ HF.out).mono ?_; clear C2 HF; rintro e w2 ⟨rfl, HF⟩))
    obtain ⟨⟨z0, z1, z2, z3, z4, z5⟩, f0, f1, f2, f3, f4, f5, hl⟩ := cbox HF.out.rs
    go_wp2
    obtain ⟨k1, k2, k3, k4, k5, k6, k7⟩ := HF.out.fin (.int .i64 a) (.int .i64 (b - a)) (.string x) (.int .i64 (a + x.size)) (.string ⟨#[]⟩) (.bool false)
    exact bodyPost_ret (v := .agg (chc ⟨a, b - a, x, a + x.size, ⟨#[]⟩, false⟩)) (by simp [results, Tryz.results23, go_sem, chc, e4, k2, k3, k4, k5, k6, k7]) rfl ⟨rfl, k1⟩
  · rw [show frm 28 (s.extract a b) = fm (capG (words (s.extract a b))) (s.extract a b) from (if_neg (by decide)).trans (if_neg (by decide))] at *
    generalize fm (capG (words (s.extract a b))) (s.extract a b) = x at *
    generalize fm (fun _ => upc) (s.extract a b) = y at *
    clear C2
    have e7 : x.size ≤ 6291472 := by omega
    go_enter Tryz.func23, Tryz.ntmps23
    go_upto_region 7 with (first | (go_at_call 34; refine (C1.out _ HF.out).mono ?_; clear C1 HF; rintro e w1 ⟨rfl, HF⟩) | (go_at_call 36; refine (C3.out _ HF.out).mono ?_; clear C3 HF; rintro e w2 ⟨rfl, HF⟩))
    obtain ⟨⟨z0, z1, z2, z3, z4, z5⟩, f0, f1, f2, f3, f4, f5, hl⟩ := cbox HF.out.rs
    go_wp2
    obtain ⟨k1, k2, k3, k4, k5, k6, k7⟩ := HF.out.fin (.int .i64 a) (.int .i64 (b - a)) (.string x) (.int .i64 (a + x.size)) (.string ⟨#[]⟩) (.bool false)
    exact bodyPost_ret (v := .agg (chc ⟨a, b - a, x, a + x.size, ⟨#[]⟩, false⟩)) (by simp [results, Tryz.results23, go_sem, chc, e4, k2, k3, k4, k5, k6, k7]) rfl ⟨rfl, k1⟩
end Go.Proofs.YtdggbnkhbmffoaaGreatDoor
namespace Go.Proofs.YtdggbnkhbmffoaaGreatDoor
open Go.RowKit Go.Shelf Go.Sort Bod Wid

/-- what a region makes -/
noncomputable def rgnP (k : Int) (s : ByteArray) (a : Nat) (r : Option Nat) : Chg × Int :=
  match r with | none => (chz, 7) | some r => if k = 21 then copyP s a r else killP s a r
set_option maxRecDepth 100000 in
set_option maxHeartbeats 1000000 in
theorem rregional_any (w : World) (s : ByteArray) (k : Int) (a : Nat) (r : Int) (ha : a ≤ s.size) (hs : s.size ≤ 2097152) :
    Calls Tryz.prog 20 #[.int .i64 k, .string s, .int .i64 a, .int .i64 r] w fun e W' => e = .returned (rsv (rgnP k s a (regP s r))) ∧ Below w.heap.size w W' := by
  have HF : Hid (Rx w (w.alloc (.cells #[.int .i64 0, .int .i64 0, .string ⟨#[]⟩, .int .i64 0, .string ⟨#[]⟩, .bool false] 37))) := rx0 w
  unfold regP
  by_cases hr : r < 0
  · rw [if_pos hr]
    show Calls _ _ _ _ fun e W' => e = .returned (rsv (chz, 7)) ∧ _
    go_enter Tryz.func20, Tryz.ntmps20
    go_upto_region 2 with fail
    generalize w.alloc (.cells #[.int .i64 0, .int .i64 0, .string ⟨#[]⟩, .int .i64 0, .string ⟨#[]⟩, .bool false] 37) = w1 at HF ⊢
    obtain ⟨⟨z0, z1, z2, z3, z4, z5⟩, f0, f1, f2, f3, f4, f5, hl⟩ := cbox HF.out.rs
    go_wp2
    obtain ⟨k1, k2, k3, k4, k5, k6, k7⟩ := HF.out.fin (.int .i64 0) (.int .i64 0) (.string ⟨#[]⟩) (.int .i64 0) (.string ⟨#[]⟩) (.bool false)
    exact bodyPost_ret (v := rsv (chz, 7)) (by simp [results, Tryz.results20, go_sem, rsv, chc, chz, k2, k3, k4, k5, k6, k7]) rfl ⟨rfl, k1⟩
  rw [if_neg hr]
  have HU : ∀ m : Nat, IsSnap s (min r (s.size : Int)) m → m = snp s r := fun m hm => by rw [← snp_min]; exact hm.uniq (snp_is s _)
  have C1 : Hid (∀ W, Rx w W → Calls Tryz.prog 15 #[.string s, .int .i64 (min r s.size)] W fun e W' => e = .returned (.int .i64 (snp s r)) ∧ Hid (Rx w W')) := fun W hW => (rsnap_any s (min r (s.size : Int)) hs W).mono fun e W' ⟨m, q0, q1, q2⟩ => ⟨by rw [q0, HU m q1], hW.below q2⟩
  have hm := snp_le s r
  unfold rgnP
  simp only
  generalize snp s r = m at *
  have HK : Hid (∀ W (x y : Nat) (b : Bool), x ≤ y → y ≤ s.size → Rx w W → Calls Tryz.prog 22 #[.string s, .int .i64 x, .int .i64 y, .bool b] W fun e W' => e = .returned (.agg #[.int .i64 x, .int .i64 (y - x : Nat), .string ⟨#[]⟩, .int .i64 x, .string (s.extract x y), .bool b]) ∧ Hid (Rx w W')) := fun W x y b hxy hy hW => (rkill_any W s x y b hxy hy (by omega)).mono fun e W' ⟨q1, q2⟩ => ⟨q1, hW.below q2⟩
  unfold copyP killP
  by_cases h0 : m = a
  · subst h0
    rw [if_pos rfl, if_pos rfl, show (if k = 21 then ((chz, 8) : Chg × Int) else (chz, 8)) = (chz, 8) by split <;> rfl]
    clear HK
    go_enter Tryz.func20, Tryz.ntmps20
    go_upto_region 7 with (go_at_call 15; refine (C1.out _ HF.out).mono ?_; clear C1 HF; rintro e w1 ⟨rfl, HF⟩)
    obtain ⟨⟨z0, z1, z2, z3, z4, z5⟩, f0, f1, f2, f3, f4, f5, hl⟩ := cbox HF.out.rs
    go_wp2
    obtain ⟨k1, k2, k3, k4, k5, k6, k7⟩ := HF.out.fin (.int .i64 0) (.int .i64 0) (.string ⟨#[]⟩) (.int .i64 0) (.string ⟨#[]⟩) (.bool false)
    exact bodyPost_ret (v := rsv (chz, 8)) (by simp [results, Tryz.results20, go_sem, rsv, chc, chz, k2, k3, k4, k5, k6, k7]) rfl ⟨rfl, k1⟩
  rw [if_neg h0, if_neg h0]
  obtain ⟨x, y, hxy, hmn, hmx⟩ : ∃ x y : Nat, x < y ∧ min a m = x ∧ max a m = y := ⟨_, _, by omega, rfl, rfl⟩
  have i1 : min (a : Int) m = x := by omega
  have i2 : max (a : Int) m = y := by omega
  have i3 : ¬ (x : Int) = y := by omega
  have i4 : (x : Int) ≤ y := by omega
  have i5 : (y : Int) ≤ s.size := by omega
  rw [hmn, hmx]
  by_cases hk : k = 21
  · subst hk
    rw [if_pos rfl]
    clear HK hmn hmx
    go_enter Tryz.func20, Tryz.ntmps20
    go_upto_region 9 with (go_at_call 15; refine (C1.out _ HF.out).mono ?_; clear C1 HF; rintro e w1 ⟨rfl, HF⟩)
    obtain ⟨⟨z0, z1, z2, z3, z4, z5⟩, f0, f1, f2, f3, f4, f5, hl⟩ := cbox HF.out.rs
    go_wp2
    obtain ⟨k1, k2, k3, k4, k5, k6, k7⟩ := HF.out.fin (.int .i64 0) (.int .i64 0) (.string ⟨#[]⟩) (.int .i64 a) (.string (s.extract x y)) (.bool false)
    exact bodyPost_ret (v := rsv (⟨0, 0, ⟨#[]⟩, a, s.extract x y, false⟩, 0)) (by simp [results, Tryz.results20, go_sem, rsv, chc, k2, k3, k4, k5, k6, k7]) rfl ⟨rfl, k1⟩
  · rw [if_neg hk]
    by_cases hma : m < a
    · obtain rfl : x = m := by omega
      obtain rfl : y = a := by omega
      have C2 : Hid (∀ W, Rx w W → Calls Tryz.prog 22 #[.string s, .int .i64 x, .int .i64 y, .bool true] W fun e W' => e = .returned (.agg #[.int .i64 x, .int .i64 (y - x : Nat), .string ⟨#[]⟩, .int .i64 x, .string (s.extract x y), .bool true]) ∧ Hid (Rx w W')) := fun W hW => HK.out W x y true (by omega) (by omega) hW
      rw [show decide (x < y) = true by simp; omega]
      clear HK hmn hmx
      go_enter Tryz.func20, Tryz.ntmps20
      go_upto_region 10 with (go_at_call 15; refine (C1.out _ HF.out).mono ?_; clear C1 HF; rintro e w1 ⟨rfl, HF⟩)
      go_wp2_with (go_at_call 22; refine (C2.out _ HF.out).mono ?_; clear C2 HF; rintro e w2 ⟨rfl, HF⟩; obtain ⟨⟨z0, z1, z2, z3, z4, z5⟩, f0, f1, f2, f3, f4, f5, hl⟩ := cbox HF.out.rs)
      obtain ⟨k1, k2, k3, k4, k5, k6, k7⟩ := HF.out.fin (.int .i64 x) (.int .i64 (y - x : Nat)) (.string ⟨#[]⟩) (.int .i64 x) (.string (s.extract x y)) (.bool true)
      exact bodyPost_ret (v := rsv (⟨x, y - x, ⟨#[]⟩, x, s.extract x y, true⟩, 0)) (by simp [results, Tryz.results20, go_sem, rsv, chc, k2, k3, k4, k5, k6, k7]) rfl ⟨rfl, k1⟩
    · obtain rfl : x = a := by omega
      obtain rfl : y = m := by omega
      have C2 : Hid (∀ W, Rx w W → Calls Tryz.prog 22 #[.string s, .int .i64 x, .int .i64 y, .bool false] W fun e W' => e = .returned (.agg #[.int .i64 x, .int .i64 (y - x : Nat), .string ⟨#[]⟩, .int .i64 x, .string (s.extract x y), .bool false]) ∧ Hid (Rx w W')) := fun W hW => HK.out W x y false (by omega) (by omega) hW
      rw [show decide (y < x) = false by simp; omega]
      clear HK hmn hmx
      go_enter Tryz.func20, Tryz.ntmps20
      go_upto_region 10 with (go_at_call 15; refine (C1.out _ HF.out).mono ?_; clear C1 HF; rintro e w1 ⟨rfl, HF⟩)
      go_wp2_with (go_at_call 22; refine (C2.out _ HF.out).mono ?_; clear C2 HF; rintro e w2 ⟨rfl, HF⟩; obtain ⟨⟨z0, z1, z2, z3, z4, z5⟩, f0, f1, f2, f3, f4, f5, hl⟩ := cbox HF.out.rs)
      obtain ⟨k1, k2, k3, k4, k5, k6, k7⟩ := HF.out.fin (.int .i64 x) (.int .i64 (y - x : Nat)) (.string ⟨#[]⟩) (.int .i64 x) (.string (s.extract x y)) (.bool false)
      exact bodyPost_ret (v := rsv (⟨x, y - x, ⟨#[]⟩, x, s.extract x y, false⟩, 0)) (by simp [results, Tryz.results20, go_sem, rsv, chc, k2, k3, k4, k5, k6, k7]) rfl ⟨rfl, k1⟩
end Go.Proofs.YtdggbnkhbmffoaaGreatDoor
namespace Go.Proofs.YtdggbnkhbmffoaaGreatDoor
open Go.RowKit Go.Shelf Go.Sort Bod Wid

theorem rtrans_at (w : World) (s : ByteArray) {l : List (Nat × Nat)} (hl : words s = l) (hs : s.size ≤ 1099511627776) {q : Nat} {v x : Nat × Nat} (hv : l[q]? = some v) (hx : l[q + 1]? = some x) :
    Calls Tryz.prog 32 #[.string s, .agg #[.int .i64 v.1, .int .i64 v.2], .agg #[.int .i64 x.1, .int .i64 x.2]] w fun e W' => e = .returned (.agg (chc (swapP s v x))) ∧ Below w.heap.size w W' := by
  subst hl
  have m1 := List.mem_of_getElem? hv
  have m2 := List.mem_of_getElem? hx
  have b1 := words_mem m1
  have b2 := words_mem m2
  have hr := words_ris s
  have h : v.2 < x.1 := by
    have := List.pairwise_iff_getElem.1 hr q (q + 1) (List.getElem?_eq_some_iff.1 hv).1 (List.getElem?_eq_some_iff.1 hx).1 (by omega)
    rw [(List.getElem?_eq_some_iff.1 hv).2, (List.getElem?_eq_some_iff.1 hx).2] at this
    exact this
  exact rtrans_any w s v x hs (by omega) (by omega) (by omega) (by omega)
set_option maxRecDepth 100000 in
set_option maxHeartbeats 2000000 in
theorem rwords_any (hM : Tryz.prog.follows .mixedOrders = true) (w : World) (s : ByteArray) (a : Nat) (hs : s.size ≤ 2097152) :
    Calls Tryz.prog 19 #[.string s, .int .i64 a] w fun e W' => e = .returned (rsv (wordsP s a)) ∧ Below w.heap.size w W' := by
  have HM : Hid (Tryz.prog.follows .mixedOrders = true) := hM
  have HF : Hid (Rx w (w.alloc (.cells #[.int .i64 0, .int .i64 0, .string ⟨#[]⟩, .int .i64 0, .string ⟨#[]⟩, .bool false] 37))) := rx0 w
  obtain ⟨l, hl⟩ : ∃ l, words s = l := ⟨_, rfl⟩
  obtain ⟨n, hn⟩ : ∃ n, l.length = n := ⟨_, rfl⟩
  have hnb : n ≤ 2097152 := by have := words_len s; rw [hl, hn] at this; omega
  have C1 : Hid (∀ W, Rx w W → Calls Tryz.prog 33 #[.string s] W fun e W' => ∃ ao cap, e = .returned (.slice ao n cap) ∧ Hid (Rx w W' ∧ Rd2 W' (.slice ao n cap) l)) := fun W hW => (rspans_any s (by omega) W).mono fun e W' ⟨v, q1, q2, q3⟩ => by
    rw [hl] at q2
    obtain ⟨ao, cap, hv, hc⟩ := Rd2.of_row q2
    rw [hn] at hv
    exact ⟨ao, cap, by rw [q1, hv], hW.below q3, ⟨ao, cap, by rw [hn], hc⟩⟩
  have HW : Hid (wordsP s a = if n < 2 then (chz, 8) else (swapP s (l.getD (selI l a - 1) (0, 0)) (l.getD (selI l a) (0, 0)), 0)) := by show _ = _; unfold wordsP; rw [hl, hn]
  by_cases h2 : n < 2
  · rw [HW.out, if_pos h2]
    clear HW HM hM
    go_enter Tryz.func19, Tryz.ntmps19
    go_upto_region 3 with (go_at_call 33; refine (C1.out _ HF.out).mono ?_; clear C1 HF; rintro e w1 ⟨ao, cap, rfl, HF⟩)
    obtain ⟨⟨z0, z1, z2, z3, z4, z5⟩, f0, f1, f2, f3, f4, f5, hlt⟩ := cbox HF.out.1.rs
    go_wp2
    obtain ⟨k1, k2, k3, k4, k5, k6, k7⟩ := HF.out.1.fin (.int .i64 0) (.int .i64 0) (.string ⟨#[]⟩) (.int .i64 0) (.string ⟨#[]⟩) (.bool false)
    exact bodyPost_ret (v := rsv (chz, 8)) (by simp [results, Tryz.results19, go_sem, rsv, chc, chz, k2, k3, k4, k5, k6, k7]) rfl ⟨rfl, k1⟩
  have HS : Hid (∀ k : Nat, k ≤ n - 1 → (∀ (j : Nat) (y : Nat × Nat), j < k → l[j]? = some y → y.1 < a) → (k = n - 1 ∨ ∃ y, l[k]? = some y ∧ ¬ y.1 < a) → ∃ (q : Nat) (v x : Nat × Nat), max (k : Int) 1 = (q : Int) + 1 ∧ q + 1 < n ∧ l[q]? = some v ∧ l[q + 1]? = some x ∧ wordsP s a = (swapP s v x, 0)) := fun k hk hb he => by
    have hsel : selI l a = max k 1 := by
      unfold selI
      rw [sel_of (l := l) (by rw [← hl]; exact words_ris s) (by rw [← hl]; exact fun y hy => (words_mem hy).1) (k := k) (by omega) hb (by rw [hn]; exact he)]
    obtain ⟨q, hq⟩ : ∃ q, max k 1 = q + 1 := ⟨max k 1 - 1, by omega⟩
    obtain ⟨v, hv⟩ : ∃ v, l[q]? = some v := ⟨_, List.getElem?_eq_getElem (by omega)⟩
    obtain ⟨x, hx⟩ : ∃ x, l[q + 1]? = some x := ⟨_, List.getElem?_eq_getElem (by omega)⟩
    refine ⟨q, v, x, by omega, by omega, hv, hx, ?_⟩
    rw [HW.out, if_neg h2, hsel, hq, Nat.add_sub_cancel, List.getD_eq_getElem?_getD, List.getD_eq_getElem?_getD, hv, hx]
    rfl
  have HT : Hid (∀ (W : World) (q : Nat) (v x : Nat × Nat), l[q]? = some v → l[q + 1]? = some x → Calls Tryz.prog 32 #[.string s, .agg #[.int .i64 v.1, .int .i64 v.2], .agg #[.int .i64 x.1, .int .i64 x.2]] W fun e W' => e = .returned (.agg (chc (swapP s v x))) ∧ Below W.heap.size W W') := fun W q v x hv hx => rtrans_at W s hl (by omega) hv hx
  have HN : Hid (l.length = n ∧ l ≠ []) := ⟨hn, fun e => by subst e; simp at hn; omega⟩
  clear HW hl hn hM
  go_enter Tryz.func19, Tryz.ntmps19
  go_upto_region 5 with (go_at_call 33; refine (C1.out _ HF.out).mono ?_; clear C1 HF; rintro e w1 ⟨ao, cap, rfl, HF⟩)
  obtain ⟨g, rfl⟩ : ∃ g, ao = some ⟨g, 0, none⟩ := by
    obtain ⟨_, _, e, hc⟩ := HF.out.2
    obtain ⟨g, h1, _⟩ := hc HN.out.2
    cases e
    exact ⟨g, h1⟩
  have HR : Hid (Rx w w1 ∧ ∀ (k : Nat) (y : Nat × Nat), l[k]? = some y → w1.cell? ⟨g, k * 2, none⟩ = some (.int .i64 y.1) ∧ w1.cell? ⟨g, k * 2 + 1, none⟩ = some (.int .i64 y.2)) := by
    obtain ⟨hF, _, _, e, hc⟩ := HF.out
    obtain ⟨g', h1, _, h3⟩ := hc HN.out.2
    cases e
    cases h1
    exact ⟨hF, h3⟩
  clear HF
  go_loopw [7] (fun t7 wr => ∃ k : Nat, t7 = .int .i64 (k : Int) ∧ k ≤ n - 1 ∧ wr = w1 ∧ Hid (∀ (j : Nat) (y : Nat × Nat), j < k → l[j]? = some y → y.1 < a)) (fun t7 _ => n - (intOf t7).toNat)
  case atStart => exact ⟨0, rfl, Nat.zero_le _, rfl, fun j y h => by omega⟩
  case round =>
    obtain ⟨k, rfl, hk, rfl, HB⟩ := hrel
    by_cases hkn : k = n - 1
    · have hkn' : ¬ (k : Int) < (n : Int) - 1 := by omega
      obtain ⟨q, v, x, hm, hq, hv, hx, hP⟩ := HS.out k hk HB.out (.inl hkn)
      clear hkn
      have HV : Hid (l[q]? = some v ∧ l[q + 1]? = some x ∧ wordsP s a = (swapP s v x, 0)) := ⟨hv, hx, hP⟩
      clear hv hx hP
      obtain ⟨v1, v2⟩ := v
      obtain ⟨x1, x2⟩ := x
      obtain ⟨d0, d1⟩ := HR.out.2 _ _ HV.out.1
      obtain ⟨d2, d3⟩ := HR.out.2 _ _ HV.out.2.1
      simp only at d0 d1 d2 d3
      go_upto_region 8 with fail
      have t0 := cell_rgw d0
      have t1 := cell_rgw d1
      have t2 := cell_rgw d2
      have t3 := cell_rgw d3
      obtain ⟨c, hc⟩ : ∃ c, swapP s (v1, v2) (x1, x2) = c := ⟨_, rfl⟩
      have HC : Hid (wordsP s a = (c, 0)) := by show _ = _; rw [← hc]; exact HV.out.2.2
      obtain ⟨q0, q1, q2, q3, q4, q5⟩ := c
      have cT := call_rgw (W := wr) (f := 32) (args := #[.string s, .agg #[.int .i64 v1, .int .i64 v2], .agg #[.int .i64 x1, .int .i64 x2]]) (v := .agg #[.int .i64 q0, .int .i64 q1, .string q2, .int .i64 q3, .string q4, .bool q5]) (fun W _ => (HT.out W q (v1, v2) (x1, x2) HV.out.1 HV.out.2.1).mono fun e W' ⟨u1, u2⟩ => ⟨by rw [u1, hc]; rfl, u2⟩)
      clear d0 d1 d2 d3 hc
      have g1 : (q : Int) < n := by omega
      have g2 : (q : Int) + 1 < n := by omega
      refine region_then2 HM.out (by kernel_rfl) (by kernel_rfl) (by kernel_rfl) (by kernel_rfl) rfl rfl rfl rfl ?_
      dsimp only [List.dropLast, List.getLast]
      repeat (go_big_quiet_step (exact cT _ _))
      refine wpQuiet_nil ?_
      intro _ hw'
      obtain ⟨⟨dq, osq⟩, hw''⟩ := hw'
      subst hw''
      have HX : Hid (Rx w (grow (redrawn wr dq) osq)) := HR.out.1.below (below_regrown wr dq osq)
      simp only at HX ⊢
      generalize grow (redrawn wr dq) osq = W1 at HX ⊢
      clear t0 t1 t2 t3 cT
      obtain ⟨⟨z0, z1, z2, z3, z4, z5⟩, f0, f1, f2, f3, f4, f5, hlt2⟩ := cbox HX.out.rs
      refine .inr ⟨(((((W1.setCell ⟨w.heap.size, 0, none⟩ (.int .i64 q0)).setCell ⟨w.heap.size, 1, none⟩ (.int .i64 q1)).setCell ⟨w.heap.size, 2, none⟩ (.string q2)).setCell ⟨w.heap.size, 3, none⟩ (.int .i64 q3)).setCell ⟨w.heap.size, 4, none⟩ (.string q4)).setCell ⟨w.heap.size, 5, none⟩ (.bool q5), (by go_simp), ?_⟩
      obtain ⟨k1, k2, k3, k4, k5, k6, k7⟩ := HX.out.fin (.int .i64 q0) (.int .i64 q1) (.string q2) (.int .i64 q3) (.string q4) (.bool q5)
      have HK : Hid (Below w.heap.size w ((((((W1.setCell ⟨w.heap.size, 0, none⟩ (.int .i64 q0)).setCell ⟨w.heap.size, 1, none⟩ (.int .i64 q1)).setCell ⟨w.heap.size, 2, none⟩ (.string q2)).setCell ⟨w.heap.size, 3, none⟩ (.int .i64 q3)).setCell ⟨w.heap.size, 4, none⟩ (.string q4)).setCell ⟨w.heap.size, 5, none⟩ (.bool q5))) := k1
      generalize (((((W1.setCell ⟨w.heap.size, 0, none⟩ (.int .i64 q0)).setCell ⟨w.heap.size, 1, none⟩ (.int .i64 q1)).setCell ⟨w.heap.size, 2, none⟩ (.string q2)).setCell ⟨w.heap.size, 3, none⟩ (.int .i64 q3)).setCell ⟨w.heap.size, 4, none⟩ (.string q4)).setCell ⟨w.heap.size, 5, none⟩ (.bool q5) = W2 at HK k2 k3 k4 k5 k6 k7 ⊢
      clear k1 z0 z1 z2 z3 z4 z5 f0 f1 f2 f3 f4 f5 HX
      refine .inl ⟨.int .i64 0, W2, (by dsimp only [Act.put]; go_simp), ?_⟩
      dsimp only [Act.put]
      go_wp2
      rw [HC.out]
      exact bodyPost_ret (v := rsv (⟨q0, q1, q2, q3, q4, q5⟩, 0)) (by simp [results, Tryz.results19, go_sem, rsv, chc, k2, k3, k4, k5, k6, k7]) rfl ⟨rfl, HK.out⟩
    · have hkn' : (k : Int) < (n : Int) - 1 := by omega
      obtain ⟨y, hy⟩ : ∃ y, l[k]? = some y := ⟨_, List.getElem?_eq_getElem (by have := HN.out.1; omega)⟩
      have c0 := (HR.out.2 k y hy).1
      by_cases hlt : y.1 < a
      · have hlt' : (y.1 : Int) < a := by omega
        go_wp2
        refine ⟨⟨k + 1, by simp, by omega, by first | rfl | trivial, fun j z hj hz => ?_⟩, by simp only [intOf]; omega⟩
        rcases Nat.lt_or_ge j k with e | e
        · exact HB.out j z e hz
        · obtain rfl : j = k := by omega
          rw [hy] at hz; cases hz
          exact hlt
      · have hlt' : ¬ (y.1 : Int) < a := by omega
        obtain ⟨q, v, x, hm, hq, hv, hx, hP⟩ := HS.out k hk HB.out (.inr ⟨y, hy, hlt⟩)
        have HV : Hid (l[q]? = some v ∧ l[q + 1]? = some x ∧ wordsP s a = (swapP s v x, 0)) := ⟨hv, hx, hP⟩
        clear hv hx hP
        obtain ⟨v1, v2⟩ := v
        obtain ⟨x1, x2⟩ := x
        obtain ⟨d0, d1⟩ := HR.out.2 _ _ HV.out.1
        obtain ⟨d2, d3⟩ := HR.out.2 _ _ HV.out.2.1
        simp only at d0 d1 d2 d3
        go_upto_region 8 with fail
        have t0 := cell_rgw d0
        have t1 := cell_rgw d1
        have t2 := cell_rgw d2
        have t3 := cell_rgw d3
        obtain ⟨c, hc⟩ : ∃ c, swapP s (v1, v2) (x1, x2) = c := ⟨_, rfl⟩
        have HC : Hid (wordsP s a = (c, 0)) := by show _ = _; rw [← hc]; exact HV.out.2.2
        obtain ⟨q0, q1, q2, q3, q4, q5⟩ := c
        have cT := call_rgw (W := wr) (f := 32) (args := #[.string s, .agg #[.int .i64 v1, .int .i64 v2], .agg #[.int .i64 x1, .int .i64 x2]]) (v := .agg #[.int .i64 q0, .int .i64 q1, .string q2, .int .i64 q3, .string q4, .bool q5]) (fun W _ => (HT.out W q (v1, v2) (x1, x2) HV.out.1 HV.out.2.1).mono fun e W' ⟨u1, u2⟩ => ⟨by rw [u1, hc]; rfl, u2⟩)
        clear d0 d1 d2 d3 hc
        have g1 : (q : Int) < n := by omega
        have g2 : (q : Int) + 1 < n := by omega
        refine region_then2 HM.out (by kernel_rfl) (by kernel_rfl) (by kernel_rfl) (by kernel_rfl) rfl rfl rfl rfl ?_
        dsimp only [List.dropLast, List.getLast]
        repeat (go_big_quiet_step (exact cT _ _))
        refine wpQuiet_nil ?_
        intro _ hw'
        obtain ⟨⟨dq, osq⟩, hw''⟩ := hw'
        subst hw''
        have HX : Hid (Rx w (grow (redrawn wr dq) osq)) := HR.out.1.below (below_regrown wr dq osq)
        simp only at HX ⊢
        generalize grow (redrawn wr dq) osq = W1 at HX ⊢
        clear t0 t1 t2 t3 cT
        obtain ⟨⟨z0, z1, z2, z3, z4, z5⟩, f0, f1, f2, f3, f4, f5, hlt2⟩ := cbox HX.out.rs
        refine .inr ⟨(((((W1.setCell ⟨w.heap.size, 0, none⟩ (.int .i64 q0)).setCell ⟨w.heap.size, 1, none⟩ (.int .i64 q1)).setCell ⟨w.heap.size, 2, none⟩ (.string q2)).setCell ⟨w.heap.size, 3, none⟩ (.int .i64 q3)).setCell ⟨w.heap.size, 4, none⟩ (.string q4)).setCell ⟨w.heap.size, 5, none⟩ (.bool q5), (by go_simp), ?_⟩
        obtain ⟨k1, k2, k3, k4, k5, k6, k7⟩ := HX.out.fin (.int .i64 q0) (.int .i64 q1) (.string q2) (.int .i64 q3) (.string q4) (.bool q5)
        have HK : Hid (Below w.heap.size w ((((((W1.setCell ⟨w.heap.size, 0, none⟩ (.int .i64 q0)).setCell ⟨w.heap.size, 1, none⟩ (.int .i64 q1)).setCell ⟨w.heap.size, 2, none⟩ (.string q2)).setCell ⟨w.heap.size, 3, none⟩ (.int .i64 q3)).setCell ⟨w.heap.size, 4, none⟩ (.string q4)).setCell ⟨w.heap.size, 5, none⟩ (.bool q5))) := k1
        generalize (((((W1.setCell ⟨w.heap.size, 0, none⟩ (.int .i64 q0)).setCell ⟨w.heap.size, 1, none⟩ (.int .i64 q1)).setCell ⟨w.heap.size, 2, none⟩ (.string q2)).setCell ⟨w.heap.size, 3, none⟩ (.int .i64 q3)).setCell ⟨w.heap.size, 4, none⟩ (.string q4)).setCell ⟨w.heap.size, 5, none⟩ (.bool q5) = W2 at HK k2 k3 k4 k5 k6 k7 ⊢
        clear k1 z0 z1 z2 z3 z4 z5 f0 f1 f2 f3 f4 f5 HX
        refine .inl ⟨.int .i64 0, W2, (by dsimp only [Act.put]; go_simp), ?_⟩
        dsimp only [Act.put]
        go_wp2
        rw [HC.out]
        exact bodyPost_ret (v := rsv (⟨q0, q1, q2, q3, q4, q5⟩, 0)) (by simp [results, Tryz.results19, go_sem, rsv, chc, k2, k3, k4, k5, k6, k7]) rfl ⟨rfl, HK.out⟩
end Go.Proofs.YtdggbnkhbmffoaaGreatDoor
