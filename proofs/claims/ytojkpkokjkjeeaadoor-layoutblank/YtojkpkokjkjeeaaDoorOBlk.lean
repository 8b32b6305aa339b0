/-
  Package layout's Blank, and the document's own. No conditions.
-/
import Derived.Test.YtojkpkokjkjeeaaDoorOSme
namespace Go.Proofs.YtojkpkokjkjeeaaDoor
open Go.RowKit Go.Shelf Bod Wid
set_option maxRecDepth 100000 in
set_option maxHeartbeats 1000000 in
theorem rco_all (x : Int) (w : World) : Calls Tryd.prog 35 #[.int .i64 x] w fun e w' => e = .returned (.int .i64 (couW x)) ∧ w' = w := by
  unfold couW
  go_enter Tryd.func35, Tryd.ntmps35
  go_wp2
  go_ret
  exact ⟨rfl, rfl⟩
/-- so many rows without cells -/
def bls (n : Nat) : List (List Cel) := List.replicate n []
theorem fr_bls {w Y : World} {v : Value} {n : Nat} (h : Y.ownsRow w.heap.size 42 1 v n (List.replicate n (.slice none 0 0))) : Fr w v (bls n) Y := by
  refine ⟨List.replicate n ([], .slice none 0 0), by simp [bls], by simpa using h, fun o ho => ?_, ?_⟩
  · rw [(List.mem_replicate.1 ho).2]
    exact World.ownsRow_nil _ _ _ _
  · rw [List.pairwise_iff_getElem]
    intro i j hi hj _ g e
    rw [List.getElem_replicate] at e
    cases e
/-- a frame's box is told: its cells, the row, what stays -/
theorem fr_fin {w X : World} {fb n : Nat} {W r c : Int} {v : Value} {vs : Array Value} {xs : List Value} {b : Nat} (hf : X.heap[fb]? = some (.cells vs 30 (0, 0))) (hb : Below w.heap.size w X) (hw : w.heap.size ≤ fb) (ho : X.ownsRow b 42 1 v n xs) (_ : vs.size = 4 := by rfl) :
    ((((X.setCell ⟨fb, 0, none⟩ (.int .i64 W)).setCell ⟨fb, 1, none⟩ v).setCell ⟨fb, 2, none⟩ (.int .i64 r)).setCell ⟨fb, 3, none⟩ (.int .i64 c)).heap[fb]? = some (.cells #[.int .i64 W, v, .int .i64 r, .int .i64 c] 30 (0, 0)) ∧
    ((((X.setCell ⟨fb, 0, none⟩ (.int .i64 W)).setCell ⟨fb, 1, none⟩ v).setCell ⟨fb, 2, none⟩ (.int .i64 r)).setCell ⟨fb, 3, none⟩ (.int .i64 c)).ownsRow b 42 1 v n xs ∧
    Below w.heap.size w ((((X.setCell ⟨fb, 0, none⟩ (.int .i64 W)).setCell ⟨fb, 1, none⟩ v).setCell ⟨fb, 2, none⟩ (.int .i64 r)).setCell ⟨fb, 3, none⟩ (.int .i64 c)) := by
  rename_i hvs
  obtain ⟨v0, v1, v2, v3, rfl⟩ : ∃ v0 v1 v2 v3, vs = #[v0, v1, v2, v3] := by
    obtain ⟨l⟩ := vs
    match l, hvs with
    | [v0, v1, v2, v3], _ => exact ⟨v0, v1, v2, v3, rfl⟩
  have g1 := grown4 X fb (.int .i64 W) v (.int .i64 r) (.int .i64 c)
  refine ⟨set4 hf, o_keep ho (fun g e => ?_), hb.grown g1 hb.size (fun k e => by cases e; exact hw)⟩
  obtain ⟨⟨cur, hc⟩, -, hl⟩ := o_blk ho e
  refine g1.block g hl (fun e2 => ?_)
  have : g = fb := by injection e2
  rw [this, hf] at hc
  injection hc with hc
  injection hc with _ hc
  exact absurd hc (by decide)
set_option maxRecDepth 100000 in
set_option maxHeartbeats 1000000 in
theorem bln_any (W0 R0 : Int) (w : World) (Wn Rn : Nat) (hW : couW W0 = Wn) (hR : couW R0 = Rn) : Calls Tryd.prog 17 #[.int .i64 W0, .int .i64 R0] w fun e Y => ∃ ov, e = .returned (.agg #[.int .i64 Wn, ov, .int .i64 0, .int .i64 0]) ∧ Hid (Fr w ov (bls Rn) Y ∧ Below w.heap.size w Y) := by
  obtain ⟨i0, hi0, hz0, hz1, hz2⟩ := info_parts infoLCE
  have hb : Rn ≤ 65535 := by have := couW_in R0; omega
  have C1 : Hid (∀ X, Calls Tryd.prog 32 #[.int .i64 W0] X fun e w' => e = .returned (.int .i64 Wn) ∧ X = w') := fun X => by rw [← hW]; exact (cou_any W0 X).mono fun e w' h => ⟨h.1, h.2.symm⟩
  have C2 : Hid (∀ X, Calls Tryd.prog 32 #[.int .i64 R0] X fun e w' => e = .returned (.int .i64 Rn) ∧ X = w') := fun X => by rw [← hR]; exact (cou_any R0 X).mono fun e w' h => ⟨h.1, h.2.symm⟩
  have K1 : True := trivial
  have H0 : Hid (Below w.heap.size w (w.alloc (.cells #[.int .i64 0, .slice none 0 0, .int .i64 0, .int .i64 0] 30)) ∧ (w.alloc (.cells #[.int .i64 0, .slice none 0 0, .int .i64 0, .int .i64 0] 30)).heap[w.heap.size]? = some (.cells #[.int .i64 0, .slice none 0 0, .int .i64 0, .int .i64 0] 30 (0, 0))) := ⟨(Below.refl _ w).alloc (Nat.le_refl _) _, World.alloc_heap_new _ _⟩
  clear hW hR
  go_enter Tryd.func17, Tryd.ntmps17
  go_upto_region 1 with (fail)
  generalize w.alloc (.cells #[.int .i64 0, .slice none 0 0, .int .i64 0, .int .i64 0] 30) = X0 at H0 ⊢
  obtain ⟨⟨x0, x1, x2, x3⟩, f0, f1, f2, f3⟩ := box4 H0.out.2
  have hsz := H0.out.1.size
  go_wp2_with (first | (go_at_call 32; clear K1; refine (C1.out _).mono ?_; clear C1; rintro e w1 ⟨rfl, rfl⟩) | (go_at_call 32; refine (C2.out _).mono ?_; clear C2; rintro e w1 ⟨rfl, rfl⟩) | (at_make; refine wpList_make_full _ rfl _ _ 26 rfl w.heap.size 42 i0 _ 1 Tryd.underlying26 hi0 hz0 hz1 .i64 .i64 _ _ Rn rfl rfl rfl rfl (by rw [hz2]; omega) (by unfold maxLen; omega) hsz ?_; intro w6 hown hgrow; have HG : Hid (w6.ownsRow w.heap.size 42 1 (.slice (some ⟨X0.heap.size, 0, none⟩) Rn Rn) Rn (List.replicate Rn (.slice none 0 0)) ∧ X0.grownBy w6 none) := ⟨by have := hown; rwa [show (madeCells (Value.slice none 0 0).cells (Rn * 1)).toList = List.replicate Rn (.slice none 0 0) by rw [Nat.mul_one]; exact toList_madeCells_one _ _] at this, hgrow⟩; clear hown hgrow x0 x1 x2 x3 f0 f1 f2 f3; obtain ⟨⟨x0, x1, x2, x3⟩, f0, f1, f2, f3⟩ := box4 ((HG.out.2.block _ (Array.getElem?_eq_some_iff.1 H0.out.2).1 (by simp)).trans H0.out.2)))
  obtain ⟨hown, hgrow⟩ := HG.out
  have hb6 : w6.heap[w.heap.size]? = some (.cells #[.int .i64 0, .slice none 0 0, .int .i64 0, .int .i64 0] 30 (0, 0)) := (hgrow.block _ (Array.getElem?_eq_some_iff.1 H0.out.2).1 (by simp)).trans H0.out.2
  obtain ⟨h1, h2, h3⟩ := fr_fin (w := w) (X := w6) (fb := w.heap.size) (W := Wn) (r := 0) (c := 0) (v := .slice (some ⟨X0.heap.size, 0, none⟩) Rn Rn) (n := Rn) hb6 (H0.out.1.grown hgrow hsz (fun k e => by cases e)) (Nat.le_refl _) hown
  obtain ⟨⟨c0, c1, c2, c3⟩, -⟩ := box4 h1
  exact bodyPost_ret (v := .agg #[.int .i64 Wn, .slice (some ⟨X0.heap.size, 0, none⟩) Rn Rn, .int .i64 0, .int .i64 0]) (by simp [results, Tryd.results17, go_sem, c0, c1, c2, c3]) rfl ⟨_, rfl, fr_bls h2, h3⟩
/-- while the document's Blank works: the answer's box, the frame's, so many rows -/
structure Rb (w Y : World) (Wn k : Nat) : Prop where
  bel : Below w.heap.size w Y
  b4 : Y.heap[w.heap.size]? = some (.cells #[.int .i64 0, .slice none 0 0, .int .i64 0, .int .i64 0] 30 (0, 0))
  bx : ∃ v, Y.heap[w.heap.size + 1]? = some (.cells #[.int .i64 Wn, v, .int .i64 0, .int .i64 0] 30 (0, 0)) ∧ Y.ownsRow w.heap.size 42 1 v k (List.replicate k (.slice none 0 0))
theorem Rb.app {w Y Z : World} {Wn k : Nat} {v v' : Value} {o : Obj} (h : Rb w Y Wn k) (hv : Y.heap[w.heap.size + 1]? = some (.cells #[.int .i64 Wn, v, .int .i64 0, .int .i64 0] 30 (0, 0))) (ho : Y.ownsRow w.heap.size 42 1 v k (List.replicate k (.slice none 0 0))) (hr : Z.ownsRow w.heap.size 42 1 v' (k + 1) (List.replicate k (.slice none 0 0) ++ [.slice none 0 0])) (hg : (Y.alloc o).grownBy Z v.ownBlock) (_ : v'.ownBlock = v.ownBlock ∨ v'.ownBlock = some (Y.alloc o).heap.size) :
    Z.heap[w.heap.size + 1]? = some (.cells #[.int .i64 Wn, v, .int .i64 0, .int .i64 0] 30 (0, 0)) ∧ Rb w (Z.setCell ⟨w.heap.size + 1, 1, none⟩ v') Wn (k + 1) := by
  have hg := o_grown2 (World.grownBy_alloc Y o _) hg
  have kp : ∀ {b : Nat} {cs : Array Value}, Y.heap[b]? = some (.cells cs 30 (0, 0)) → Z.heap[b]? = some (.cells cs 30 (0, 0)) := fun hb => (hg.block _ (Array.getElem?_eq_some_iff.1 hb).1 (fun e => o_nb (by decide) ho e.symm hb rfl)).trans hb
  have hZ := kp hv
  have g2 := gcell Z (w.heap.size + 1) 1 v'
  refine ⟨hZ, (h.bel.grown hg h.bel.size (fun b e => (o_blk ho e).2.1)).setCell (p := ⟨w.heap.size + 1, 1, none⟩) (Nat.le_succ _) _, (oset_ne (b := w.heap.size + 1) (by omega)).trans (kp h.b4), v', by simpa using set1 (i := 1) v' hZ, ?_⟩
  rw [List.replicate_succ']
  exact o_keep hr (fun b e => g2.block b (o_blk hr e).2.2 (fun e2 => o_nb (by decide) hr e hZ (by injection e2)))
set_option maxRecDepth 100000 in
set_option maxHeartbeats 1000000 in
theorem rbl_any (W0 R0 : Int) (w : World) (Wn Rn : Nat) (hW : couW W0 = Wn) (hR : couW R0 = Rn) : Calls Tryd.prog 18 #[.int .i64 W0, .int .i64 R0] w fun e Y => ∃ ov, e = .returned (.agg #[.int .i64 Wn, ov, .int .i64 0, .int .i64 0]) ∧ Hid (Fr w ov (bls Rn) Y ∧ Below w.heap.size w Y) := by
  obtain ⟨i0, hi0, hz0, hz1, hz2⟩ := info_parts infoLCE
  have hb : Rn ≤ 65535 := by have := couW_in R0; omega
  have C1 : Hid (∀ X, Calls Tryd.prog 35 #[.int .i64 W0] X fun e w' => e = .returned (.int .i64 Wn) ∧ X = w') := fun X => by rw [← hW]; exact (rco_all W0 X).mono fun e w' h => ⟨h.1, h.2.symm⟩
  have C2 : Hid (∀ X, Calls Tryd.prog 35 #[.int .i64 R0] X fun e w' => e = .returned (.int .i64 Rn) ∧ X = w') := fun X => by rw [← hR]; exact (rco_all R0 X).mono fun e w' h => ⟨h.1, h.2.symm⟩
  clear hW hR
  go_enter Tryd.func18, Tryd.ntmps18
  go_wp2_with (go_at_call 35; refine (C1.out _).mono ?_; clear C1; rintro e w1 ⟨rfl, rfl⟩)
  have H0 : Hid (Below w.heap.size w ((w.alloc (.cells #[.int .i64 0, .slice none 0 0, .int .i64 0, .int .i64 0] 30)).alloc (.cells #[.int .i64 Wn, .slice none 0 0, .int .i64 0, .int .i64 0] 30)) ∧ ((w.alloc (.cells #[.int .i64 0, .slice none 0 0, .int .i64 0, .int .i64 0] 30)).alloc (.cells #[.int .i64 Wn, .slice none 0 0, .int .i64 0, .int .i64 0] 30)).heap[w.heap.size]? = some (.cells #[.int .i64 0, .slice none 0 0, .int .i64 0, .int .i64 0] 30 (0, 0)) ∧ ((w.alloc (.cells #[.int .i64 0, .slice none 0 0, .int .i64 0, .int .i64 0] 30)).alloc (.cells #[.int .i64 Wn, .slice none 0 0, .int .i64 0, .int .i64 0] 30)).heap[w.heap.size + 1]? = some (.cells #[.int .i64 Wn, .slice none 0 0, .int .i64 0, .int .i64 0] 30 (0, 0))) := by
    obtain ⟨q0, q1⟩ := push2 w.heap (.cells #[.int .i64 0, .slice none 0 0, .int .i64 0, .int .i64 0] 30) (.cells #[.int .i64 Wn, .slice none 0 0, .int .i64 0, .int .i64 0] 30)
    exact ⟨((Below.refl _ w).alloc (Nat.le_refl _) _).alloc (by simp) _, q0, q1⟩
  generalize ((w.alloc (.cells #[.int .i64 0, .slice none 0 0, .int .i64 0, .int .i64 0] 30)).alloc (.cells #[.int .i64 Wn, .slice none 0 0, .int .i64 0, .int .i64 0] 30)) = W0' at H0 ⊢
  go_loopw [6] (fun t wr => ∃ k : Nat, k ≤ Rn ∧ t = .int .i64 k ∧ Hid (Rb w wr Wn k)) (fun t _ => Rn - (intOf t).toNat)
  case atStart => exact ⟨0, Nat.zero_le _, rfl, H0.out.1, H0.out.2.1, _, H0.out.2.2, World.ownsRow_nil _ _ _ _⟩
  case round =>
    clear H0
    obtain ⟨k, hk, rfl, HB⟩ := hrel
    obtain ⟨v, hv, ho⟩ := HB.out.bx
    obtain ⟨va, vk, hvv⟩ := o_slice ho
    subst hvv
    obtain ⟨⟨p0, p1, p2, p3⟩, f0, f1, f2, f3⟩ := box4 hv
    have l1 := World.block_lt_of_cell? wr _ p1
    have hbw := HB.out.bel.size
    by_cases hlt : k < Rn
    · have hlt' : (k : Int) < Rn := by omega
      have HV : Hid (wr.heap[w.heap.size + 1]? = some (.cells #[.int .i64 Wn, .slice va k vk, .int .i64 0, .int .i64 0] 30 (0, 0)) ∧ wr.ownsRow w.heap.size 42 1 (.slice va k vk) k (List.replicate k (.slice none 0 0)) ∧ k < Rn) := ⟨hv, ho, hlt⟩
      clear hv hlt
      go_wp2_with (first | (go_at_call 35; refine (C2.out _).mono ?_; rintro e w1 ⟨rfl, rfl⟩) | (at_builtin; refine wpList_append_own_at _ rfl _ _ 26 rfl w.heap.size 42 i0 _ 1 24 Tryd.underlying26 hi0 hz0 hz1 hz2 rfl (by decide) _ _ _ rfl (ho.alloc _) ⟨wr.heap.size, 0, none⟩ 1 1 [.slice none 0 0] rfl rfl (World.news_of_block (World.alloc_heap_new _ _)) (by simp [Value.oneCell']) (by unfold maxLen; omega) (by omega) (by simp; omega) ?_; intro v' w6 hown' hgrow _ hob; have HA : Hid _ := HB.out.app HV.out.1 HV.out.2.1 hown' hgrow hob; obtain ⟨g', q', hv'⟩ := o_slice hown'; subst hv'; clear hown' hgrow hob p0 p1 p2 p3 f0 f1 f2 f3; obtain ⟨⟨p0, p1, p2, p3⟩, f0, f1, f2, f3⟩ := box4 HA.out.1))
      go_roundw
      case rel => exact ⟨k + 1, by have := HV.out.2.2; omega, by go_num, HA.out.2⟩
      case measure => have := HV.out.2.2; simp [intOf]; omega
    · have : k = Rn := by omega
      subst this
      obtain ⟨⟨z0, z1, z2, z3⟩, h0, h1, h2, h3⟩ := box4 HB.out.b4
      have HV : Hid (wr.ownsRow w.heap.size 42 1 (.slice va k vk) k (List.replicate k (.slice none 0 0))) := ho
      clear hv ho
      go_wp2_with (go_at_call 35; refine (C2.out _).mono ?_; rintro e w1 ⟨rfl, rfl⟩)
      obtain ⟨e1, e2, e3⟩ := fr_fin (w := w) (X := wr) (fb := w.heap.size) (W := Wn) (r := 0) (c := 0) (v := .slice va k vk) HB.out.b4 HB.out.bel (Nat.le_refl _) HV.out
      obtain ⟨⟨c0, c1, c2, c3⟩, -⟩ := box4 e1
      exact bodyPost_ret (v := .agg #[.int .i64 Wn, .slice va k vk, .int .i64 0, .int .i64 0]) (by simp [results, Tryd.results18, go_sem, c0, c1, c2, c3]) rfl ⟨_, rfl, fr_bls e2, e3⟩
end Go.Proofs.YtojkpkokjkjeeaaDoor
