/-
  The document's own changes (layer 17): Does, cut, kill, line, killed, step, steps: what FChg tells. Conditions: the text has at most 2097152 bytes.
-/
import Derived.Test.YtdggbnkhbmffoaaGreatDoorPkFA
import Derived.Test.YtdggbnkhbmffoaaGreatDoorFRl
import Derived.Test.YtdggbnkhbmffoaaGreatDoorFSwp
import Derived.Test.YtdggbnkhbmffoaaGreatDoorPkYL
import Derived.Test.YtdggbnkhbmffoaaGreatDoorPkWR
namespace Go.Proofs.YtdggbnkhbmffoaaGreatDoor
open Go.RowKit Go.Shelf Go.Sort Bod Wid

set_option maxRecDepth 100000 in
set_option maxHeartbeats 1000000 in
theorem rdoes_any (k : Int) (w : World) : Calls Tryz.prog 11 #[.int .i64 k] w fun e W' => e = .returned (.bool (doesP k)) ∧ Below w.heap.size w W' := by
  by_cases hd : doesP k = true
  · rw [hd]
    have h := of_decide_eq_true hd
    have h : k = 14 ∨ k = 15 ∨ k = 16 ∨ k = 17 ∨ k = 18 ∨ k = 19 ∨ k = 20 ∨ k = 21 ∨ k = 24 ∨ k = 25 ∨ k = 26 ∨ k = 27 ∨ k = 28 := by omega
    clear hd
    rcases h with rfl | rfl | rfl | rfl | rfl | rfl | rfl | rfl | rfl | rfl | rfl | rfl | rfl <;>
    · go_enter Tryz.func11, Tryz.ntmps11
      go_wp2
      go_ret
      exact ⟨rfl, Below.refl _ _⟩
  · have hf : doesP k = false := by simpa using hd
    rw [hf]
    have h := of_decide_eq_false hf
    have h14 : k ≠ 14 := by omega
    have h15 : k ≠ 15 := by omega
    have h16 : k ≠ 16 := by omega
    have h17 : k ≠ 17 := by omega
    have h18 : k ≠ 18 := by omega
    have h19 : k ≠ 19 := by omega
    have h20 : k ≠ 20 := by omega
    have h21 : k ≠ 21 := by omega
    have h24 : k ≠ 24 := by omega
    have h25 : k ≠ 25 := by omega
    have h26 : k ≠ 26 := by omega
    have h27 : k ≠ 27 := by omega
    have h28 : k ≠ 28 := by omega
    clear hd hf h
    go_enter Tryz.func11, Tryz.ntmps11
    go_wp2
    go_ret
    refine ⟨?_, Below.refl _ _⟩
    show Ending.returned (Value.bool (k == 26 || k == 27 || k == 28)) = _
    rw [show (k == 26) = false by simpa using h26, show (k == 27) = false by simpa using h27, show (k == 28) = false by simpa using h28]
    rfl
/-- the answer's box, still zero -/
structure Rx (w W : World) : Prop where
  bel : Below w.heap.size w W
  rs : W.heap[w.heap.size]? = some (.cells #[.int .i64 0, .int .i64 0, .string ⟨#[]⟩, .int .i64 0, .string ⟨#[]⟩, .bool false] 37 (0, 0))
theorem Rx.below {w W X : World} (h : Rx w W) (hb : Below W.heap.size W X) : Rx w X := ⟨below_on h.bel hb, (hb.block _ (Array.getElem?_eq_some_iff.1 h.rs).1).trans h.rs⟩
theorem rx0 (w : World) : Rx w (w.alloc (.cells #[.int .i64 0, .int .i64 0, .string ⟨#[]⟩, .int .i64 0, .string ⟨#[]⟩, .bool false] 37)) := ⟨(Below.refl _ w).alloc (Nat.le_refl _) _, World.alloc_heap_new _ _⟩
theorem Rx.fin {w W : World} (h : Rx w W) (u0 u1 u2 u3 u4 u5 : Value) : let W' := (((((W.setCell ⟨w.heap.size, 0, none⟩ u0).setCell ⟨w.heap.size, 1, none⟩ u1).setCell ⟨w.heap.size, 2, none⟩ u2).setCell ⟨w.heap.size, 3, none⟩ u3).setCell ⟨w.heap.size, 4, none⟩ u4).setCell ⟨w.heap.size, 5, none⟩ u5
    Below w.heap.size w W' ∧ (W'.cell? ⟨w.heap.size, 0, none⟩ = some u0 ∧ W'.cell? ⟨w.heap.size, 1, none⟩ = some u1 ∧ W'.cell? ⟨w.heap.size, 2, none⟩ = some u2 ∧ W'.cell? ⟨w.heap.size, 3, none⟩ = some u3 ∧ W'.cell? ⟨w.heap.size, 4, none⟩ = some u4 ∧ W'.cell? ⟨w.heap.size, 5, none⟩ = some u5) := by
  obtain ⟨q1, q2⟩ := cset u0 u1 u2 u3 u4 u5 h.bel (Nat.le_refl _) h.rs
  exact ⟨q1, (cbox q2).1⟩
theorem Rx.set {w W : World} (h : Rx w W) {b : Nat} (hb : w.heap.size < b) (i : Nat) (u : Value) : Rx w (W.setCell ⟨b, i, none⟩ u) :=
  ⟨h.bel.setCell (by show w.heap.size ≤ b; omega) _, by rw [set_ne _ (by omega)]; exact h.rs⟩
theorem Rx.sz {w W : World} (h : Rx w W) : w.heap.size < W.heap.size := (Array.getElem?_eq_some_iff.1 h.rs).1
/-- .. and the box of a change under way -/
structure Rk (w : World) (b : Nat) (c : Chg) (W : World) : Prop where
  f : Rx w W
  bx : W.heap[b]? = some (.cells (chc c) 37 (0, 0))
  hb : w.heap.size < b
theorem Rx.new {w W : World} (h : Rx w W) (c : Chg) : Rk w W.heap.size c (W.alloc (.cells (chc c) 37)) :=
  ⟨h.below ((Below.refl _ W).alloc (Nat.le_refl _) _), World.alloc_heap_new _ _, h.sz⟩
theorem Rk.get {w W : World} {b : Nat} {c : Chg} (h : Rk w b c W) : (W.cell? ⟨b, 0, none⟩ = some (.int .i64 c.at') ∧ W.cell? ⟨b, 1, none⟩ = some (.int .i64 c.cut) ∧ W.cell? ⟨b, 2, none⟩ = some (.string c.put) ∧ W.cell? ⟨b, 3, none⟩ = some (.int .i64 c.cur) ∧ W.cell? ⟨b, 4, none⟩ = some (.string c.kill) ∧ W.cell? ⟨b, 5, none⟩ = some (.bool c.ahead)) ∧ W.frozen? ⟨b, 4, none⟩ = false ∧ W.frozen? ⟨b, 5, none⟩ = false ∧ b < W.heap.size := by
  have := cbox h.bx
  exact ⟨this.1, this.2.2.2.2.2.1, this.2.2.2.2.2.2.1, this.2.2.2.2.2.2.2⟩
theorem Rk.set {w W : World} {b : Nat} {c : Chg} (h : Rk w b c W) (x : ByteArray) (y : Bool) : Rk w b { c with kill := x, ahead := y } ((W.setCell ⟨b, 4, none⟩ (.string x)).setCell ⟨b, 5, none⟩ (.bool y)) :=
  ⟨(h.f.set h.hb _ _).set h.hb _ _, set1 _ (set1 _ h.bx), h.hb⟩
set_option maxRecDepth 100000 in
set_option maxHeartbeats 1000000 in
theorem rcut_any (w : World) (a b : Nat) (h : a ≤ b) (hb : b ≤ 1099511627776) :
    Calls Tryz.prog 21 #[.int .i64 a, .int .i64 b] w fun e W' => e = .returned (.agg (chc ⟨a, b - a, ⟨#[]⟩, a, ⟨#[]⟩, false⟩)) ∧ Below w.heap.size w W' := by
  have e1 : ((b - a : Nat) : Int) = (b : Int) - a := by omega
  go_enter Tryz.func21, Tryz.ntmps21
  go_wp2
  refine bodyPost_ret (v := .agg (chc ⟨a, b - a, ⟨#[]⟩, a, ⟨#[]⟩, false⟩)) (by simp [results, Tryz.results21, go_sem, chc]; omega) rfl ⟨rfl, (Below.refl _ w).alloc (Nat.le_refl _) _⟩
set_option maxRecDepth 100000 in
set_option maxHeartbeats 1000000 in
theorem rkill_any (w : World) (s : ByteArray) (a b : Nat) (y : Bool) (h : a ≤ b) (hb : b ≤ s.size) (hs : s.size ≤ 1099511627776) :
    Calls Tryz.prog 22 #[.string s, .int .i64 a, .int .i64 b, .bool y] w fun e W' => e = .returned (.agg (chc ⟨a, b - a, ⟨#[]⟩, a, s.extract a b, y⟩)) ∧ Below w.heap.size w W' := by
  have HF : Hid (Rx w (w.alloc (.cells #[.int .i64 0, .int .i64 0, .string ⟨#[]⟩, .int .i64 0, .string ⟨#[]⟩, .bool false] 37))) := rx0 w
  have C1 : Hid (∀ W, Rx w W → Calls Tryz.prog 21 #[.int .i64 a, .int .i64 b] W fun e W' => e = .returned (.agg #[.int .i64 a, .int .i64 (b - a : Nat), .string ⟨#[]⟩, .int .i64 a, .string ⟨#[]⟩, .bool false]) ∧ Hid (Rx w W')) := fun W hW => (rcut_any W a b h (by omega)).mono fun e W' ⟨q1, q2⟩ => ⟨q1, hW.below q2⟩
  have e2 : (a : Int) ≤ b := by omega
  have e3 : (b : Int) ≤ s.size := by omega
  go_enter Tryz.func22, Tryz.ntmps22
  go_upto_region 2 with (go_at_call 21; refine (C1.out _ HF.out).mono ?_; clear C1 HF; rintro e w1 ⟨rfl, HF⟩)
  have HG : Hid (Rk w w1.heap.size ⟨a, b - a, ⟨#[]⟩, a, ⟨#[]⟩, false⟩ (w1.alloc (.cells #[.int .i64 a, .int .i64 (b - a : Nat), .string ⟨#[]⟩, .int .i64 a, .string ⟨#[]⟩, .bool false] 37))) := HF.out.new _
  generalize w1.alloc (.cells #[.int .i64 a, .int .i64 (b - a : Nat), .string ⟨#[]⟩, .int .i64 a, .string ⟨#[]⟩, .bool false] 37) = w2 at HG ⊢
  generalize w1.heap.size = g at HG ⊢
  clear HF
  obtain ⟨⟨y0, y1, y2, y3, y4, y5⟩, g4, g5, hl⟩ := HG.out.get
  simp only at y0 y1 y2 y3 y4 y5
  go_upto_region 4 with fail
  have HZ : Hid (Rk w g ⟨a, b - a, ⟨#[]⟩, a, s.extract a b, y⟩ ((w2.setCell ⟨g, 4, none⟩ (.string (s.extract a b))).setCell ⟨g, 5, none⟩ (.bool y))) := HG.out.set _ _
  generalize (w2.setCell ⟨g, 4, none⟩ (.string (s.extract a b))).setCell ⟨g, 5, none⟩ (.bool y) = w4 at HZ ⊢
  clear HG y0 y1 y2 y3 y4 y5 g4 g5 hl
  obtain ⟨⟨y0, y1, y2, y3, y4, y5⟩, -⟩ := HZ.out.get
  obtain ⟨⟨z0, z1, z2, z3, z4, z5⟩, f0, f1, f2, f3, f4, f5, hl⟩ := cbox HZ.out.f.rs
  simp only at y0 y1 y2 y3 y4 y5
  go_wp2
  obtain ⟨k1, k2, k3, k4, k5, k6, k7⟩ := HZ.out.f.fin (.int .i64 a) (.int .i64 (b - a : Nat)) (.string ⟨#[]⟩) (.int .i64 a) (.string (s.extract a b)) (.bool y)
  exact bodyPost_ret (v := .agg (chc ⟨a, b - a, ⟨#[]⟩, a, s.extract a b, y⟩)) (by simp [results, Tryz.results22, go_sem, chc, k2, k3, k4, k5, k6, k7]) rfl ⟨rfl, k1⟩
set_option maxRecDepth 100000 in
set_option maxHeartbeats 1000000 in
theorem rline_at (w : World) (s : ByteArray) (a : Nat) (ha : cbZ s a = true) (hs : s.size ≤ 1073741824) :
    Calls Tryz.prog 17 #[.string s, .int .i64 a] w fun e W' => e = .returned (.agg #[.int .i64 (lnP s a).1, .int .i64 (lnP s a).2]) ∧ Below w.heap.size w W' := by
  have hp := lnP_pl ha
  have hal := cb_le ha
  obtain ⟨p, hp1⟩ : ∃ p, (lnP s a).1 = p := ⟨_, rfl⟩
  obtain ⟨b, hb1⟩ : ∃ b, (lnP s a).2 = b := ⟨_, rfl⟩
  rw [hp1, hb1] at hp
  rw [hp1, hb1]
  clear hp1 hb1
  obtain ⟨n, hn⟩ : ∃ n, cn s 0 a = n := ⟨_, rfl⟩
  obtain ⟨W0, hW0⟩ : ∃ W0, w.alloc (.cells #[.int .i64 0, .int .i64 0] 53) = W0 := ⟨_, rfl⟩
  have HR : Hid (Rb w 0 0 W0) := by show Rb _ _ _ _; rw [← hW0]; exact ⟨(Below.refl _ w).alloc (Nat.le_refl _) _, World.alloc_heap_new _ _⟩
  have C1 : Hid (∀ W, Rb w 0 0 W → Calls Tryz.prog 29 #[.string s, .int .i64 a] W fun e W' => e = .returned (.tuple #[.int .i64 n, .int .i64 0]) ∧ Hid (Rb w 0 0 W')) := fun W hW => (rof_any s hs a W).mono fun e W' ⟨q1, q2⟩ => ⟨by rw [q1]; unfold ofv; rw [if_pos (by omega), if_pos (by omega), Int.toNat_natCast, hn], hW.below q2⟩
  have C2 : Hid (∀ W, Rb w 0 0 W → Calls Tryz.prog 30 #[.string s, .int .i64 n] W fun e W' => e = .returned (.tuple #[.agg #[.int .i64 p, .int .i64 b], .int .i64 0]) ∧ Hid (Rb w 0 0 W')) := fun W hW => (rspan_any s hs n (o := some (p, b)) (by rw [← hn]; exact hp.sp) W).mono fun e W' ⟨q1, q2⟩ => ⟨q1, hW.below q2⟩
  clear hp hal ha hn hs
  go_enter Tryz.func17, Tryz.ntmps17
  go_upto_region 3 with (first | (go_at_call 29; refine (C1.out _ HR.out).mono ?_; clear C1 HR hW0; rintro e w1 ⟨rfl, HR⟩) | (go_at_call 30; refine (C2.out _ HR.out).mono ?_; clear C2 HR; rintro e w1 ⟨rfl, HR⟩))
  have HQ : Hid (Rb w 0 0 (w1.alloc (.cells #[.int .i64 p, .int .i64 b] 53)) ∧ (w1.alloc (.cells #[.int .i64 p, .int .i64 b] 53)).heap[w1.heap.size]? = some (.cells #[.int .i64 p, .int .i64 b] 53 (0, 0))) := ⟨HR.out.below ((Below.refl _ w1).alloc (Nat.le_refl _) _), World.alloc_heap_new _ _⟩
  generalize w1.alloc (.cells #[.int .i64 p, .int .i64 b] 53) = w2 at HQ ⊢
  generalize w1.heap.size = g at HQ ⊢
  obtain ⟨u0, u1⟩ := box2' HQ.out.2
  obtain ⟨z0, z1, z2, z3, z4⟩ := HQ.out.1.get
  go_wp2
  have hS := HQ.out.1.set p b
  obtain ⟨y0, y1, -⟩ := hS.get
  exact bodyPost_ret (v := .agg #[.int .i64 p, .int .i64 b]) (by simp [results, Tryz.results17, go_sem, y0, y1]) rfl ⟨rfl, hS.bel⟩
set_option maxRecDepth 100000 in
set_option maxHeartbeats 1000000 in
theorem rkilled_any (w : World) (s : ByteArray) (a : Nat) (ha : cbZ s a = true) (hs : s.size ≤ 2097152) :
    Calls Tryz.prog 60 #[.string s, .int .i64 a] w fun e W' => e = .returned (.int .i64 (lnA s a)) ∧ Below w.heap.size w W' := by
  have hl := (lnP_pl ha).le
  have C1 : Hid (Calls Tryz.prog 17 #[.string s, .int .i64 a] w fun e W' => e = .returned (.agg #[.int .i64 (lnP s a).1, .int .i64 (lnP s a).2]) ∧ Hid (Below w.heap.size w W')) := rline_at w s a ha (by omega)
  have C2 : Hid (∀ W, Below w.heap.size w W → Calls Tryz.prog 57 #[.string s, .int .i64 a] W fun e W' => e = .returned (.int .i64 (nxt s a)) ∧ Hid (Below w.heap.size w W')) := fun W hW => (rnext_any s a hs W).mono fun e W' ⟨m, k1, k2, k3⟩ => ⟨by rw [k1, k2.uniq (nxt_is s a)], below_on hW k3⟩
  have hn := (nxt_ok s a).2.2.2
  unfold lnA
  have HFD : ∀ (x y : Nat) W, (Instr.field 53 (.agg #[.int .i64 x, .int .i64 y]) 1).run Tryz.prog W = .ok (.int .i64 y) W := fun x y W => by kernel_rfl
  generalize (lnP s a).1 = p at *
  generalize (lnP s a).2 = b at *
  generalize nxt s a = m at *
  have hfd := HFD p b
  clear HFD
  by_cases h1 : a < b
  · rw [if_neg (by omega)]
    have e1 : (a : Int) < b := by omega
    clear C2 hn
    go_enter Tryz.func60, Tryz.ntmps60
    go_wp2_with (go_at_call 17; refine C1.out.mono ?_; clear C1; rintro e w1 ⟨rfl, HB⟩)
    go_ret
    exact ⟨rfl, HB.out⟩
  · obtain rfl : b = a := by omega
    rw [if_pos rfl]
    by_cases h2 : b = s.size
    · have := hn (by omega)
      subst h2
      subst this
      clear C2 hn
      have e1 : ¬ (s.size : Int) < s.size := by omega
      go_enter Tryz.func60, Tryz.ntmps60
      go_wp2_with (go_at_call 17; refine C1.out.mono ?_; clear C1; rintro e w1 ⟨rfl, HB⟩)
      go_ret
      exact ⟨rfl, HB.out⟩
    · have e1 : ¬ (b : Int) = s.size := by omega
      have e2 : ¬ (b : Int) < b := by omega
      clear hn
      go_enter Tryz.func60, Tryz.ntmps60
      go_wp2_with (first | (go_at_call 17; refine C1.out.mono ?_; clear C1; rintro e w1 ⟨rfl, HB⟩) | (go_at_call 57; refine (C2.out _ HB.out).mono ?_; clear C2 HB; rintro e w2 ⟨rfl, HB⟩))
      go_ret
      exact ⟨rfl, HB.out⟩
theorem held_self {s : ByteArray} {a : Nat} (h : a ≤ s.size) : heldN s a = a := by unfold heldN; omega
set_option maxRecDepth 100000 in
set_option maxHeartbeats 1000000 in
theorem rstep_any (w : World) (s : ByteArray) (k : Int) (a : Nat) (ha : cbZ s a = true) (hs : s.size ≤ 2097152) :
    Calls Tryz.prog 28 #[.int .i64 k, .string s, .int .i64 a] w fun e W' => e = .returned (.int .i64 (stF k s a)) ∧ Below w.heap.size w W' := by
  have hal := cb_le ha
  have C1 : Hid (Calls Tryz.prog 57 #[.string s, .int .i64 a] w fun e W' => e = .returned (.int .i64 (nxt s a)) ∧ Hid (Below w.heap.size w W')) := (rnext_any s a hs w).mono fun e W' ⟨m, k1, k2, k3⟩ => ⟨by rw [k1, k2.uniq (nxt_is s a)], k3⟩
  have C2 : Hid (Calls Tryz.prog 58 #[.string s, .int .i64 a] w fun e W' => e = .returned (.int .i64 (pvC s a)) ∧ Hid (Below w.heap.size w W')) := (rprev_any s a hs w).mono fun e W' ⟨m, k1, k2, k3⟩ => ⟨by rw [k1, k2.uniq (pvC_is s a)], k3⟩
  have C3 : Hid (Calls Tryz.prog 59 #[.string s, .int .i64 a] w fun e W' => e = .returned (.int .i64 (behindW (words s) a)) ∧ Hid (Below w.heap.size w W')) := (rbehind_any s a (by omega) w).mono fun e W' ⟨k1, k3⟩ => ⟨by rw [k1, held_self hal], k3⟩
  have C4 : Hid (Calls Tryz.prog 60 #[.string s, .int .i64 a] w fun e W' => e = .returned (.int .i64 (lnA s a)) ∧ Hid (Below w.heap.size w W')) := rkilled_any w s a ha hs
  have C5 : Hid (Calls Tryz.prog 61 #[.string s, .int .i64 a] w fun e W' => e = .returned (.int .i64 (aheadW (words s) s.size a)) ∧ Hid (Below w.heap.size w W')) := (rahead_any s a (by omega) w).mono fun e W' ⟨k1, k3⟩ => ⟨by rw [k1, held_self hal], k3⟩
  unfold stF
  by_cases h14 : k = 14
  · subst h14
    rw [if_pos rfl]
    generalize nxt s a = m at *
    clear C2 C3 C4 C5
    go_enter Tryz.func28, Tryz.ntmps28
    go_wp2_with (go_at_call 57; refine C1.out.mono ?_; clear C1; rintro e w1 ⟨rfl, HB⟩)
    go_ret
    exact ⟨rfl, HB.out⟩
  rw [if_neg h14]
  by_cases h15 : k = 15
  · subst h15
    rw [if_pos rfl]
    generalize pvC s a = m at *
    clear C1 C3 C4 C5
    go_enter Tryz.func28, Tryz.ntmps28
    go_wp2_with (go_at_call 58; refine C2.out.mono ?_; clear C2; rintro e w1 ⟨rfl, HB⟩)
    go_ret
    exact ⟨rfl, HB.out⟩
  rw [if_neg h15]
  by_cases h17 : k = 17
  · subst h17
    rw [if_pos rfl]
    generalize behindW (words s) a = m at *
    clear C1 C2 C4 C5
    go_enter Tryz.func28, Tryz.ntmps28
    go_wp2_with (go_at_call 59; refine C3.out.mono ?_; clear C3; rintro e w1 ⟨rfl, HB⟩)
    go_ret
    exact ⟨rfl, HB.out⟩
  rw [if_neg h17]
  by_cases h18 : k = 18
  · subst h18
    rw [if_pos rfl]
    generalize lnA s a = m at *
    clear C1 C2 C3 C5
    go_enter Tryz.func28, Tryz.ntmps28
    go_wp2_with (go_at_call 60; refine C4.out.mono ?_; clear C4; rintro e w1 ⟨rfl, HB⟩)
    go_ret
    exact ⟨rfl, HB.out⟩
  rw [if_neg h18]
  generalize aheadW (words s) s.size a = m at *
  clear C1 C2 C3 C4
  go_enter Tryz.func28, Tryz.ntmps28
  go_wp2_with (go_at_call 61; refine C5.out.mono ?_; clear C5; rintro e w1 ⟨rfl, HB⟩)
  go_ret
  exact ⟨rfl, HB.out⟩
set_option maxRecDepth 100000 in
set_option maxHeartbeats 1000000 in
theorem rsteps_any (w : World) (s : ByteArray) (k : Int) (a n : Nat) (ha : cbZ s a = true) (hs : s.size ≤ 2097152) (hn : n ≤ 1000) :
    Calls Tryz.prog 16 #[.int .i64 k, .string s, .int .i64 a, .int .i64 n] w fun e W' => e = .returned (.int .i64 (rpt (stF k s) n a)) ∧ Below w.heap.size w W' := by
  have CS : Hid (∀ (W : World) (x : Nat), cbZ s x = true → Calls Tryz.prog 28 #[.int .i64 k, .string s, .int .i64 x] W fun e W' => e = .returned (.int .i64 (stF k s x)) ∧ Below W.heap.size W W') := fun W x hx => rstep_any W s k x hx hs
  have HC : Hid (∀ x : Nat, cbZ s x = true → cbZ s (stF k s x) = true) := fun x hx => stF_cb hx
  obtain ⟨f, hf⟩ : ∃ f, stF k s = f := ⟨_, rfl⟩
  rw [hf] at CS HC ⊢
  clear hf
  obtain ⟨r, hr⟩ : ∃ r, rpt f n a = r := ⟨_, rfl⟩
  rw [hr]
  have HI : Hid (rpt f (n - 0) a = r ∧ cbZ s a = true) := ⟨hr, ha⟩
  clear hr ha
  go_enter Tryz.func16, Tryz.ntmps16
  go_wp2
  go_loopw [2, 9] (fun t2 t9 wr => ∃ (x i : Nat), t2 = .int .i64 (x : Int) ∧ t9 = .int .i64 (i : Int) ∧ i ≤ n ∧ Hid (rpt f (n - i) x = r ∧ cbZ s x = true ∧ Below w.heap.size w wr)) (fun _ t9 _ => n - (intOf t9).toNat)
  case atStart => exact ⟨a, 0, rfl, rfl, Nat.zero_le _, HI.out.1, HI.out.2, Below.refl _ _⟩
  case round =>
    obtain ⟨x, i, rfl, rfl, hi, HX⟩ := hrel
    by_cases hlt : i < n
    · have C1 : Hid (Calls Tryz.prog 28 #[.int .i64 k, .string s, .int .i64 x] wr fun e W' => e = .returned (.int .i64 (f x)) ∧ Hid (Below wr.heap.size wr W')) := CS.out wr x HX.out.2.1
      have HS : Hid (rpt f (n - i) x = rpt f (n - (i + 1)) (f x)) := by
        show _ = _
        rw [show n - i = (n - (i + 1)) + 1 by omega]; rfl
      have HFx : Hid (f x = x → rpt f (n - i) x = x) := fun e => rpt_fix e _
      obtain ⟨z, hz⟩ : ∃ z, f x = z := ⟨_, rfl⟩
      have HZ : Hid (f x = z) := hz
      rw [hz] at C1
      clear hz
      by_cases he : z = x
      · subst he
        go_wp2_with (go_at_call 28; refine C1.out.mono ?_; clear C1; rintro e w1 ⟨rfl, HB⟩)
        go_ret
        refine ⟨?_, below_on HX.out.2.2 HB.out⟩
        rw [← HX.out.1, HFx.out HZ.out]; rfl
      · have hne : ¬ (z : Int) = x := by omega
        go_wp2_with (go_at_call 28; refine C1.out.mono ?_; clear C1; rintro e w1 ⟨rfl, HB⟩)
        exact ⟨⟨z, i + 1, rfl, by simp, by omega, by rw [← HX.out.1, HS.out, HZ.out], by rw [← HZ.out]; exact HC.out x HX.out.2.1, below_on HX.out.2.2 HB.out⟩, by simp only [intOf]; omega⟩
    · obtain rfl : i = n := by omega
      go_wp2
      go_ret
      refine ⟨?_, HX.out.2.2⟩
      have := HX.out.1
      rw [Nat.sub_self] at this
      rw [← this]; rfl
end Go.Proofs.YtdggbnkhbmffoaaGreatDoor
