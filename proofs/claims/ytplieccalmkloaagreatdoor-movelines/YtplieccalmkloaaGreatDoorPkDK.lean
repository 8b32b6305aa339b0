/-
  The laws' keep and awake; lines and columns have one answer each. Conditions: those of each theorem.
-/
import Derived.Test.YtplieccalmkloaaGreatDoorDRch
import Derived.Test.YtplieccalmkloaaGreatDoorPkTB
import Derived.Lib.QuietBelow
import Derived.BigQuiet
import Derived.Test.YtplieccalmkloaaGreatDoorDIt
namespace Go.Proofs.YtplieccalmkloaaGreatDoor.Sto
open Go.RowKit Go.Shelf Bod Wid Go.Lib
open Gap (Gp Is PB gNew lim)

theorem IsN.uniq {s : ByteArray} {l : Int} {a b : Nat} (h : IsN s l a) (k : IsN s l b) : a = b := by
  have key : ∀ p q, IsN s l p → IsN s l q → p < q → False := fun p q hp hq hlt => by
    obtain ⟨p1, p2, p3⟩ := hp
    obtain ⟨q1, q2, q3⟩ := hq
    have q2' : byt s (q - 1) = 10 := by rcases q2 with x | x; omega; exact x
    have e1 := cn_add (s := s) (a := 0) (b := q - 1) (c := q) (by omega) (by omega)
    have e2 := cn_one (s := s) (i := q - 1) (by omega)
    rw [show q - 1 + 1 = q by omega, if_pos q2'] at e2
    have e3 := cn_mono (s := s) (a := 0) (b := p) (c := q - 1) (by omega) (by omega)
    omega
  rcases Nat.lt_trichotomy a b with e | e | e
  · exact (key a b h k e).elim
  · exact e
  · exact (key b a k h e).elim
theorem IsS.uniq {s : ByteArray} {l : Int} {x y : Option (Nat × Nat)} (hx : IsS s l x) (hy : IsS s l y) : x = y := by
  match x, y, hx, hy with
  | none, none, _, _ => rfl
  | some p, none, hp, hn =>
    obtain ⟨⟨h1, h2, h3⟩, -⟩ := hp
    have := cn_mono (s := s) (a := 0) (b := p.1) (c := s.size) (by omega) h1
    have hn' : l < 0 ∨ (cn s 0 s.size : Int) < l := hn
    omega
  | none, some p, hn, hp =>
    obtain ⟨⟨h1, h2, h3⟩, -⟩ := hp
    have := cn_mono (s := s) (a := 0) (b := p.1) (c := s.size) (by omega) h1
    have hn' : l < 0 ∨ (cn s 0 s.size : Int) < l := hn
    omega
  | some (p, p'), some (q, q'), ⟨h1, r, h2, h3⟩, ⟨k1, r', k2, k3⟩ =>
    simp only at h1 h2 h3 k1 k2 k3
    obtain rfl := h1.uniq k1
    obtain rfl := h2.uniq (Nat.le_refl _) k2
    rw [h3, k3]
theorem IsC.uniq {s : ByteArray} {a : Nat} {x y : Int} (ha : a ≤ s.size) (h : IsC s a x) (k : IsC s a y) : x = y := by
  obtain ⟨p, m, h1, h2, rfl⟩ := h
  obtain ⟨q, n, k1, k2, rfl⟩ := k
  rw [h1.uniq ha k1, h2.uniq k2]
theorem IsA.uniq {s : ByteArray} {l c : Int} {x y : Option Nat} (h : IsA s l c x) (k : IsA s l c y) : x = y := by
  match x, y, h, k with
  | none, none, _, _ => rfl
  | some p, none, ⟨a, b, h1, _⟩, k => have := h1.uniq (show IsS s l none from k); cases this
  | none, some p, k, ⟨a, b, h1, _⟩ => have := h1.uniq (show IsS s l none from k); cases this
  | some p, some q, ⟨a, b, h1, h2⟩, ⟨a', b', k1, k2⟩ =>
    have e := h1.uniq k1
    injection e with e
    injection e with e1 e2
    subst e1 e2
    rw [h2.uniq k2]
/-- what keep leaves: a gap buffer or a store, new, that keeps s -/
def Kpt (w : World) (s : ByteArray) (t : Value) (W : World) : Prop :=
  (∃ b r n, t = .iface 77 (.pointer (some ⟨b, 0, none⟩)) ∧ PB W b r ⟨s, s.size, 1073741824⟩ n ∧ Below w.heap.size w W ∧ w.heap.size ≤ b ∧ ∀ k, r = some k → w.heap.size ≤ k) ∨
  ∃ b kd bk, t = .iface 23 (.pointer (some ⟨b, 0, none⟩)) ∧ Fresh w s (nwK kd 8 40 1073741824) bk b W
theorem Fresh.below {w W X : World} {s : ByteArray} {k : Sk} {bk : Int} {b : Nat} (h : Fresh w s k bk b W) (hb : Below W.heap.size W X) : Fresh w s k bk b X := by
  obtain ⟨y, K, h1, h2, h3, h4, h5, h6, h7⟩ := h
  exact ⟨y, K, h1.below hb, h2, h3, h4, Below.on h5 hb, h6, h7⟩
theorem Kpt.below {w W X : World} {s : ByteArray} {t : Value} (h : Kpt w s t W) (hb : Below W.heap.size W X) : Kpt w s t X := by
  rcases h with ⟨b, r, n, h1, h2, h3, h4, h5⟩ | ⟨b, kd, bk, h1, h2⟩
  · exact .inl ⟨b, r, n, h1, h2.below hb, Below.on h3 hb, h4, h5⟩
  · exact .inr ⟨b, kd, bk, h1, h2.below hb⟩
theorem Kpt.bel {w W : World} {s : ByteArray} {t : Value} (h : Kpt w s t W) : Below w.heap.size w W := by
  rcases h with ⟨b, r, n, h1, h2, h3, h4, h5⟩ | ⟨b, kd, bk, h1, y, K, h2, h3, h4, h5, h6, h7⟩
  · exact h3
  · exact h6
theorem Kpt.vt {w W : World} {s : ByteArray} {t : Value} (h : Kpt w s t W) (hE : Ev w) : Vt W t s := by
  have hE2 := hE.below h.bel
  rcases h with ⟨b, r, n, rfl, h2, h3, h4, h5⟩ | ⟨b, kd, bk, rfl, y, K, h2, h3, h4, h5, h6, h7⟩
  · exact vt_gap (o := some (b, r)) (g := ⟨s, s.size, 1073741824⟩) (n := n) ⟨rfl, h2⟩ hE2
  · rw [← h4]
    exact vt_store h2.spt h2.hold hE2
theorem Kpt.iface {w W : World} {s : ByteArray} {t : Value} (h : Kpt w s t W) : ∃ T u, t = .iface T u := by
  rcases h with ⟨b, r, n, h1, _⟩ | ⟨b, kd, bk, h1, _⟩
  · exact ⟨_, _, h1⟩
  · exact ⟨_, _, h1⟩
set_option maxRecDepth 100000 in
set_option maxHeartbeats 1000000 in
theorem keep_any (hM : Tryz.prog.follows .mixedOrders = true) (w : World) (hE : Ev w) (s : ByteArray) (kd : Int) (hs : s.size ≤ 1073741824) : Calls Tryz.prog 15 #[.agg #[.string s, .int .i64 kd]] w fun e W' => ∃ T u, e = .returned (.tuple #[.iface T u, .bool true]) ∧ Kpt w s (.iface T u) W' := by
  obtain ⟨W0, hW0⟩ : ∃ W0, w.alloc (.cells #[.string s, .int .i64 kd] 39) = W0 := ⟨_, rfl⟩
  have hb0 : Below w.heap.size w W0 ∧ W0.heap[w.heap.size]? = some (.cells #[.string s, .int .i64 kd] 39 (0, 0)) := by rw [← hW0]; exact ⟨(Below.refl _ w).alloc (Nat.le_refl _) _, World.alloc_heap_new w _⟩
  have HX : Hid (∀ W, Below W0.heap.size W0 W → W.cell? ⟨w.heap.size, 0, none⟩ = some (.string s) ∧ W.cell? ⟨w.heap.size, 1, none⟩ = some (.int .i64 kd)) := fun W hW => by
    have := (hW.block _ (Array.getElem?_eq_some_iff.1 hb0.2).1).trans hb0.2
    simp [World.cell?, this]
  have HM : Hid (Tryz.prog.follows .mixedOrders = true) := hM
  clear hM
  obtain ⟨c0, c1⟩ := HX.out W0 (Below.refl _ _)
  have hl : lim 1073741824 = 1073741824 := by decide
  by_cases hk : kd = 0
  · subst hk
    have C1 : Hid (Calls Tryz.prog 34 #[.string s, .int .i64 1073741824] W0 fun e W' => ∃ b : Nat, e = .returned (.tuple #[.pointer (some ⟨b, 0, none⟩), .int .i64 0]) ∧ Hid (Below W0.heap.size W0 W' ∧ Kpt w s (.iface 77 (.pointer (some ⟨b, 0, none⟩))) W')) := by
      have := Gap.new_any s 1073741824 W0
      have e : gNew s 1073741824 = some ⟨s, s.size, 1073741824⟩ := by unfold gNew; rw [hl, if_pos hs]
      rw [e] at this
      refine this.mono fun e W' ⟨h1, r, n, h2, h3, h4⟩ => ⟨_, h1, h3, .inl ⟨_, r, n, rfl, h2, Below.on hb0.1 h3, hb0.1.size, fun k e => ?_⟩⟩
      have := h4 k e
      have := hb0.1.size
      omega
    have C2 : Hid (∀ W (b : Nat), Hid (Below W0.heap.size W0 W ∧ Kpt w s (.iface 77 (.pointer (some ⟨b, 0, none⟩))) W) → Calls Tryz.prog 35 #[.pointer (some ⟨b, 0, none⟩)] W fun e W' => e = .returned (.string s) ∧ Below W.heap.size W W') := fun W b hW => by
      obtain ⟨hb, ho⟩ := hW.out
      have ho' := ho
      rcases ho with ⟨b', r, n, h1, h2, h3, h4, h5⟩ | ⟨b', kd, bk, h1, h2⟩
      · injection h1 with _ h1
        injection h1 with h1
        injection h1 with h1
        injection h1 with h1
        subst h1
        exact (Gap.text_is (o := some (b, r)) (g := ⟨s, s.size, 1073741824⟩) (n := n) ⟨rfl, h2⟩)
      · injection h1 with h1 _
        exact absurd h1 (by decide)
    clear hb0 hE hs hl
    go_enter Tryz.func15, Tryz.ntmps15
    go_upto_region 3 with (go_at_call 34; refine C1.out.mono ?_; clear C1 c0 c1 hW0; rintro e w1 ⟨b, rfl, H1⟩; obtain ⟨c0, c1⟩ := HX.out _ H1.out.1)
    have e0 := fun d os => cell_regrown c0 d os
    have q1 := regrown (W := w1) (fun W hW => C2.out W b ⟨Below.on H1.out.1 hW, H1.out.2.below hW⟩)
    refine wp_region_quiet_below HM.out (by kernel_rfl) ?_
    repeat (go_big_quiet_step (exact q1 _ _))
    refine wpQuiet_nil ?_
    intro _ hw'
    obtain ⟨⟨dq, osq⟩, hw''⟩ := hw'
    subst hw''
    have HK : Hid (Kpt w s (.iface 77 (.pointer (some ⟨b, 0, none⟩))) (Go.Sort.grow (redrawn w1 dq) osq)) := H1.out.2.below (below_regrown w1 dq osq)
    clear q1 e0 c0 c1 H1 HX
    go_wp2
    exact bodyPost_ret (v := .tuple #[.iface 77 (.pointer (some ⟨b, 0, none⟩)), .bool true]) (by simp [results, Tryz.results15, go_sem]) rfl ⟨_, _, rfl, HK.out⟩
  · have C1 : Hid (Calls Tryz.prog 20 #[.int .i64 kd, .int .i64 8, .int .i64 40, .int .i64 1073741824, .string s] W0 fun e W' => ∃ b : Nat, e = .returned (.tuple #[.pointer (some ⟨b, 0, none⟩), .int .i64 0]) ∧ Hid (Below W0.heap.size W0 W' ∧ Kpt w s (.iface 23 (.pointer (some ⟨b, 0, none⟩))) W')) := by
      refine (snew_ok W0 kd 8 40 1073741824 s (by rw [hl]; exact hs) (by rw [hl]; simp [nwK, Sk.fit]) (hE.below hb0.1)).mono ?_
      rintro e W' ⟨b, q1, q2⟩
      rw [hl] at q2
      have hq := q2
      obtain ⟨y, K, h1, h2, h3, h4, h5, h6, h7⟩ := q2
      exact ⟨b, q1, h5, .inr ⟨b, kd, _, rfl, y, K, h1, h2, h3, h4, Below.on hb0.1 h5, h6.mono hb0.1.size, Nat.le_trans hb0.1.size h7⟩⟩
    have C2 : Hid (∀ W (b : Nat), Hid (Below W0.heap.size W0 W ∧ Kpt w s (.iface 23 (.pointer (some ⟨b, 0, none⟩))) W) → Calls Tryz.prog 36 #[.pointer (some ⟨b, 0, none⟩)] W fun e W' => e = .returned (.string s) ∧ Below W.heap.size W W') := fun W b hW => by
      obtain ⟨hb, ho⟩ := hW.out
      have ho' := ho
      rcases ho with ⟨b', r, n, h1, h2, h3, h4, h5⟩ | ⟨b', kd, bk, h1, y, K, h2, h3, h4, h5, h6⟩
      · injection h1 with h1 _
        exact absurd h1 (by decide)
      · injection h1 with _ h1
        injection h1 with h1
        injection h1 with h1
        injection h1 with h1
        subst h1
        have := stext_any h2.spt h2.hold
        rw [h4] at this
        exact this
    have e1 : (kd == 0) = false := by simp [hk]
    have e2 : decide (kd = 0) = false := by simp [hk]
    clear hb0 hE hs hl
    go_enter Tryz.func15, Tryz.ntmps15
    go_upto_region 7 with (go_at_call 20; refine C1.out.mono ?_; clear C1 c0 c1 hW0; rintro e w1 ⟨b, rfl, H1⟩; obtain ⟨c0, c1⟩ := HX.out _ H1.out.1)
    have e0 := fun d os => cell_regrown c0 d os
    have q1 := regrown (W := w1) (fun W hW => C2.out W b ⟨Below.on H1.out.1 hW, H1.out.2.below hW⟩)
    refine wp_region_quiet_below HM.out (by kernel_rfl) ?_
    repeat (go_big_quiet_step (exact q1 _ _))
    refine wpQuiet_nil ?_
    intro _ hw'
    obtain ⟨⟨dq, osq⟩, hw''⟩ := hw'
    subst hw''
    have HK : Hid (Kpt w s (.iface 23 (.pointer (some ⟨b, 0, none⟩))) (Go.Sort.grow (redrawn w1 dq) osq)) := H1.out.2.below (below_regrown w1 dq osq)
    clear q1 e0 c0 c1 H1 HX
    go_wp2
    exact bodyPost_ret (v := .tuple #[.iface 23 (.pointer (some ⟨b, 0, none⟩)), .bool true]) (by simp [results, Tryz.results15, go_sem]) rfl ⟨_, _, rfl, HK.out⟩
/-- the statements' sample -/
def smp : ByteArray := ⟨#[97, 98, 13, 10, 228, 184, 128, 99, 10, 10, 13]⟩
theorem smp_s : IsS smp 1 (some (4, 8)) := ⟨⟨by decide +kernel, .inr (by decide +kernel), by decide +kernel⟩, some 9, ⟨by decide +kernel, by decide +kernel, by decide +kernel, by decide +kernel⟩, by decide +kernel⟩
theorem smp_c : IsC smp 7 2 := ⟨4, 7, ⟨by decide +kernel, .inr (by decide +kernel), by decide +kernel⟩, ⟨by decide +kernel, .inl (by decide +kernel), fun j h1 h2 => by omega⟩, by decide +kernel⟩
theorem smp_a : IsA smp 1 2 (some 7) := ⟨4, 8, smp_s, by decide +kernel, by decide +kernel, by decide +kernel, by decide +kernel, fun j h1 h2 _ => by
  obtain rfl : j = 8 := by omega
  decide +kernel⟩
theorem smp_n : cn smp 0 10 = 3 ∧ cn smp 0 11 = 3 := by decide +kernel
set_option maxRecDepth 100000 in
set_option maxHeartbeats 2000000 in
theorem awake_any (hM : Tryz.prog.follows .mixedOrders = true) (w : World) (hE : Ev w) : Calls Tryz.prog 14 #[] w fun e W' => e = .returned (.bool true) ∧ Below w.heap.size w W' := by
  have C0 : Hid (Calls Tryz.prog 15 #[.agg #[.string smp, .int .i64 1]] w fun e W' => ∃ T u, e = .returned (.tuple #[.iface T u, .bool true]) ∧ Hid (Below w.heap.size w W' ∧ Tl W' (.iface T u) smp)) := (keep_any hM w hE smp 1 (by decide +kernel)).mono fun e W' ⟨T, u, q1, q2⟩ => ⟨T, u, q1, q2.bel, (q2.vt hE).tl (by decide +kernel)⟩
  have C1 : Hid (∀ W T u, Hid (Below w.heap.size w W ∧ Tl W (.iface T u) smp) → Calls Tryz.prog 31 #[.iface T u, .int .i64 1] W fun e W' => e = .returned (.tuple #[.agg #[.int .i64 4, .int .i64 8], .int .i64 0]) ∧ Hid (Below w.heap.size w W' ∧ Tl W' (.iface T u) smp)) := fun W T u hW => (spanT_any hW.out.2 1 (by omega)).mono fun e W' ⟨⟨o, q1, q2⟩, q3⟩ => ⟨by rw [q1, q2.uniq smp_s]; rfl, Below.on hW.out.1 q3, hW.out.2.below q3⟩
  have C2 : Hid (∀ X T u, Hid (Below w.heap.size w X ∧ Tl X (.iface T u) smp) → ∀ W, Hid (Below X.heap.size X W) → Calls Tryz.prog 24 #[.iface T u, .int .i64 7] W fun e W' => e = .returned (.tuple #[.int .i64 2, .int .i64 0]) ∧ Hid (Below X.heap.size X W')) := fun X T u hX W hW => (column_in hM (hX.out.2.below hW.out) (hE.below (Below.on hX.out.1 hW.out)) 7 (by decide +kernel)).mono fun e W' ⟨⟨z, q1, q2⟩, q3⟩ => ⟨by rw [q1, q2.uniq (by decide +kernel) smp_c], Below.on hW.out q3⟩
  have C3 : Hid (∀ X T u, Hid (Below w.heap.size w X ∧ Tl X (.iface T u) smp) → ∀ W, Hid (Below X.heap.size X W) → Calls Tryz.prog 27 #[.iface T u, .int .i64 1, .int .i64 2] W fun e W' => e = .returned (.tuple #[.int .i64 7, .int .i64 0]) ∧ Hid (Below X.heap.size X W')) := fun X T u hX W hW => (at_any hM (hX.out.2.below hW.out) (hE.below (Below.on hX.out.1 hW.out)) 1 2 (by omega) (by omega)).mono fun e W' ⟨⟨z, q1, q2⟩, q3⟩ => ⟨by rw [q1, q2.uniq smp_a]; rfl, Below.on hW.out q3⟩
  have C4 : Hid (∀ X T u, Hid (Below w.heap.size w X ∧ Tl X (.iface T u) smp) → ∀ W, Hid (Below X.heap.size X W) → Calls Tryz.prog 32 #[.iface T u, .int .i64 10] W fun e W' => e = .returned (.tuple #[.int .i64 3, .int .i64 0]) ∧ Hid (Below X.heap.size X W')) := fun X T u hX W hW => (of_any (hX.out.2.below hW.out) 10).mono fun e W' ⟨q1, q3⟩ => ⟨by rw [q1, if_pos (by decide +kernel), if_pos (by decide +kernel), show (10 : Int).toNat = 10 from rfl, smp_n.1]; rfl, Below.on hW.out q3⟩
  have C5 : Hid (∀ X T u, Hid (Below w.heap.size w X ∧ Tl X (.iface T u) smp) → ∀ W, Hid (Below X.heap.size X W) → Calls Tryz.prog 33 #[.iface T u] W fun e W' => e = .returned (.int .i64 4) ∧ Hid (Below X.heap.size X W')) := fun X T u hX W hW => (count_any (hX.out.2.below hW.out)).mono fun e W' ⟨q1, q3⟩ => ⟨by rw [q1, show smp.size = 11 from rfl, smp_n.2]; rfl, Below.on hW.out q3⟩
  have C0' : Hid (Calls Tryz.prog 15 #[.agg #[.string ⟨#[97, 98, 13, 10, 228, 184, 128, 99, 10, 10, 13]⟩, .int .i64 1]] w fun e W' => ∃ T u, e = .returned (.tuple #[.iface T u, .bool true]) ∧ Hid (Below w.heap.size w W' ∧ Tl W' (.iface T u) smp)) := C0
  clear hE hM C0
  go_enter Tryz.func14, Tryz.ntmps14
  go_upto_region 5 with (first
    | (go_at_call 15; refine C0'.out.mono ?_; clear C0'; rintro e w1 ⟨T, u, rfl, H1⟩)
    | (go_at_call 31; refine (C1.out _ _ _ H1).mono ?_; clear C1 H1; rintro e w2 ⟨rfl, H2⟩))
  obtain ⟨X, hX⟩ : ∃ X, w2.alloc (.cells #[.int .i64 4, .int .i64 8] 50) = X := ⟨_, rfl⟩
  have hb2 : Below w2.heap.size w2 X := by rw [← hX]; exact (Below.refl _ w2).alloc (Nat.le_refl _) _
  have hn2 : X.heap[w2.heap.size]? = some (.cells #[.int .i64 4, .int .i64 8] 50 (0, 0)) := by rw [← hX]; exact World.alloc_heap_new _ _
  have HT : Hid (Below w.heap.size w X ∧ Tl X (.iface T u) smp) := ⟨Below.on H2.out.1 hb2, H2.out.2.below hb2⟩
  have HC : Hid (∀ W, Below X.heap.size X W → W.cell? ⟨w2.heap.size, 0, none⟩ = some (.int .i64 4) ∧ W.cell? ⟨w2.heap.size, 1, none⟩ = some (.int .i64 8)) := fun W hW => by
    have := (hW.block _ (Array.getElem?_eq_some_iff.1 hn2).1).trans hn2
    simp [World.cell?, this]
  rw [hX]
  have HB0 : Hid (Below X.heap.size X X) := Below.refl _ _
  clear hX hb2 hn2 H2
  go_wp2_with (first
    | (go_at_call 24; refine (C2.out _ _ _ HT _ HB0).mono ?_; clear C2 HB0; rintro e w3 ⟨rfl, H3⟩)
    | (go_at_call 27; refine (C3.out _ _ _ HT _ H3).mono ?_; clear C3 H3; rintro e w4 ⟨rfl, H4⟩)
    | (go_at_call 32; refine (C4.out _ _ _ HT _ H4).mono ?_; clear C4 H4; rintro e w5 ⟨rfl, H5⟩)
    | (go_at_call 33; refine (C5.out _ _ _ HT _ H5).mono ?_; clear C5 H5; rintro e w6 ⟨rfl, H6⟩; obtain ⟨y0, y1⟩ := HC.out _ H6.out))
  go_ret
  exact ⟨rfl, Below.on HT.out.1 H6.out⟩
end Go.Proofs.YtplieccalmkloaaGreatDoor.Sto
namespace Go.Proofs.YtplieccalmkloaaGreatDoor.Sto
open Go.RowKit Go.Shelf Bod Wid

theorem Lns.num' {s : ByteArray} {ys : List (Nat × Nat)} {r : Option Nat} (h : Lns s 0 ys r) : (∀ (k : Nat) (x : Nat × Nat), ys[k]? = some x → IsS s k (some x)) ∧ (∀ p, r = some p → IsN s ys.length p) ∧ (r = none → ys.length = cn s 0 s.size + 1) := by
  induction h with
  | one h =>
    rename_i r
    refine ⟨fun k x hx => ?_, fun p e => ?_, fun e => ?_⟩
    · cases k with
      | zero => simp at hx; subst hx; exact ⟨⟨Nat.zero_le _, .inl rfl, by rw [cn_self]⟩, r, h, rfl⟩
      | succ k => simp at hx
    · subst e
      obtain ⟨h1, h2, h3, h4⟩ := h
      exact ⟨h2, .inr h3, by rw [h4]; rfl⟩
    · subst e
      have h' : cn s 0 s.size < 1 := h
      simp; omega
  | more h1 h2 ih =>
    rename_i ys p r
    obtain ⟨i1, i2, -⟩ := ih
    have hp := i2 p rfl
    refine ⟨fun k x hx => ?_, fun q e => ?_, fun e => ?_⟩
    · rcases Nat.lt_trichotomy k ys.length with hk | hk | hk
      · rw [List.getElem?_append_left hk] at hx; exact i1 k x hx
      · subst hk
        simp at hx
        subst hx
        exact ⟨hp, r, h2, rfl⟩
      · rw [List.getElem?_eq_none (by simp; omega)] at hx; cases hx
    · subst e
      obtain ⟨k1, k2, k3, k4⟩ := h2
      have e1 := cn_add (s := s) (a := 0) (b := p) (c := q) (by omega) (by omega)
      have e2 := hp.2.2
      exact ⟨k2, .inr k3, by rw [e1, k4]; simp; omega⟩
    · subst e
      have h' : cn s p s.size < 1 := h2
      have e1 := cn_add (s := s) (a := 0) (b := p) (c := s.size) (by omega) hp.1
      have e2 := hp.2.2
      simp; omega
theorem Lns.isS {s : ByteArray} {ys : List (Nat × Nat)} (h : Lns s 0 ys none) (l : Int) : IsS s l (if 0 ≤ l then ys[l.toNat]? else none) := by
  obtain ⟨h1, -, h3⟩ := h.num'
  have h3 := h3 rfl
  by_cases hl : 0 ≤ l
  · rw [if_pos hl]
    cases e : ys[l.toNat]? with
    | none =>
      have := List.getElem?_eq_none_iff.1 e
      exact .inr (by omega)
    | some x =>
      have := h1 _ _ e
      rw [show ((l.toNat : Nat) : Int) = l by omega] at this
      exact this
  · rw [if_neg hl]
    exact .inl (by omega)
theorem isS_ex (s : ByteArray) (l : Int) : ∃ o, IsS s l o := by
  obtain ⟨ys, h⟩ := lns_ex s
  exact ⟨_, h.isS l⟩
theorem isP_ex (s : ByteArray) : ∀ a : Nat, ∃ m : Nat, IsPrev s ((a : Int) + 1) m
  | 0 => ⟨0, cb_zero s, .inl (by omega), fun j h1 h2 => by omega⟩
  | a + 1 => by
    cases h : cbZ s ((a + 1 : Nat) : Int) with
    | true => exact ⟨a + 1, h, .inl (by omega), fun j h1 h2 => by omega⟩
    | false =>
      obtain ⟨m, h1, h2, h3⟩ := isP_ex s a
      refine ⟨m, h1, .inl (by rcases h2 with x | x <;> omega), fun j k1 k2 => ?_⟩
      by_cases e : j = ((a + 1 : Nat) : Int)
      · rw [e]; exact h
      · exact h3 j k1 (by omega)
theorem isC_ex {s : ByteArray} {a : Nat} (h : a ≤ s.size) : ∃ z, IsC s a z := by
  obtain ⟨p, hp⟩ := isL_ex (s := s) a h
  obtain ⟨m, hm⟩ := isP_ex s a
  exact ⟨_, p, m, hp, hm, rfl⟩
theorem cw_self (s : ByteArray) (a : Nat) : cw s a a = 0 := by
  unfold cw
  have : (s.extract a a).size = 0 := by simp
  rw [cl_nil (by omega)]
  rfl
theorem isR_ex {s : ByteArray} {a : Nat} {c : Int} (ha : cbZ s a = true) (hc : 0 ≤ c) : ∀ d : Nat, ∃ m, IsR s a (a + d) c m
  | 0 => ⟨a, Nat.le_refl _, Nat.le_refl _, ha, by rw [cw_self]; exact hc, fun j h1 h2 => by omega⟩
  | d + 1 => by
    by_cases h : cbZ s ((a + d + 1 : Nat) : Int) = true ∧ cw s a (a + d + 1) ≤ c
    · exact ⟨a + d + 1, by omega, by omega, h.1, h.2, fun j h1 h2 => by omega⟩
    · obtain ⟨m, h1, h2, h3, h4, h5⟩ := isR_ex ha hc d
      refine ⟨m, h1, by omega, h3, h4, fun j k1 k2 k3 => ?_⟩
      by_cases e : j = a + d + 1
      · subst e
        exact Int.not_le.1 fun q => h ⟨k3, q⟩
      · exact h5 j k1 (by omega) k3
theorem isA_ex (s : ByteArray) (l c : Int) : ∃ o, IsA s l c o := by
  obtain ⟨o, ho⟩ := isS_ex s l
  cases o with
  | none => exact ⟨none, ho⟩
  | some x =>
    obtain ⟨a, b⟩ := x
    have hl := ho.le
    obtain ⟨m, hm⟩ := isR_ex (c := max c 0) ho.cb.1 (by omega) (b - a)
    rw [show a + (b - a) = b by omega] at hm
    exact ⟨some m, a, b, ho, hm⟩
/-- what Column answers -/
def IsCo (s : ByteArray) (a : Int) : Option Int → Prop
  | some z => ∃ n : Nat, a = n ∧ n ≤ s.size ∧ IsC s n z
  | none => ¬ (0 ≤ a ∧ a ≤ s.size)
theorem isCo_ex (s : ByteArray) (a : Int) : ∃ o, IsCo s a o := by
  by_cases h : 0 ≤ a ∧ a ≤ s.size
  · obtain ⟨n, rfl⟩ := Int.eq_ofNat_of_zero_le h.1
    obtain ⟨z, hz⟩ := isC_ex (s := s) (a := n) (by omega)
    exact ⟨some z, n, rfl, by omega, hz⟩
  · exact ⟨none, h⟩
def cov (o : Option Int) : Value := .tuple #[.int .i64 (o.getD 0), .int .i64 (if o.isSome then 0 else 1)]
def atv (o : Option Nat) : Value := .tuple #[.int .i64 ((o.getD 0 : Nat) : Int), .int .i64 (if o.isSome then 0 else 1)]
def ofv (s : ByteArray) (a : Int) : Value := .tuple #[.int .i64 (if 0 ≤ a ∧ a ≤ s.size then (cn s 0 a.toNat : Int) else 0), .int .i64 (if 0 ≤ a ∧ a ≤ s.size then 0 else 1)]
section
variable {w : World} {t : Value} {s : ByteArray}
theorem ask_count (h : Tl w t s) : Calls Tryz.prog 33 #[t] w fun e W' => e = .returned (.int .i64 ((cn s 0 s.size : Int) + 1)) ∧ Below w.heap.size w W' := count_any h
theorem ask_of (h : Tl w t s) (a : Int) : Calls Tryz.prog 32 #[t, .int .i64 a] w fun e W' => e = .returned (ofv s a) ∧ Below w.heap.size w W' := of_any h a
theorem ask_span (h : Tl w t s) (l : Int) (hl : l ≤ 9223372036854775807) {o : Option (Nat × Nat)} (ho : IsS s l o) : Calls Tryz.prog 31 #[t, .int .i64 l] w fun e W' => e = .returned (spa o) ∧ Below w.heap.size w W' :=
  (spanT_any h l hl).mono fun e W' ⟨⟨o', q1, q2⟩, q3⟩ => ⟨by rw [q1, q2.uniq ho], q3⟩
theorem ask_col (hM : Tryz.prog.follows .mixedOrders = true) (h : Tl w t s) (hE : Ev w) (a : Int) {o : Option Int} (ho : IsCo s a o) : Calls Tryz.prog 24 #[t, .int .i64 a] w fun e W' => e = .returned (cov o) ∧ Below w.heap.size w W' := by
  cases o with
  | none => exact column_out h a ho
  | some z =>
    obtain ⟨n, rfl, hn, hz⟩ := ho
    exact (column_in hM h hE n hn).mono fun e W' ⟨⟨z', q1, q2⟩, q3⟩ => ⟨by rw [q1, q2.uniq hn hz]; rfl, q3⟩
theorem ask_at (hM : Tryz.prog.follows .mixedOrders = true) (h : Tl w t s) (hE : Ev w) (l c : Int) (hl : l ≤ 9223372036854775807) (hc : c ≤ 9223372036854775807) {o : Option Nat} (ho : IsA s l c o) : Calls Tryz.prog 27 #[t, .int .i64 l, .int .i64 c] w fun e W' => e = .returned (atv o) ∧ Below w.heap.size w W' :=
  (at_any hM h hE l c hl hc).mono fun e W' ⟨⟨o', q1, q2⟩, q3⟩ => ⟨by rw [q1, q2.uniq ho]; rfl, q3⟩
end
end Go.Proofs.YtplieccalmkloaaGreatDoor.Sto
namespace Go.Proofs.YtplieccalmkloaaGreatDoor.Sto
open Bod Wid Go.Lib

theorem dec_lf (n b0 b1 b2 b3 : Nat) (h : (decodeN n b0 b1 b2 b3).1 = 10) : b0 = 10 ∧ (decodeN n b0 b1 b2 b3).2 = 1 := by
  revert h
  unfold decodeN
  repeat' split
  all_goals first | (intro h; exact ⟨h, rfl⟩) | (intro h; exfalso; simp only at h; omega)
theorem ch_lf {s : ByteArray} {i : Nat} (h : ch s i = 10) : bt s i = 10 ∧ sz s i = 1 := by
  have h1 : (un s i).1 = 10 := by
    unfold ch at h
    split at h <;> omega
  exact dec_lf _ _ _ _ _ h1
theorem cel_pos {c : Int} (h : c ≠ 10) : 1 ≤ cel c := by
  have h1 : cls c ≠ 1 := fun e => h (cls_lf.1 e)
  unfold cel
  rw [if_neg h1]
  repeat' split
  all_goals omega
theorem clF_pos (s : ByteArray) : ∀ (r : List Nat) (c : Clu) (a : Int), 1 ≤ c.n → (∀ i ∈ r, ch s i ≠ 10) → ∀ d ∈ clF s c a r, 1 ≤ d.n
  | [], c, _, h, _, d, hd => by simp only [clF, List.mem_singleton] at hd; rw [hd]; exact h
  | i :: r, c, a, h, hr, d, hd => by
    simp only [clF] at hd
    have hi := hr i (by simp)
    have hr' : ∀ j ∈ r, ch s j ≠ 10 := fun j hj => hr j (by simp [hj])
    split at hd
    · refine clF_pos s r _ _ ?_ hr' d hd
      unfold gro
      simp only
      rw [if_neg hi]
      exact h
    · rcases List.mem_cons.1 hd with rfl | hd
      · exact h
      · exact clF_pos s r _ _ (cel_pos hi) hr' d hd
theorem cl_pos {s : ByteArray} (h : ∀ i, i < s.size → byt s i ≠ 10) : ∀ d ∈ cl s, 1 ≤ d.n := by
  have hc : ∀ i ∈ offs s 0, ch s i ≠ 10 := fun i hi e => by
    have h1 := (offs_pos s _ 0 (Nat.le_refl _) i hi).2
    have h2 := (ch_lf e).1
    rw [bt_byt h1] at h2
    exact h i h1 (UInt8.toNat_inj.1 h2)
  intro d hd
  unfold cl at hd
  cases ho : offs s 0 with
  | nil => rw [ho] at hd; simp [clL] at hd
  | cons i r =>
    rw [ho] at hd hc
    exact clF_pos s r _ _ (cel_pos (hc i (by simp))) (fun j hj => hc j (by simp [hj])) d hd
theorem cn_in {s : ByteArray} {a c i : Nat} (h : cn s a c = 0) (h1 : a ≤ i) (h2 : i < c) (hc : c ≤ s.size) : byt s i ≠ 10 := fun e => by
  have e1 := cn_add (s := s) (a := a) (b := i) (c := c) h1 (by omega)
  have e2 := cn_add (s := s) (a := i) (b := i + 1) (c := c) (by omega) (by omega)
  have e3 := cn_one (s := s) (i := i) (by omega)
  rw [if_pos e] at e3
  omega
theorem byt_ext {s : ByteArray} {a b i : Nat} (h : a + i < b) : byt (s.extract a b) i = byt s (a + i) := by
  unfold byt
  rw [data_extract', List.getD_eq_getElem?_getD, List.getD_eq_getElem?_getD, List.getElem?_take_of_lt (by omega), List.getElem?_drop]
theorem cw_pos {s : ByteArray} {a b : Nat} (h : cn s a b = 0) (h1 : a < b) (h2 : b ≤ s.size) : 1 ≤ cw s a b := by
  have hz := size_extract s a b h2
  have hp : ∀ d ∈ cl (s.extract a b), 1 ≤ d.n := cl_pos fun i hi => by
    rw [byt_ext (by omega)]
    exact cn_in h (by omega) (by omega) h2
  have ht := cl_tile (s.extract a b)
  unfold cw
  cases hl : cl (s.extract a b) with
  | nil => rw [hl] at ht; have : 0 = (s.extract a b).size := ht; omega
  | cons d l =>
    rw [hl] at hp
    have e1 := hp d (by simp)
    have e2 := (sumN_bd l fun x hx => by have := hp x (by simp [hx]); have := cl_n (s.extract a b) x (by rw [hl]; simp [hx]); omega).1
    show 1 ≤ d.n + sumN l
    omega
/-- a line: no LF stands in it -/
theorem IsS.cn0 {s : ByteArray} {l : Int} {a b : Nat} (h : IsS s l (some (a, b))) : cn s a b = 0 := by
  have hle := h.le
  obtain ⟨h1, r, h2, h3⟩ := h
  simp only at h1 h2 h3
  cases r with
  | none =>
    have h' : cn s a s.size < 1 := h2
    have : b = s.size := h3
    rw [this]; omega
  | some p =>
    obtain ⟨r1, r2, r3, r4⟩ := h2
    have e1 := cn_add (s := s) (a := a) (b := p - 1) (c := p) (by omega) (by omega)
    have e2 := cn_one (s := s) (i := p - 1) (by omega)
    rw [show p - 1 + 1 = p by omega, if_pos r3] at e2
    have hb : b ≤ p - 1 := by
      rw [h3]; unfold lend; simp only
      split <;> omega
    have := cn_mono (s := s) (a := a) (b := b) (c := p - 1) hle.1 hb
    omega
/-- behind a line: its newline, and the next line's beginning -/
theorem IsS.nl {s : ByteArray} {l : Int} {a b p : Nat} (h : IsS s l (some (a, b))) (hp : IsB s a s.size 1 (some p)) : b < p ∧ p ≤ s.size ∧ IsNext s b p ∧ cw s b p = 0 ∧ byt s (p - 1) = 10 ∧ (p = b + 1 ∨ (p = b + 2 ∧ byt s b = 13)) ∧ IsN s (l + 1) p := by
  have hle := h.le
  obtain ⟨h1, r, h2, h3⟩ := h
  simp only at h1 h2 h3
  obtain rfl := h2.uniq (Nat.le_refl _) hp
  obtain ⟨r1, r2, r3, r4⟩ := hp
  have cp : cbZ s p = true := lf_cb (by omega) r2 r3
  have hN : IsN s (l + 1) p := by
    have e1 := cn_add (s := s) (a := 0) (b := a) (c := p) (by omega) (by omega)
    exact ⟨r2, .inr r3, by have := h1.2.2; omega⟩
  unfold lend at h3
  simp only at h3
  by_cases e : a < p - 1 ∧ byt s (p - 2) = 13
  · rw [if_pos e] at h3
    have hb : p = b + 2 := by omega
    subst hb
    have e13 : byt s b = 13 := by have := e.2; rwa [show b + 2 - 2 = b by omega] at this
    have e10 : byt s (b + 1) = 10 := by rwa [show b + 2 - 1 = b + 1 by omega] at r3
    have hx : s.extract b (b + 2) = ⟨#[13, 10]⟩ := by
      rw [ext_join (s := s) (a := b) (f := b + 1) (b := b + 2) (by omega) (by omega), ext_one (by omega), show b + 2 = (b + 1) + 1 from rfl, ext_one (by omega), e13, e10]
      rfl
    refine ⟨by omega, r2, ⟨cp, .inl (by omega), fun j j1 j2 => ?_⟩, ?_, r3, .inr ⟨rfl, e13⟩, hN⟩
    · obtain rfl : j = ((b + 1 : Nat) : Int) := by omega
      have hB : B s b := low_B (by omega) (by rw [bt_byt (by omega), e13]; decide)
      have hc : ch s b = 13 := cr_ch (by rw [bt_byt (by omega), e13]; rfl)
      have hz : sz s b = 1 := (ch_cr hc).2
      have hc2 : ch s (b + 1) = 10 := (lf_ch (lf_bt (by omega) e10)).1
      have := cb_at hB (by omega) (by omega)
      rw [hz, hc, hc2] at this
      rw [this]
      decide
    · unfold cw; rw [hx]; decide +kernel
  · rw [if_neg e] at h3
    have hb : p = b + 1 := by omega
    subst hb
    have hx : s.extract b (b + 1) = ⟨#[10]⟩ := by
      rw [ext_one (by omega)]
      rw [show b + 1 - 1 = b by omega] at r3
      rw [r3]
    refine ⟨by omega, r2, ⟨cp, .inl (by omega), fun j j1 j2 => by omega⟩, ?_, r3, .inl rfl, hN⟩
    unfold cw; rw [hx]; decide +kernel
end Go.Proofs.YtplieccalmkloaaGreatDoor.Sto
