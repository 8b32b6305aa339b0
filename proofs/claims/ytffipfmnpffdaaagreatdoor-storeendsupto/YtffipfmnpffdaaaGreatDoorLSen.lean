/-
  The walk of the law StoreEnds: a nil store and the zero Store. Conditions: the two tables of unicode/utf8 lie as their text lays them; what is read holds at most 1048576 values and letters.
-/
import Derived.Test.YtffipfmnpffdaaaGreatDoorPkTJ
import Derived.Test.YtffipfmnpffdaaaGreatDoorPkTI
import Derived.Test.YtffipfmnpffdaaaGreatDoorPkTD
import Derived.Test.YtffipfmnpffdaaaGreatDoorTRefN
namespace Go.Proofs.YtffipfmnpffdaaaGreatDoor.Sto
open Go.RowKit Go.Shelf Bod Wid
open Gap (Gp lim eBA)

theorem rz_new : rnwK 3 0 1 0 = rz := by simp [rnwK, rz]; omega
theorem rz_of : rz = rkOf 1 k0 := by simp [rz, rkOf, kdK, loK, hiK, k0]; omega
theorem gz_new : (⟨⟨#[]⟩, (⟨#[]⟩ : ByteArray).size, lim 0⟩ : Gp) = gz := rfl
theorem rnew_nil (W : World) : Calls Tryz.prog 21 #[.int .i64 3, .int .i64 0, .int .i64 1, .int .i64 0, .string ⟨#[]⟩] W fun e W' => ∃ b p, e = .returned (.tuple #[.pointer (some ⟨b, 0, none⟩), .int .i64 0]) ∧ Rf W' b p gz rz ∧ Below W.heap.size W W' ∧ W.heap.size ≤ b ∧ W.heap.size ≤ p := by
  have := rnew9_ok W 3 0 1 0 ⟨#[]⟩ (by decide) (by decide)
  rw [gz_new] at this
  exact this.mono fun e W' ⟨b, p, q1, q2, q3⟩ => ⟨b, p, q1, by rw [← rz_new]; exact q2, q3⟩
theorem zero_pz {w X W : World} {rb p : Nat} (hX : Below w.heap.size w X) (hb : Below (X.alloc (.cells (scl .nilIface k0) 50)).heap.size (X.alloc (.cells (scl .nilIface k0) 50)) W) (hr : Rf W rb p gz rz) (h1 : (X.alloc (.cells (scl .nilIface k0) 50)).heap.size ≤ rb) (h2 : (X.alloc (.cells (scl .nilIface k0) 50)).heap.size ≤ p) : Pz w X.heap.size rb p 0 0 W := by
  have hB : Below w.heap.size w (X.alloc (.cells (scl .nilIface k0) 50)) := hX.alloc hX.size _
  have hbx : (X.alloc (.cells (scl .nilIface k0) 50)).heap[X.heap.size]? = some (.cells (scl .nilIface k0) 50 (0, 0)) := World.alloc_heap_new X _
  have hs := hB.size
  refine ⟨eBA, 1, k0, gz, rz, ⟨rfl, rfl, rz_of, ⟨by simp [Sk.fit, k0], ?_, ?_, ?_, ?_, ?_, ?_⟩, Nat.le_refl _, .inl rfl⟩, hr.ok, ⟨⟨none, .gap none Gap.g0 0, ⟨(hb.block _ (Array.getElem?_eq_some_iff.1 hbx).1).trans hbx, hold_nil W, rfl⟩, rfl, rfl, Below.on hB hb, ?_, hX.size⟩, hr, Nat.le_trans hs h1, Nat.le_trans hs h2, .refl W⟩, rfl, rfl, rfl, rfl⟩
  · simp [k0]
  · simp [k0]
  · simp [k0]
  · simp [k0]
  · simp [k0]
  · simp [k0]
  · rintro j ⟨b, r, e, _⟩
    cases e
theorem clone_pz {w W : World} {b rb p n z : Nat} (h : Pz w b rb p n z W) : Calls Tryz.prog 26 #[.pointer (some ⟨b, 0, none⟩)] W fun e W' => ∃ c, e = .returned (.pointer (some ⟨c, 0, none⟩)) ∧ Pz w c rb p n z W' := by
  obtain ⟨s, bk, k, g, rk, hL, ho, h, hz⟩ := h
  obtain ⟨x, K, hs⟩ := h.se
  refine (sclone_any hs.st).mono ?_
  rintro e W' ⟨rfl, y, K', q1, q2, q3, q4, q5⟩
  exact ⟨_, rfl, s, bk, k, g, rk, hL, ho, ⟨⟨some y, K', q1, q2.trans hs.bk, q3.trans hs.text, Below.on hs.bel q4, fun j hj => Nat.le_trans hs.bel.size (q5 j hj), hs.bel.size⟩, h.rf.below q4, h.rb0, h.p0, .refl W'⟩, hz⟩
set_option maxRecDepth 100000 in
set_option maxHeartbeats 1000000 in
theorem clone_nil (w : World) : Calls Tryz.prog 26 #[.pointer none] w fun e W' => e = .returned (.pointer none) ∧ W' = w := by
  go_enter Tryz.func26, Tryz.ntmps26
  go_wp2
  go_ret
  exact ⟨rfl, rfl⟩
theorem cn_eq' (mv fo ed : Int) (w : World) : (binOp .eql 48 (.agg #[.int .i64 mv, .int .i64 fo, .int .i64 ed]) (.agg #[.int .i64 0, .int .i64 0, .int .i64 0])).run Tryz.prog w = .ok (.bool (decide (mv = 0 ∧ fo = 0 ∧ ed = 0))) w := by
  by_cases h1 : mv = 0
  · by_cases h2 : fo = 0
    · by_cases h3 : ed = 0
      · subst h1 h2 h3; simp [go_sem]
      · subst h1 h2
        have h3' : (ed == (0 : Int)) = false := by simp; omega
        simp [go_sem, h3, h3']
    · subst h1
      have h2' : (fo == (0 : Int)) = false := by simp; omega
      simp [go_sem, h2, h2']
  · have h1' : (mv == (0 : Int)) = false := by simp; omega
    simp [go_sem, h1, h1']
/-- the document's store beside the zero one: its cells, and what looks says of it and nil -/
structure Nn (W : World) (rb : Nat) (now mv fo ed : Int) : Prop where
  c2 : W.cell? ⟨rb, 2, none⟩ = some (.int .i64 now)
  c5 : W.cell? ⟨rb, 5, none⟩ = some (.int .i64 mv)
  c6 : W.cell? ⟨rb, 6, none⟩ = some (.int .i64 fo)
  c7 : W.cell? ⟨rb, 7, none⟩ = some (.int .i64 ed)
theorem looks_none {w W : World} {b rb p n z : Nat} (h : Pz w b rb p n z W) : ∃ now mv fo ed, (now = 1 ∨ now = 2) ∧ Calls Tryz.prog 24 #[.pointer none, .pointer (some ⟨rb, 0, none⟩)] W fun e W' => e = .returned (.bool (decide (now = 1) && decide (mv = 0 ∧ fo = 0 ∧ ed = 0))) ∧ Pz w b rb p n z W' ∧ Nn W' rb now mv fo ed := by
  have h0 := h
  obtain ⟨s, bk, k, g, rk, ⟨l1, l2, l3, l4, l5, l6⟩, ho, h, z1, z2, z3, z4⟩ := h
  have e1 : rk = ⟨3, bk, 0, 1, k.mv, k.fo, k.ed⟩ := by rw [l3]; simp [rkOf, kdK, loK, hiK, z1, z2, z3]; omega
  have e2 : g.l = 0 := by rw [l2, z4]; rfl
  have e3 : g.s = eBA := by
    have := ho.2.1
    rw [e2] at this
    exact ByteArray.ext (by
      have h0 : g.s.data.size = 0 := by have : g.s.data.size = g.s.size := rfl; omega
      exact Array.eq_empty_of_size_eq_zero h0)
  have hr := h.rf
  rw [e1] at hr
  refine ⟨bk, k.mv, k.fo, k.ed, l6, (looks_nil hr e3 e2 l6).mono fun e W' ⟨q1, q2⟩ => ⟨q1, h0.low q2, ?_⟩⟩
  have hx := (hr.below q2).box
  exact ⟨by simp [World.cell?, hx, rcl], by simp [World.cell?, hx, rcl], by simp [World.cell?, hx, rcl], by simp [World.cell?, hx, rcl]⟩
/-- a new store of the document's own, since Y, beside a call's box -/
structure Vn (Y : World) (vb vp ob : Nat) (bx : Array Value) (X : World) : Prop where
  rf : Rf X vb vp gz rz
  bel : Below Y.heap.size Y X
  r0 : Y.heap.size ≤ vb
  p0 : Y.heap.size ≤ vp
  box : X.heap[ob]? = some (.cells bx 55 (0, 0))
theorem Vn.low {Y X X' : World} {vb vp ob : Nat} {bx : Array Value} (h : Vn Y vb vp ob bx X) (hb : Below X.heap.size X X') : Vn Y vb vp ob bx X' :=
  ⟨h.rf.below hb, Below.on h.bel hb, h.r0, h.p0, (hb.block ob (Array.getElem?_eq_some_iff.1 h.box).1).trans h.box⟩
theorem Vn.pz {w Y X : World} {vb vp ob b rb p n z : Nat} {bx : Array Value} (h : Vn Y vb vp ob bx X) (g : Pz w b rb p n z Y) : Pz w b rb p n z X := g.low h.bel
set_option maxRecDepth 100000 in
set_option maxHeartbeats 4000000 in
theorem ends_walk (l : List Oc) (v : Value) (hl : ∀ x ∈ l, x.fit) (hz : obk l ≤ 1048576) (w : World) (hE : Ev w) (hr : RdC w v l) :
    Calls Tryz.prog 5 #[v] w fun e W' => e = .returned (.bool true) ∧ Below w.heap.size w W' := by
  obtain ⟨N, hN⟩ : ∃ N, l.length = N := ⟨_, rfl⟩
  obtain ⟨ad, cap, rfl, hr⟩ := hr
  have HE : Hid (Ev w) := hE
  have HN : Hid (l.length = N ∧ (∀ x ∈ l, x.fit) ∧ l.length ≤ 16777216 ∧ obk l ≤ 1048576) := ⟨hN, hl, by have := obk_len l; omega, hz⟩
  have HR : Hid (l ≠ [] → ∃ g o, ad = some ⟨g, o, none⟩ ∧ g < w.heap.size ∧ ∀ k x, l[k]? = some x → w.cell? ⟨g, o + k * 4, none⟩ = some (.int .i64 x.kd) ∧ w.cell? ⟨g, o + k * 4 + 1, none⟩ = some (.int .i64 x.a) ∧ w.cell? ⟨g, o + k * 4 + 2, none⟩ = some (.int .i64 x.c) ∧ w.cell? ⟨g, o + k * 4 + 3, none⟩ = some (.string x.p)) := hr
  have hNb : N ≤ 1048576 := by have := obk_len l; omega
  have CF : Hid (Calls Tryz.prog 20 #[] w fun e W' => e = .returned (.bool true) ∧ Hid (Below w.heap.size w W')) := fixed_any w hE
  have C2 : Hid (∀ W X, Below w.heap.size w X → W = X.alloc (.cells #[.nilIface, .int .i64 0, .int .i64 0, .int .i64 0, .int .i64 0, .int .i64 0, .int .i64 0, .int .i64 0] 50) → Calls Tryz.prog 21 #[.int .i64 3, .int .i64 0, .int .i64 1, .int .i64 0, .string ⟨#[]⟩] W fun e W' => ∃ rb, e = .returned (.tuple #[.pointer (some ⟨rb, 0, none⟩), .int .i64 0]) ∧ Hid (∃ p, Pz w X.heap.size rb p 0 0 W')) := fun W X hX e => by
    subst e
    refine (rnew_nil _).mono ?_
    rintro e W' ⟨rb, p, q1, q2, q3, q4, q5⟩
    exact ⟨rb, q1, p, zero_pz hX q3 q2 q4 q5⟩
  rw [hN]
  clear hE hN hl hr hz
  go_enter Tryz.func5, Tryz.ntmps5
  go_wp2_with (first
    | (go_at_call 20; refine CF.out.mono ?_; clear CF; rintro e w1 ⟨rfl, HB1⟩)
    | (go_at_call 21; refine (C2.out _ _ HB1.out rfl).mono ?_; clear C2; rintro e w3 ⟨rb, rfl, H3⟩))
  obtain ⟨b, hb⟩ : ∃ b, w1.heap.size = b := ⟨_, rfl⟩
  rw [hb] at H3 ⊢
  clear hb HB1
  have hpn : ∀ w, (binOp .eql 43 (.pointer none) (.pointer none)).run Tryz.prog w = .ok (.bool true) w := fun w => by kernel_rfl
  go_loopw [7] (fun t wr => ∃ i : Nat, i ≤ N ∧ t = .int .i64 i ∧ ∃ z', Hid (z' + obk (l.drop i) ≤ 1048576 ∧ ∃ p, Pz w b rb p i z' wr)) (fun t _ => N - (intOf t).toNat)
  case atStart => exact ⟨0, Nat.zero_le _, rfl, 0, by have := HN.out.2.2.2; simpa using this, H3.out⟩
  case round =>
    obtain ⟨i, hi, rfl, z', HP⟩ := hrel
    clear H3
    by_cases hlt : i < N
    · obtain ⟨x, hxk⟩ : ∃ x, l[i]? = some x := ⟨l[i]'(by rw [HN.out.1]; exact hlt), List.getElem?_eq_getElem _⟩
      have hxf := HN.out.2.1 x (List.mem_of_getElem? hxk)
      obtain ⟨gs, os, rfl, hgs, hcx⟩ := HR.out (fun e => by rw [e] at hxk; simp at hxk)
      have hob := obk_at hxk
      obtain ⟨hb2, p, hpz⟩ := HP.out
      obtain ⟨y0, y1, y2, y3⟩ : wr.cell? ⟨gs, os + i * 4, none⟩ = some (.int .i64 x.kd) ∧ wr.cell? ⟨gs, os + i * 4 + 1, none⟩ = some (.int .i64 x.a) ∧ wr.cell? ⟨gs, os + i * 4 + 2, none⟩ = some (.int .i64 x.c) ∧ wr.cell? ⟨gs, os + i * 4 + 3, none⟩ = some (.string x.p) := by
        obtain ⟨c0, c1, c2, c3⟩ := hcx i x hxk
        have kp : ∀ j v, w.cell? ⟨gs, j, none⟩ = some v → wr.cell? ⟨gs, j, none⟩ = some v := fun j v h => (hpz.bel.cell (p := ⟨gs, j, none⟩) (by simp; omega)).trans h
        exact ⟨kp _ _ c0, kp _ _ c1, kp _ _ c2, kp _ _ c3⟩
      have HX : Hid (Pz w b rb p i z' (wr.alloc (.cells #[.int .i64 x.kd, .int .i64 x.a, .int .i64 x.c, .string x.p] 55)) ∧ (wr.alloc (.cells #[.int .i64 x.kd, .int .i64 x.a, .int .i64 x.c, .string x.p] 55)).heap[wr.heap.size]? = some (.cells #[.int .i64 x.kd, .int .i64 x.a, .int .i64 x.c, .string x.p] 55 (0, 0))) := ⟨hpz.low ((Below.refl _ wr).alloc (Nat.le_refl _) _), World.alloc_heap_new wr _⟩
      have HF : Hid (x.fit ∧ x.p.size ≤ 1048576 ∧ i ≤ 16777216 ∧ z' + x.p.size ≤ 1048576 ∧ z' + x.p.size + obk (l.drop (i + 1)) ≤ 1048576) := ⟨hxf, by omega, by omega, by omega, by omega⟩
      clear hcx hxk hxf hob hb2 hpz HP hgs
      go_upto_region 10 with fail
      obtain ⟨ob, hob⟩ : ∃ ob, wr.heap.size = ob := ⟨_, rfl⟩
      obtain ⟨W1, hW1⟩ : ∃ W1, wr.alloc (.cells #[.int .i64 x.kd, .int .i64 x.a, .int .i64 x.c, .string x.p] 55) = W1 := ⟨_, rfl⟩
      rw [hW1] at HX ⊢
      rw [hob] at HX ⊢
      clear hW1 hob y0 y1 y2 y3
      obtain ⟨⟨d0, d1, d2, d3⟩, -⟩ := box4 HX.out.2
      have CW : Hid (Calls Tryz.prog 22 #[.pointer (some ⟨b, 0, none⟩), .pointer (some ⟨rb, 0, none⟩), .agg #[.int .i64 x.kd, .int .i64 x.a, .int .i64 x.c, .string x.p]] W1 fun e W' => e = .returned (.bool true) ∧ Hid (Pz w b rb p (i + 1) (z' + x.p.size) W' ∧ W'.heap[ob]? = some (.cells #[.int .i64 x.kd, .int .i64 x.a, .int .i64 x.c, .string x.p] 55 (0, 0)))) := (works_pz HX.out.1 HE.out HF.out.2.2.1 x HF.out.1 HF.out.2.1).mono fun e W' ⟨q1, q2, q3⟩ => ⟨q1, q2, q3.keep _ _ _ _ HX.out.2 (by decide) (by decide) (by decide) (by decide) (by decide) (by decide)⟩
      have CA : Hid (∀ X, Hid (Pz w b rb p (i + 1) (z' + x.p.size) X ∧ X.heap[ob]? = some (.cells #[.int .i64 x.kd, .int .i64 x.a, .int .i64 x.c, .string x.p] 55 (0, 0))) → Calls Tryz.prog 23 #[.pointer (some ⟨b, 0, none⟩), .pointer (some ⟨rb, 0, none⟩), .agg #[.int .i64 x.kd, .int .i64 x.a, .int .i64 x.c, .string x.p]] X fun e W' => e = .returned (.bool true) ∧ Hid (Pz w b rb p (i + 1) (z' + x.p.size) W' ∧ W'.heap[ob]? = some (.cells #[.int .i64 x.kd, .int .i64 x.a, .int .i64 x.c, .string x.p] 55 (0, 0)))) := fun X hX => (asks_pz hX.out.1 HE.out HF.out.2.2.2.1 x HF.out.1).mono fun e W' ⟨q1, q2, q3⟩ => ⟨q1, q2, q3.keep _ _ _ _ hX.out.2 (by decide) (by decide) (by decide) (by decide) (by decide) (by decide)⟩
      have CK : Hid (∀ X, Hid (Pz w b rb p (i + 1) (z' + x.p.size) X ∧ X.heap[ob]? = some (.cells #[.int .i64 x.kd, .int .i64 x.a, .int .i64 x.c, .string x.p] 55 (0, 0))) → Calls Tryz.prog 24 #[.pointer (some ⟨b, 0, none⟩), .pointer (some ⟨rb, 0, none⟩)] X fun e W' => e = .returned (.bool true) ∧ Hid (Pz w b rb p (i + 1) (z' + x.p.size) W' ∧ W'.heap[ob]? = some (.cells #[.int .i64 x.kd, .int .i64 x.a, .int .i64 x.c, .string x.p] 55 (0, 0)))) := fun X hX => (looks_pz hX.out.1).mono fun e W' ⟨q1, q2, q3⟩ => ⟨q1, q2, q3.keep _ _ _ _ hX.out.2 (by decide) (by decide) (by decide) (by decide) (by decide) (by decide)⟩
      go_upto_region 12 with (first
        | (go_at_call 22; refine CW.out.mono ?_; clear CW HX d0 d1 d2 d3; rintro e w4 ⟨rfl, HX⟩; obtain ⟨⟨d0, d1, d2, d3⟩, -⟩ := box4 HX.out.2)
        | (go_at_call 23; refine (CA.out _ HX).mono ?_; clear CA HX d0 d1 d2 d3; rintro e w5 ⟨rfl, HX⟩)
        | (go_at_call 24; refine (CK.out _ HX).mono ?_; clear CK HX; rintro e w6 ⟨rfl, HX⟩))
      clear W1
      have CR : Hid (Calls Tryz.prog 21 #[.int .i64 3, .int .i64 0, .int .i64 1, .int .i64 0, .string ⟨#[]⟩] w6 fun e W' => ∃ vb, e = .returned (.tuple #[.pointer (some ⟨vb, 0, none⟩), .int .i64 0]) ∧ Hid (∃ vp, Vn w6 vb vp ob #[.int .i64 x.kd, .int .i64 x.a, .int .i64 x.c, .string x.p] W')) := (rnew_nil w6).mono fun e W' ⟨vb, vp, q1, q2, q3, q4, q5⟩ => ⟨vb, q1, vp, q2, q3, q4, q5, (q3.block ob (Array.getElem?_eq_some_iff.1 HX.out.2).1).trans HX.out.2⟩
      go_upto_region 13 with (go_at_call 21; refine CR.out.mono ?_; clear CR; rintro e w7 ⟨vb, rfl, HV⟩)
      have HE6 : Hid (Ev w6) := HE.out.below HX.out.1.bel
      have CA : Hid (∀ X, Hid (∃ vp, Vn w6 vb vp ob #[.int .i64 x.kd, .int .i64 x.a, .int .i64 x.c, .string x.p] X) → Calls Tryz.prog 23 #[.pointer none, .pointer (some ⟨vb, 0, none⟩), .agg #[.int .i64 x.kd, .int .i64 x.a, .int .i64 x.c, .string x.p]] X fun e W' => e = .returned (.bool true) ∧ Hid (∃ vp, Vn w6 vb vp ob #[.int .i64 x.kd, .int .i64 x.a, .int .i64 x.c, .string x.p] W')) := fun X ⟨vp, hX⟩ => (asks_nil (HE6.out.below hX.bel) hX.rf x HF.out.1).mono fun e W' ⟨q1, q2⟩ => ⟨q1, vp, hX.low q2⟩
      have CK : Hid (∀ X, Hid (∃ vp, Vn w6 vb vp ob #[.int .i64 x.kd, .int .i64 x.a, .int .i64 x.c, .string x.p] X) → Calls Tryz.prog 24 #[.pointer none, .pointer (some ⟨vb, 0, none⟩)] X fun e W' => e = .returned (.bool true) ∧ Hid (∃ vp, Vn w6 vb vp ob #[.int .i64 x.kd, .int .i64 x.a, .int .i64 x.c, .string x.p] W')) := fun X ⟨vp, hX⟩ => (looks_nil (now := 1) (mv := 0) (fo := 0) (ed := 0) hX.rf rfl rfl (.inl rfl)).mono fun e W' ⟨q1, q2⟩ => ⟨q1, vp, hX.low q2⟩
      have HL : Hid (∀ X, Hid (∃ vp, Vn w6 vb vp ob #[.int .i64 x.kd, .int .i64 x.a, .int .i64 x.c, .string x.p] X) → Obx X ob x.kd x.a x.c x.p) := fun X ⟨vp, hX⟩ => (box4 hX.box).1
      obtain ⟨d0, d1, d2, d3⟩ := HL.out _ HV
      have step : Hid (∀ X, Below w6.heap.size w6 X → Pz w b rb p (i + 1) (z' + x.p.size) X) := fun X hX => HX.out.1.low hX
      by_cases h5 : x.kd = 5
      · have HL5 : Hid (∀ X, Hid (∃ vp, Vn w6 vb vp ob #[.int .i64 x.kd, .int .i64 x.a, .int .i64 x.c, .string x.p] X) → X.cell? ⟨ob, 0, none⟩ = some (.int .i64 5) ∧ X.cell? ⟨ob, 1, none⟩ = some (.int .i64 x.a)) := fun X hX => by
          obtain ⟨a0, a1, _⟩ := HL.out X hX
          rw [h5] at a0
          exact ⟨a0, a1⟩
        have H5 : Hid (x.kd = 5) := h5
        clear h5
        go_upto_region 15 with (first
          | (go_at_call 23; refine (CA.out _ HV).mono ?_; clear CA HV d0 d1 d2 d3; rintro e w8 ⟨rfl, HV⟩)
          | (go_at_call 24; refine (CK.out _ HV).mono ?_; clear CK HV; rintro e w9 ⟨rfl, HV⟩; obtain ⟨d0, d1⟩ := HL5.out _ HV)
          | (go_at_call 25; refine (sw_none _ _).mono ?_; rintro e w10 ⟨rfl, hw10⟩; subst hw10))
        have HB : Hid (Below w6.heap.size w6 w10) := by obtain ⟨_, h⟩ := HV.out; exact h.bel
        obtain ⟨now, mv, fo, ed, hn2, CL⟩ := looks_none (step.out _ HB.out)
        obtain ⟨r, hr⟩ : ∃ r, (decide (now = 1) && decide (mv = 0 ∧ fo = 0 ∧ ed = 0)) = r := ⟨_, rfl⟩
        have CL2 : Hid (Calls Tryz.prog 24 #[.pointer none, .pointer (some ⟨rb, 0, none⟩)] w10 fun e W' => e = .returned (.bool r) ∧ Hid (Pz w b rb p (i + 1) (z' + x.p.size) W') ∧ Nn W' rb now mv fo ed) := by rw [← hr]; exact CL
        have hcn := cn_eq' mv fo ed
        obtain ⟨β, hβ⟩ : ∃ β, decide (mv = 0 ∧ fo = 0 ∧ ed = 0) = β := ⟨_, rfl⟩
        rw [hβ] at hr
        simp only [hβ] at hcn
        clear hβ CL HB step HV
        rcases hn2 with rfl | rfl
        · cases β with
          | true =>
            obtain rfl : true = r := hr
            go_wp2_with (go_at_call 24; refine CL2.out.mono ?_; clear CL2; rintro e w11 ⟨rfl, HP, n2, n5, n6, n7⟩)
            exact ⟨⟨i + 1, by omega, by go_num, z' + x.p.size, HF.out.2.2.2.2, p, HP.out⟩, by simp [intOf]; omega⟩
          | false =>
            obtain rfl : false = r := hr
            go_wp2_with (go_at_call 24; refine CL2.out.mono ?_; clear CL2; rintro e w11 ⟨rfl, HP, n2, n5, n6, n7⟩)
            exact ⟨⟨i + 1, by omega, by go_num, z' + x.p.size, HF.out.2.2.2.2, p, HP.out⟩, by simp [intOf]; omega⟩
        · obtain rfl : false = r := hr
          cases β <;>
          · go_wp2_with (go_at_call 24; refine CL2.out.mono ?_; clear CL2; rintro e w11 ⟨rfl, HP, n2, n5, n6, n7⟩)
            exact ⟨⟨i + 1, by omega, by go_num, z' + x.p.size, HF.out.2.2.2.2, p, HP.out⟩, by simp [intOf]; omega⟩
      · have e5 : (x.kd == 5) = false := by simp [h5]
        have e6 : (x.kd != 5) = true := by simp [h5]
        have CN : Hid (∀ X, Hid (∃ vp, Vn w6 vb vp ob #[.int .i64 x.kd, .int .i64 x.a, .int .i64 x.c, .string x.p] X) → Calls Tryz.prog 22 #[.pointer none, .pointer (some ⟨vb, 0, none⟩), .agg #[.int .i64 x.kd, .int .i64 x.a, .int .i64 x.c, .string x.p]] X fun e W' => e = .returned (.bool true) ∧ Hid (Below w6.heap.size w6 W')) := fun X ⟨vp, hX⟩ => works_nil HE6.out hX.rf hX.bel hX.r0 hX.p0 x HF.out.1 HF.out.2.1 h5
        clear h5
        go_upto_region 15 with (first
          | (go_at_call 23; refine (CA.out _ HV).mono ?_; clear CA HV d0 d1 d2 d3; rintro e w8 ⟨rfl, HV⟩)
          | (go_at_call 24; refine (CK.out _ HV).mono ?_; clear CK HV; rintro e w9 ⟨rfl, HV⟩; obtain ⟨d0, d1, d2, d3⟩ := HL.out _ HV)
          | (go_at_call 22; refine (CN.out _ HV).mono ?_; clear CN HV d0 d1 d2 d3; rintro e w10 ⟨rfl, HV⟩))
        have HB := HV
        obtain ⟨now, mv, fo, ed, hn2, CL⟩ := looks_none (step.out _ HB.out)
        obtain ⟨r, hr⟩ : ∃ r, (decide (now = 1) && decide (mv = 0 ∧ fo = 0 ∧ ed = 0)) = r := ⟨_, rfl⟩
        have CL2 : Hid (Calls Tryz.prog 24 #[.pointer none, .pointer (some ⟨rb, 0, none⟩)] w10 fun e W' => e = .returned (.bool r) ∧ Hid (Pz w b rb p (i + 1) (z' + x.p.size) W') ∧ Nn W' rb now mv fo ed) := by rw [← hr]; exact CL
        have hcn := cn_eq' mv fo ed
        obtain ⟨β, hβ⟩ : ∃ β, decide (mv = 0 ∧ fo = 0 ∧ ed = 0) = β := ⟨_, rfl⟩
        rw [hβ] at hr
        simp only [hβ] at hcn
        clear hβ CL HB step HV
        rcases hn2 with rfl | rfl
        · cases β with
          | true =>
            obtain rfl : true = r := hr
            go_wp2_with (go_at_call 24; refine CL2.out.mono ?_; clear CL2; rintro e w11 ⟨rfl, HP, n2, n5, n6, n7⟩)
            exact ⟨⟨i + 1, by omega, by go_num, z' + x.p.size, HF.out.2.2.2.2, p, HP.out⟩, by simp [intOf]; omega⟩
          | false =>
            obtain rfl : false = r := hr
            go_wp2_with (go_at_call 24; refine CL2.out.mono ?_; clear CL2; rintro e w11 ⟨rfl, HP, n2, n5, n6, n7⟩)
            exact ⟨⟨i + 1, by omega, by go_num, z' + x.p.size, HF.out.2.2.2.2, p, HP.out⟩, by simp [intOf]; omega⟩
        · obtain rfl : false = r := hr
          cases β <;>
          · go_wp2_with (go_at_call 24; refine CL2.out.mono ?_; clear CL2; rintro e w11 ⟨rfl, HP, n2, n5, n6, n7⟩)
            exact ⟨⟨i + 1, by omega, by go_num, z' + x.p.size, HF.out.2.2.2.2, p, HP.out⟩, by simp [intOf]; omega⟩
    · have hiN : i = N := by omega
      subst hiN
      obtain ⟨_, p, hpz⟩ := HP.out
      have K0 : Hid (Calls Tryz.prog 26 #[.pointer none] wr fun e W' => e = .returned (.pointer none) ∧ W' = wr) := clone_nil wr
      have K1 : Hid (Calls Tryz.prog 26 #[.pointer (some ⟨b, 0, none⟩)] wr fun e W' => ∃ c, e = .returned (.pointer (some ⟨c, 0, none⟩)) ∧ Hid (Pz w c rb p i z' W')) := clone_pz hpz
      have K2 : Hid (∀ X c, Hid (Pz w c rb p i z' X) → Calls Tryz.prog 24 #[.pointer (some ⟨c, 0, none⟩), .pointer (some ⟨rb, 0, none⟩)] X fun e W' => e = .returned (.bool true) ∧ Hid (Below w.heap.size w W')) := fun X c hX => (looks_pz hX.out).mono fun e W' ⟨q1, q2, _⟩ => ⟨q1, q2.bel⟩
      clear HP hpz HE HN HR
      go_wp2_with (first
        | (go_at_call 26; refine K0.out.mono ?_; clear K0; rintro e w8 ⟨rfl, hw8⟩; subst hw8)
        | (go_at_call 26; refine K1.out.mono ?_; clear K1; rintro e w9 ⟨c, rfl, H9⟩)
        | (go_at_call 24; refine (K2.out _ _ H9).mono ?_; clear K2; rintro e w10 ⟨rfl, H10⟩))
      go_ret
      exact ⟨rfl, H10.out⟩
end Go.Proofs.YtffipfmnpffdaaaGreatDoor.Sto
namespace Go.Proofs.YtffipfmnpffdaaaGreatDoor.storeEnds
open Go.RowKit Go.Shelf Sto
theorem walk_of {H : Type} {d0 : DataW H} (a0 : Option Addr) (len0 cap0 : Nat) (w : World) (hT : Lib.Utf8Tabs 1 2 w) (hlo0 : 1 < w.heap.size) (hlo1 : 2 < w.heap.size) (l : List Oc) (hr : RdC w (.slice a0 len0 cap0) l) (hl : obk l ≤ Rows.uptoBulk d0 ∧ ∀ x ∈ l, x.fit) (hk : Rows.uptoSmall H ([d0] ++ []) = true) :
    Calls Tryz.prog 5 #[.slice a0 len0 cap0] w fun e W' => e = .returned (.bool true) ∧ Below w.heap.size w W' := by
  have h : Rows.uptoBulkAll ([d0] ++ []) ≤ 1048576 := of_decide_eq_true hk
  simp only [List.append_nil, Rows.uptoBulkAll] at h
  exact ends_walk l _ hl.2 (by have := hl.1; omega) w ⟨hT, hlo0, hlo1⟩ hr
end Go.Proofs.YtffipfmnpffdaaaGreatDoor.storeEnds
