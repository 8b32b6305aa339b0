/-
  What package metric answers: Measure, Whole, Range, Join. Conditions: the two tables of unicode/utf8 lie as their text lays them; the texts are so short that the document's own lists of them can be made.
-/
import Derived.Test.YtplieccalmkloaaGreatDoorPkM
namespace Go.Proofs.YtplieccalmkloaaGreatDoor
open Go.RowKit Bod Wid

/-- what lies where in Measure: the result's box, the summary under way -/
structure MS (w : World) (b : Nat) (m : Sum) (W : World) : Prop where
  res : W.heap[w.heap.size]? = some (.cells (scs sm0) 125 (0, 0))
  box : W.heap[b]? = some (.cells (scs m) 125 (0, 0))
  bel : Below w.heap.size w W
  lt : w.heap.size < b
theorem MS.below {w : World} {b : Nat} {m : Sum} {W W' : World} (h : MS w b m W) (hb : Below W.heap.size W W') : MS w b m W' := by
  have kp : ∀ {k : Nat} {o : Obj}, W.heap[k]? = some o → W'.heap[k]? = some o := fun ho => (hb.block _ (Array.getElem?_eq_some_iff.1 ho).1).trans ho
  exact ⟨kp h.res, kp h.box, h.bel.trans (hb.mono h.bel.size), h.lt⟩
theorem MS.set {w : World} {b : Nat} {m : Sum} {W : World} (h : MS w b m W) (m' : Sum) (i : Nat) (v : Value) (hv : (scs m).setIfInBounds i v = scs m') : MS w b m' (W.setCell ⟨b, i, none⟩ v) := by
  have hg := gcell W b i v
  have := h.lt
  exact ⟨(hg.block _ (Array.getElem?_eq_some_iff.1 h.res).1 (fun e => by have := Option.some.inj e; omega)).trans h.res, by rw [← hv]; exact set1 v h.box, h.bel.setCell (p := ⟨b, i, none⟩) (by simp; omega) _, h.lt⟩
set_option maxRecDepth 100000 in
set_option maxHeartbeats 2000000 in
theorem measure_any (s : ByteArray) (hs : s.size ≤ 288230376151711744) (w : World) (hT : Lib.Utf8Tabs 0 1 w) (hlo0 : 0 < w.heap.size) (hlo1 : 1 < w.heap.size) :
    Calls Tryz.prog 154 #[.string s] w fun e W' => e = .returned (sv (smr s)) ∧ Below w.heap.size w W' := by
  obtain ⟨m, hm⟩ : ∃ m, smr s = m := ⟨_, rfl⟩
  obtain ⟨p, q, e0⟩ : ∃ p q, smc s = ⟨m.by', m.un, m.cl, m.ce, m.nl, p, q⟩ := ⟨⟨#[]⟩, ⟨#[]⟩, by rw [← hm]; rfl⟩
  have e1 : hd s = m.hd := by rw [← hm]; rfl
  have e2 : tl s = m.tl := by rw [← hm]; rfl
  have z1 := hd_size s
  have z2 := tl_size s
  rw [e1] at z1
  rw [e2] at z2
  obtain ⟨W0, hW0⟩ : ∃ W0, w.alloc (.cells #[.int .i64 0, .int .i64 0, .int .i64 0, .int .i64 0, .int .i64 0, .string ⟨#[]⟩, .string ⟨#[]⟩] 125) = W0 := ⟨_, rfl⟩
  have hb0 : Below w.heap.size w W0 := by rw [← hW0]; exact (Below.refl _ w).alloc (Nat.le_refl _) _
  have r0 : W0.heap[w.heap.size]? = some (.cells (scs sm0) 125 (0, 0)) := by rw [← hW0]; exact World.alloc_heap_new w _
  have hz0 : w.heap.size < W0.heap.size := (Array.getElem?_eq_some_iff.1 r0).1
  have CC : Hid (Calls Tryz.prog 162 #[.string s] W0 fun e W' => e = .returned (sv ⟨m.by', m.un, m.cl, m.ce, m.nl, p, q⟩) ∧ Hid (W'.heap[w.heap.size]? = some (.cells (scs sm0) 125 (0, 0)) ∧ Below w.heap.size w W' ∧ w.heap.size < W'.heap.size)) := by
    have := counted_any s (by unfold maxLen; omega) (by omega) W0 (tabs_below hT hb0) (Nat.lt_of_lt_of_le hlo0 hb0.size) (Nat.lt_of_lt_of_le hlo1 hb0.size)
    rw [e0] at this
    exact this.mono fun e W' ⟨h1, h2⟩ => ⟨h1, (h2.block _ hz0).trans r0, hb0.trans (h2.mono hb0.size), Nat.lt_of_lt_of_le hz0 h2.size⟩
  have CF : Hid (∀ W, Calls Tryz.prog 163 #[.string s] W fun e w' => e = .returned (.string m.hd) ∧ W = w') := fun W => by rw [← e1]; exact first_any s W
  have CL : Hid (∀ W, Calls Tryz.prog 164 #[.string s] W fun e w' => e = .returned (.string m.tl) ∧ W = w') := fun W => by rw [← e2]; exact last_any s (by unfold maxLen; omega) W
  have CO : Hid (∀ W b, MS w b m W → Calls Tryz.prog 165 #[sv m] W fun e w' => e = .returned (sv m) ∧ MS w b m w') := fun W b h => (owned_any m (by omega) (by omega) W).mono fun e W' ⟨h1, h2⟩ => ⟨h1, h.below h2⟩
  rw [hm]
  clear hT hlo0 hlo1 e0 e1 e2 z1 z2 hb0 r0 hz0 hm hs
  go_enter Tryz.func154, Tryz.ntmps154
  go_wp2_with (first | (go_at_call 162; refine CC.out.mono ?_; clear CC hW0; rintro e w1 ⟨rfl, hq⟩; obtain ⟨W1, hW1⟩ : ∃ W1, w1.alloc (.cells #[.int .i64 m.by', .int .i64 m.un, .int .i64 m.cl, .int .i64 m.ce, .int .i64 m.nl, .string p, .string q] 125) = W1 := ⟨_, rfl⟩; have HM : Hid (MS w w1.heap.size ⟨m.by', m.un, m.cl, m.ce, m.nl, p, q⟩ W1) := (by show MS _ _ _ _; rw [← hW1]; exact ⟨(Below.heap_alloc _ _ _ hq.out.2.2).trans hq.out.1, World.alloc_heap_new w1 _, hq.out.2.1.alloc hq.out.2.1.size _, hq.out.2.2⟩); obtain ⟨⟨x0, x1, x2, x3, x4, x5, x6⟩, g0, g1, g2, g3, g4, g5, g6⟩ := box7 HM.out.box; clear hq) | (go_at_call 163; refine (CF.out _).mono ?_; clear CF; rintro e w' ⟨rfl, rfl⟩) | (go_at_call 164; refine (CL.out _).mono ?_; clear CL; rintro e w' ⟨rfl, rfl⟩) | (go_at_call 165; refine (CO.out _ _ ((HM.out.set ⟨m.by', m.un, m.cl, m.ce, m.nl, m.hd, q⟩ 5 _ rfl).set m 6 _ rfl)).mono ?_; clear CO x0 x1 x2 x3 x4 x5 x6 g0 g1 g2 g3 g4 g5 g6 HM; rintro e w2 ⟨rfl, h⟩; have HM2 : Hid (MS w w1.heap.size m w2) := h; obtain ⟨⟨z0, z1, z2, z3, z4, z5, z6⟩, f0, f1, f2, f3, f4, f5, f6⟩ := box7 h.res; have hl : w.heap.size < w2.heap.size := (Array.getElem?_eq_some_iff.1 h.res).1; clear h))
  exact bodyPost_ret (v := sv m) (by simp [results, Tryz.results154, go_sem, z0, z1, z2, z3, z4, z5, z6]) rfl ⟨rfl, set7_below HM2.out.bel _ _ _ _ _ _ _⟩
theorem range_held (s : ByteArray) (i j : Int) : s.extract (heldOf s i) (max (heldOf s i) (heldOf s j)) = rangeOf s i j := by
  unfold rangeOf heldOf
  split
  · have : max (min (max i 0) (s.size : Int)).toNat (min (max j 0) (s.size : Int)).toNat = (min (max i 0) (s.size : Int)).toNat := by omega
    rw [this]
    apply ByteArray.ext
    simp
  · have : max (min (max i 0) (s.size : Int)).toNat (min (max j 0) (s.size : Int)).toNat = (min j (s.size : Int)).toNat := by omega
    rw [this]
set_option maxRecDepth 100000 in
set_option maxHeartbeats 1000000 in
theorem mrange_any (s : ByteArray) (i j : Int) (hs : s.size ≤ 288230376151711744) (_hi : -9223372036854775808 ≤ i ∧ i ≤ 9223372036854775807) (_hj : -9223372036854775808 ≤ j ∧ j ≤ 9223372036854775807) (w : World) (hT : Lib.Utf8Tabs 0 1 w) (hlo0 : 0 < w.heap.size) (hlo1 : 1 < w.heap.size) :
    Calls Tryz.prog 210 #[.string s, .int .i64 i, .int .i64 j] w fun e W' => e = .returned (sv (smr (rangeOf s i j))) ∧ Below w.heap.size w W' := by
  rw [← range_held]
  have C1 : Hid (∀ W, Calls Tryz.prog 214 #[.string s, .int .i64 i] W fun e w' => e = .returned (.int .i64 (heldOf s i)) ∧ W = w') := held_any s i
  have C2 : Hid (∀ W, Calls Tryz.prog 214 #[.string s, .int .i64 j] W fun e w' => e = .returned (.int .i64 (heldOf s j)) ∧ W = w') := held_any s j
  have ha : heldOf s i ≤ s.size := by unfold heldOf; omega
  have hb : heldOf s j ≤ s.size := by unfold heldOf; omega
  generalize heldOf s i = a at C1 ha ⊢
  generalize heldOf s j = b at C2 hb ⊢
  obtain ⟨W0, hW0⟩ : ∃ W0, w.alloc (.cells #[.int .i64 0, .int .i64 0, .int .i64 0, .int .i64 0, .int .i64 0, .string ⟨#[]⟩, .string ⟨#[]⟩] 125) = W0 := ⟨_, rfl⟩
  have hb0 : Below w.heap.size w W0 := by rw [← hW0]; exact (Below.refl _ w).alloc (Nat.le_refl _) _
  have r0 : W0.heap[w.heap.size]? = some (.cells (scs sm0) 125 (0, 0)) := by rw [← hW0]; exact World.alloc_heap_new w _
  have hz0 : w.heap.size < W0.heap.size := (Array.getElem?_eq_some_iff.1 r0).1
  have CM : Hid (Calls Tryz.prog 154 #[.string (s.extract a (max a b))] W0 fun e W' => e = .returned (sv (smr (s.extract a (max a b)))) ∧ Hid (W'.heap[w.heap.size]? = some (.cells (scs sm0) 125 (0, 0)) ∧ Below w.heap.size w W')) :=
    (measure_any _ (by rw [size_extract _ _ _ (by omega)]; omega) W0 (tabs_below hT hb0) (Nat.lt_of_lt_of_le hlo0 hb0.size) (Nat.lt_of_lt_of_le hlo1 hb0.size)).mono fun e W' ⟨h1, h2⟩ => ⟨h1, (h2.block _ hz0).trans r0, hb0.trans (h2.mono hb0.size)⟩
  obtain ⟨m, hm⟩ : ∃ m, smr (s.extract a (max a b)) = m := ⟨_, rfl⟩
  rw [hm] at CM ⊢
  have eM : (max (a : Int) b).toNat = max a b := by omega
  clear hT hlo0 hlo1 hb0 r0 hz0 hm
  go_enter Tryz.func210, Tryz.ntmps210
  go_wp2_with (first | (go_at_call 214; refine (C1.out _).mono ?_; clear C1; rintro e w' ⟨rfl, rfl⟩) | (go_at_call 214; refine (C2.out _).mono ?_; clear C2; rintro e w' ⟨rfl, rfl⟩) | (go_at_call 154; (try rw [eM]); refine CM.out.mono ?_; clear CM hW0; rintro e w2 ⟨rfl, h⟩; obtain ⟨⟨z0, z1, z2, z3, z4, z5, z6⟩, f0, f1, f2, f3, f4, f5, f6⟩ := box7 h.out.1; have hl : w.heap.size < w2.heap.size := (Array.getElem?_eq_some_iff.1 h.out.1).1))
  exact bodyPost_ret (v := sv m) (by simp [results, Tryz.results210, go_sem, z0, z1, z2, z3, z4, z5, z6]) rfl ⟨rfl, set7_below h.out.2 _ _ _ _ _ _ _⟩
/-- a slice that reads as summaries -/
def RdM (W : World) (v : Value) (l : List Sum) : Prop :=
  ∃ a cap, v = .slice a l.length cap ∧ (l ≠ [] → ∃ g o, a = some ⟨g, o, none⟩ ∧ g < W.heap.size ∧ ∀ k x, l[k]? = some x →
    W.cell? ⟨g, o + k * 7, none⟩ = some (.int .i64 x.by') ∧ W.cell? ⟨g, o + k * 7 + 1, none⟩ = some (.int .i64 x.un) ∧ W.cell? ⟨g, o + k * 7 + 2, none⟩ = some (.int .i64 x.cl) ∧ W.cell? ⟨g, o + k * 7 + 3, none⟩ = some (.int .i64 x.ce) ∧
    W.cell? ⟨g, o + k * 7 + 4, none⟩ = some (.int .i64 x.nl) ∧ W.cell? ⟨g, o + k * 7 + 5, none⟩ = some (.string x.hd) ∧ W.cell? ⟨g, o + k * 7 + 6, none⟩ = some (.string x.tl))
theorem RdS.m {W : World} {v : Value} {ss : List ByteArray} (h : RdS W v ss) : RdM W v (ss.map smr) := by
  obtain ⟨a, cap, hv, hr⟩ := h
  refine ⟨a, cap, by rw [List.length_map]; exact hv, fun hne => ?_⟩
  obtain ⟨g, o, ha, hg, hc⟩ := hr (fun e => hne (by rw [e]; rfl))
  refine ⟨g, o, ha, hg, fun k x hk => ?_⟩
  rw [List.getElem?_map] at hk
  obtain ⟨s, hs, rfl⟩ := Option.map_eq_some_iff.1 hk
  exact hc k s hs
set_option maxRecDepth 100000 in
set_option maxHeartbeats 4000000 in
theorem mjoin_all (l : List Sum) (v : Value) (w : World) (hv : RdM w v l) (hl : ∀ x ∈ l, Ends 281474976710656 x) (hn : l.length ≤ 4398046511000) (hT : Lib.Utf8Tabs 0 1 w) (hlo0 : 0 < w.heap.size) (hlo1 : 1 < w.heap.size) :
    Calls Tryz.prog 167 #[v] w fun e W' => ∃ z, JR sm0 l z ∧ e = .returned (sv z) ∧ Below w.heap.size w W' := by
  obtain ⟨a, cap, rfl, hr⟩ := hv
  obtain ⟨n, hnn⟩ : ∃ n, l.length = n := ⟨_, rfl⟩
  rw [hnn] at hn ⊢
  have HN : Hid (l.length = n) := hnn
  have HR : Hid _ := hr
  have HL : Hid (∀ x ∈ l, Ends 281474976710656 x) := hl
  have HT : Hid (∀ W, Below w.heap.size w W → Lib.Utf8Tabs 0 1 W ∧ 0 < W.heap.size ∧ 1 < W.heap.size) := fun W hb => ⟨tabs_below hT hb, Nat.lt_of_lt_of_le hlo0 hb.size, Nat.lt_of_lt_of_le hlo1 hb.size⟩
  obtain ⟨W1, hW1⟩ : ∃ W1, (w.alloc (.cells #[.int .i64 0, .int .i64 0, .int .i64 0, .int .i64 0, .int .i64 0, .string ⟨#[]⟩, .string ⟨#[]⟩] 125)).alloc (.cells #[.int .i64 0, .int .i64 0, .int .i64 0, .int .i64 0, .int .i64 0, .string ⟨#[]⟩, .string ⟨#[]⟩] 125) = W1 := ⟨_, rfl⟩
  have HJ1 : Hid (∃ m, JR sm0 (l.take 0) m ∧ JS w m W1) := by
    refine ⟨sm0, rfl, ?_⟩
    rw [← hW1]
    obtain ⟨p0, p1⟩ := push2' w.heap (.cells (scs sm0) 125) (.cells (scs sm0) 125)
    exact ⟨p0, p1, ((Below.refl _ w).alloc (Nat.le_refl _) _).alloc (by simp) _⟩
  clear hr hnn hl hT hlo0 hlo1
  go_enter Tryz.func167, Tryz.ntmps167
  go_wp2
  clear hW1
  go_loopw [8] (fun t wr => ∃ k : Nat, t = .int .i64 k ∧ k ≤ n ∧ Hid (∃ m, JR sm0 (l.take k) m ∧ JS w m wr)) (fun t _ => n - (intOf t).toNat)
  case atStart => exact ⟨0, rfl, Nat.zero_le _, HJ1⟩
  case round =>
    obtain ⟨k, rfl, hk, HK⟩ := hrel
    clear HJ1
    obtain ⟨m, hjm, hjs⟩ := HK.out
    clear HK
    have HJM : Hid (JR sm0 (l.take k) m) := hjm
    have HK : Hid (JS w m wr) := hjs
    clear hjm hjs
    by_cases hlt : k < n
    · obtain ⟨y, hsk⟩ : ∃ y, l[k]? = some y := ⟨l[k]'(by rw [HN.out]; exact hlt), List.getElem?_eq_getElem _⟩
      obtain ⟨g, o, hg, hgl, hcell⟩ := (Hid.out HR) (fun e => by rw [e] at hsk; simp at hsk)
      subst hg
      obtain ⟨c0, c1, c2, c3, c4, c5, c6⟩ := hcell k y hsk
      have cl : ∀ {i : Nat} {u : Value}, w.cell? ⟨g, i, none⟩ = some u → wr.cell? ⟨g, i, none⟩ = some u := fun h => (HK.out.bel.cell (p := ⟨g, _, none⟩) hgl).trans h
      have d0 := cl c0; have d1 := cl c1; have d2 := cl c2; have d3 := cl c3; have d4 := cl c4; have d5 := cl c5; have d6 := cl c6
      obtain ⟨⟨b0, b1, b2, b3, b4, b5, b6⟩, -⟩ := box7 HK.out.box
      have B0 := cell_al b0; have B1 := cell_al b1; have B2 := cell_al b2; have B3 := cell_al b3; have B4 := cell_al b4; have B5 := cell_al b5; have B6 := cell_al b6
      have hlw : w.heap.size + 1 < wr.heap.size := (Array.getElem?_eq_some_iff.1 HK.out.box).1
      have hyE : Ends 281474976710656 y := HL.out y (List.mem_of_getElem? hsk)
      have hmE : Ends 281474976710656 m := HJM.out.ends (by omega) ⟨Nat.zero_le _, Nat.zero_le _⟩ (fun x hx => HL.out x (List.mem_of_mem_take hx))
      have HS : Hid (∀ z, Jn m y z → JR sm0 (l.take (k + 1)) z) := fun z hz => by
        rw [List.take_add_one, hsk]
        exact HJM.out.snoc hz
      have C2 : Hid (∀ o, Calls Tryz.prog 170 #[sv m, sv y] (wr.alloc o) fun e W' => ∃ z, Jn m y z ∧ e = .returned (sv z) ∧ JS w m W') := fun o => by
        have hb := HK.out.bel.alloc HK.out.bel.size o
        obtain ⟨t1, t2, t3⟩ := HT.out _ hb
        exact (joined_all m y (by have := hmE.1; omega) (by have := hmE.2; omega) (by have := hyE.1; omega) (by have := hyE.2; omega) _ t1 t2 t3).mono fun e W' ⟨z, h1, h2, h3⟩ => ⟨z, h1, h2, (HK.out.below ((Below.refl _ wr).alloc (Nat.le_refl _) o)).below h3⟩
      clear hcell c0 c1 c2 c3 c4 c5 c6 cl hyE hmE hgl b0 b1 b2 b3 b4 b5 b6 hsk
      go_wp2_with (go_at_call 170; refine (C2.out _).mono ?_; rintro e w2 ⟨z, hz, rfl, hj2⟩; have HJ2 : Hid (JS w m w2) := hj2; have HZ : Hid (Jn m y z) := hz; obtain ⟨⟨v0, v1, v2, v3, v4, v5, v6⟩, f0, f1, f2, f3, f4, f5, f6⟩ := box7 hj2.box; have hl2 : w.heap.size + 1 < w2.heap.size := (Array.getElem?_eq_some_iff.1 hj2.box).1; clear hj2 hz)
      exact ⟨⟨k + 1, by go_num, by omega, ⟨z, HS.out z HZ.out, HJ2.out.set z⟩⟩, by simp [intOf]; omega⟩
    · have HJ : Hid (JR sm0 l m) := by
        have := HJM.out
        rwa [List.take_of_length_le (show l.length ≤ k by rw [HN.out]; omega)] at this
      have hmE : Ends 281474976710656 m := HJ.out.ends (by omega) ⟨Nat.zero_le _, Nat.zero_le _⟩ HL.out
      have CO : Hid (Calls Tryz.prog 165 #[sv m] wr fun e w' => e = .returned (sv m) ∧ JS w m w') := (owned_any m hmE.1 hmE.2 wr).mono fun e W' ⟨h1, h2⟩ => ⟨h1, HK.out.below h2⟩
      obtain ⟨⟨y0, y1, y2, y3, y4, y5, y6⟩, -⟩ := box7 HK.out.box
      clear HJM HK hmE
      go_wp2_with (go_at_call 165; refine CO.out.mono ?_; clear CO; rintro e w2 ⟨rfl, hj2⟩; have HB : Hid (Below w.heap.size w w2) := hj2.bel; obtain ⟨⟨z0, z1, z2, z3, z4, z5, z6⟩, f0, f1, f2, f3, f4, f5, f6⟩ := box7 hj2.res; have hz : w.heap.size < w2.heap.size := (Array.getElem?_eq_some_iff.1 hj2.res).1; clear hj2)
      exact bodyPost_ret (v := sv m) (by simp [results, Tryz.results167, go_sem, z0, z1, z2, z3, z4, z5, z6]) rfl ⟨m, HJ.out, rfl, set7_below HB.out _ _ _ _ _ _ _⟩
theorem mjoin_any (ss : List ByteArray) (v : Value) (w : World) (hv : RdS w v ss) (hs : (cat ss).size ≤ 288230376151711744) (hn : ss.length ≤ 4398046511000) (hT : Lib.Utf8Tabs 0 1 w) (hlo0 : 0 < w.heap.size) (hlo1 : 1 < w.heap.size) :
    Calls Tryz.prog 167 #[v] w fun e W' => e = .returned (sv (smr (cat ss))) ∧ Below w.heap.size w W' :=
  (mjoin_all (ss.map smr) v w hv.m (fun x hx => by
    obtain ⟨s, _, rfl⟩ := List.mem_map.1 hx
    have h1 := hd_size s
    have h2 := tl_size s
    exact ⟨by show (hd s).size ≤ _; omega, by show (tl s).size ≤ _; omega⟩) (by rw [List.length_map]; exact hn) hT hlo0 hlo1).mono fun e W' ⟨z, h1, h2, h3⟩ => by
      have e := JR_smr (a := ByteArray.empty) h1 (by show (cat ss).size ≤ _; omega)
      rw [e] at h2
      exact ⟨h2, h3⟩
end Go.Proofs.YtplieccalmkloaaGreatDoor
