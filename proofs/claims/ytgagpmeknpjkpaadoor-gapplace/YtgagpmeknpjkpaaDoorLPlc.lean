/-
  The law GapPlace returns true: moves of the gap between the edits change no text and no answer. Conditions: the two tables of unicode/utf8 lie as their text lays them.
-/
import Derived.Test.YtgagpmeknpjkpaaDoorGTwo
import Derived.Test.YtgagpmeknpjkpaaDoorUInts
namespace Go.Proofs.YtgagpmeknpjkpaaDoor.gapPlace
open Go.RowKit Bod

/-- what a round needs behind its move -/
structure Tail (n0 : Nat) (w : World) (ba bb : Nat) (ga gb : Gp) (x : Opr) (out : ByteArray) (err : Int) (s' l r : ByteArray) (p' : Nat) (ga' gb' : Gp) : Prop where
  lr : l ++ r = s'
  ls : l.size = p'
  lb : l.size ≤ 1073741824 ∧ r.size ≤ 1073741824
  sa : ga'.s = gb'.s ∧ ga'.l = gb'.l
  da : ∀ W, Two n0 w ba bb ga gb W → Calls Tryd.prog 10 #[.pointer (some ⟨ba, 0, none⟩), ov x] W fun e W' => e = .returned (.tuple #[.string out, .int .i64 err]) ∧ Two n0 w ba bb ga' gb W'
  db : ∀ W, Two n0 w ba bb ga' gb W → Calls Tryd.prog 10 #[.pointer (some ⟨bb, 0, none⟩), ov x] W fun e W' => e = .returned (.tuple #[.string out, .int .i64 err]) ∧ Two n0 w ba bb ga' gb' W'
  hb : ∀ W, Two n0 w ba bb ga' gb' W → Calls Tryd.prog 11 #[.pointer (some ⟨bb, 0, none⟩)] W fun e W' => e = .returned (.tuple #[.string l, .string r]) ∧ Two n0 w ba bb ga' gb' W'
  ta : ∀ W, Two n0 w ba bb ga' gb' W → Calls Tryd.prog 12 #[.pointer (some ⟨ba, 0, none⟩)] W fun e W' => e = .returned (.string s') ∧ Two n0 w ba bb ga' gb' W'
  tb : ∀ W, Two n0 w ba bb ga' gb' W → Calls Tryd.prog 12 #[.pointer (some ⟨bb, 0, none⟩)] W fun e W' => e = .returned (.string s') ∧ Two n0 w ba bb ga' gb' W'
  pb : ∀ W, Two n0 w ba bb ga' gb' W → Calls Tryd.prog 7 #[.pointer (some ⟨bb, 0, none⟩)] W fun e W' => e = .returned (.int .i64 p') ∧ Two n0 w ba bb ga' gb' W'
  fa : ∀ W, Two n0 w ba bb ga' gb' W → Calls Tryd.prog 13 #[.pointer (some ⟨ba, 0, none⟩)] W fun e W' => e = .returned (.bool true) ∧ Two n0 w ba bb ga' gb' W'
  fb : ∀ W, Two n0 w ba bb ga' gb' W → Calls Tryd.prog 13 #[.pointer (some ⟨bb, 0, none⟩)] W fun e W' => e = .returned (.bool true) ∧ Two n0 w ba bb ga' gb' W'
theorem ext_join (s : ByteArray) (p : Nat) : s.extract 0 p ++ s.extract p s.size = s := by
  rw [ext_list, ext_list]
  apply ByteArray.ext
  apply Array.toList_inj.1
  simp only [ByteArray.data_append, Array.toList_append, Nat.sub_zero, List.drop_zero]
  rw [show (s.data.toList.drop p).take (s.size - p) = s.data.toList.drop p from List.take_of_length_le (by rw [List.length_drop, sz_list]; exact Nat.le_refl _)]
  exact List.take_append_drop p s.data.toList
theorem two_ok {n0 : Nat} {w W : World} {ba bb : Nat} {ga gb : Gp} (h : Two n0 w ba bb ga gb W) : gb.ok := by
  obtain ⟨_, _, _, _, _, h2, _⟩ := h
  exact h2.ok
theorem tail_of {n0 : Nat} {w : World} {ba bb : Nat} {ga gb : Gp} (hn : n0 ≤ w.heap.size) (hg : gb.ok) (e1 : ga.s = gb.s) (e2 : ga.l = gb.l) (x : Opr) (hx : x.fit) :
    ∃ out err s' l r p' ga' gb', Tail n0 w ba bb ga gb x out err s' l r p' ga' gb' := by
  obtain ⟨d1, d2, d3⟩ := gDone_same e1 e2 x
  have ok : (gDone gb x).1.ok := by
    unfold gDone
    split
    · exact gRep_ok hg _ _ _
    · split
      · exact gRep_ok hg _ _ _
      · split
        · exact gRep_ok hg _ _ _
        · split
          · exact gReset_ok hg _
          · exact hg
  refine ⟨(gDone ga x).2.1, (gDone ga x).2.2, (gDone gb x).1.s, (gDone gb x).1.s.extract 0 (gDone gb x).1.p, (gDone gb x).1.s.extract (gDone gb x).1.p (gDone gb x).1.s.size, (gDone gb x).1.p, (gDone ga x).1, (gDone gb x).1,
    ext_join _ _, by rw [size_ext ok.1]; omega, ⟨by rw [size_ext ok.1]; have := ok; unfold Gp.ok at this; omega, by rw [size_ext (Nat.le_refl _)]; have := ok; unfold Gp.ok at this; omega⟩, ⟨d2, d3⟩, fun W h => ?_, fun W h => ?_, fun W h => ?_, fun W h => ?_, fun W h => ?_, fun W h => ?_, fun W h => ?_, fun W h => ?_⟩
  · obtain ⟨ra, na, i, k⟩ := h.fst hn
    exact (done_is i x hx).mono fun e W' ⟨q1, q2⟩ => ⟨q1, k _ _ _ q2⟩
  · obtain ⟨rb, nb, i, k⟩ := h.swap.fst hn
    exact (done_is i x hx).mono fun e W' ⟨q1, q2⟩ => ⟨by rw [d1]; exact q1, (k _ _ _ q2).swap⟩
  · obtain ⟨rb, nb, i, k⟩ := h.swap.fst hn
    exact (halves_is i).mono fun e W' ⟨q1, q2⟩ => ⟨q1, h.low hn q2⟩
  · obtain ⟨rb, nb, i, k⟩ := h.fst hn
    exact (text_is i).mono fun e W' ⟨q1, q2⟩ => ⟨by rw [← d2]; exact q1, h.low hn q2⟩
  · obtain ⟨rb, nb, i, k⟩ := h.swap.fst hn
    exact (text_is i).mono fun e W' ⟨q1, q2⟩ => ⟨q1, h.low hn q2⟩
  · obtain ⟨rb, nb, i, k⟩ := h.swap.fst hn
    exact (place_is i).mono fun e W' ⟨q1, q2⟩ => ⟨q1, h.low hn q2⟩
  · obtain ⟨rb, nb, i, k⟩ := h.fst hn
    exact (lawful_is i).mono fun e W' ⟨q1, q2⟩ => ⟨q1, h.low hn q2⟩
  · obtain ⟨rb, nb, i, k⟩ := h.swap.fst hn
    exact (lawful_is i).mono fun e W' ⟨q1, q2⟩ => ⟨q1, h.low hn q2⟩

/-- Place of a buffer that is there: nothing is made -/
theorem place_pb {w : World} {b : Nat} {r : Option Nat} {g : Gp} {n : Nat} (h : PB w b r g n) : Calls Tryd.prog 7 #[.pointer (some ⟨b, 0, none⟩)] w fun x w' => x = .returned (.int .i64 g.p) ∧ w' = w := by
  obtain ⟨A, e, hP, _⟩ := h.ex
  obtain ⟨⟨c0, c1, c2, c3⟩, -⟩ := box4 hP.box
  have CO := ore_any b w
  clear h hP c0 c2 c3
  go_enter Tryd.func7, Tryd.ntmps7
  go_wp2_with (go_at_call 22; refine CO.mono ?_; clear CO; rintro x w1 ⟨rfl, rfl⟩)
  go_ret
  exact ⟨rfl, rfl⟩
theorem two_place {n0 : Nat} {w W : World} {ba bb : Nat} {ga gb : Gp} (h : Two n0 w ba bb ga gb W) (j : Nat) : Calls Tryd.prog 7 #[.pointer (some ⟨bb, 0, none⟩)] (W.drewN j) fun x w' => x = .returned (.int .i64 gb.p) ∧ ∃ k, w' = W.drewN k := by
  obtain ⟨ra, na, rb, nb, _, h2, _⟩ := h
  exact (place_pb (h2.drewN j)).mono fun x w' ⟨e1, e2⟩ => ⟨e1, j, e2⟩
theorem two_move {n0 : Nat} {w W : World} {ba bb : Nat} {ga gb : Gp} (h : Two n0 w ba bb ga gb W) (hn : n0 ≤ w.heap.size) (a : Int) : Calls Tryd.prog 8 #[.pointer (some ⟨bb, 0, none⟩), .int .i64 a] W fun x w' => x = .returned (.int .i64 (gMove gb a).2) ∧ Two n0 w ba bb ga (gMove gb a).1 w' := by
  obtain ⟨rb, nb, i, k⟩ := h.swap.fst hn
  exact (move_is i a).mono fun e W' ⟨q1, o2, i1, i2, i3⟩ => ⟨q1, (k _ 0 _ ⟨o2, nb, i1, i2, i3, fun _ => rfl⟩).swap⟩
theorem two_len {n0 : Nat} {w W : World} {ba bb : Nat} {ga gb : Gp} (h : Two n0 w ba bb ga gb W) (hn : n0 ≤ w.heap.size) : Calls Tryd.prog 9 #[.pointer (some ⟨bb, 0, none⟩)] W fun x w' => x = .returned (.int .i64 gb.s.size) ∧ Two n0 w ba bb ga gb w' := by
  obtain ⟨rb, nb, i, k⟩ := h.swap.fst hn
  exact (len_is i).mono fun e W' ⟨q1, q2⟩ => ⟨q1, h.low hn q2⟩
theorem two_at {n0 : Nat} {w W : World} {ba bb : Nat} {ga gb : Gp} (h : Two n0 w ba bb ga gb W) (hn : n0 ≤ w.heap.size) : Calls Tryd.prog 7 #[.pointer (some ⟨bb, 0, none⟩)] W fun x w' => x = .returned (.int .i64 gb.p) ∧ Two n0 w ba bb ga gb w' := by
  obtain ⟨rb, nb, i, k⟩ := h.swap.fst hn
  exact (place_is i).mono fun e W' ⟨q1, q2⟩ => ⟨q1, h.low hn q2⟩
theorem two_new {n1 : Nat} {W0 W1 W2 W3 : World} {g : Gp} (hn : n1 ≤ W0.heap.size) (hb : Below n1 W0 W1) (h1 : Nb W1 g W2) (h2 : Nb W2 g W3) : Two n1 W0 W1.heap.size W2.heap.size g g W3 := by
  obtain ⟨r1, m1, p1, b1, k1⟩ := h1
  obtain ⟨r2, m2, p2, b2, k2⟩ := h2
  have l1 := p1.lt
  have s1 : n1 ≤ W1.heap.size := Nat.le_trans hn hb.size
  refine ⟨r1, m1, r2, m2, p1.below b2, p2, ⟨by omega, fun e => ?_, fun e => ?_, fun k e1 e2 => ?_⟩, ⟨s1, by omega, fun k e => ?_, fun k e => ?_⟩, (hb.trans (b1.mono s1)).trans (b2.mono (by omega))⟩
  · have := (p1.row e).2; omega
  · have := k2 _ e; omega
  · have := (p1.row e1).2; have := k2 _ e2; omega
  · have := k1 _ e; omega
  · have := k2 _ e; omega
set_option maxRecDepth 100000 in
set_option maxHeartbeats 4000000 in
theorem walk (s : ByteArray) (m : Int) (l : List Opr) (ms : List Int) (N M : Nat) (a1 a2 : Option Addr) (c1 c2 : Nat) (hN : l.length = N) (hNb : N ≤ 140737488351232) (hl : ∀ x ∈ l, x.fit) (w : World) (hr : l ≠ [] → ∃ g o, a1 = some ⟨g, o, none⟩ ∧ g < w.heap.size ∧ ∀ k x, l[k]? = some x → w.cell? ⟨g, o + k * 4, none⟩ = some (.int .i64 x.k) ∧ w.cell? ⟨g, o + k * 4 + 1, none⟩ = some (.int .i64 x.a) ∧ w.cell? ⟨g, o + k * 4 + 2, none⟩ = some (.int .i64 x.b) ∧ w.cell? ⟨g, o + k * 4 + 3, none⟩ = some (.string x.s)) (hm : Wholes w a2 M ms) (hT : Lib.Utf8Tabs 1 2 w) :
    Calls Tryd.prog 3 #[.agg #[.string s, .int .i64 m], .slice a1 N c1, .slice a2 M c2] w fun e w' => e = .returned (.bool true) ∧ Below w.heap.size w w' := by
  obtain ⟨W0, hW0⟩ : ∃ W0, w.alloc (.cells #[.string s, .int .i64 m] 23) = W0 := ⟨_, rfl⟩
  obtain ⟨n1, hn1'⟩ : ∃ n1, W0.heap.size = n1 := ⟨_, rfl⟩
  have hn1 : n1 ≤ W0.heap.size := by omega
  have hB0 : Below w.heap.size w W0 := by rw [← hW0]; exact (Below.refl _ w).alloc (Nat.le_refl _) _
  have hx0 : W0.heap[w.heap.size]? = some (.cells #[.string s, .int .i64 m] 23 (0, 0)) := by rw [← hW0]; exact World.alloc_heap_new w _
  have hS0 : w.heap.size < n1 := by rw [← hn1']; exact (Array.getElem?_eq_some_iff.1 hx0).1
  have HX : Hid (∀ W, Below n1 W0 W → W.cell? ⟨w.heap.size, 0, none⟩ = some (.string s) ∧ W.cell? ⟨w.heap.size, 1, none⟩ = some (.int .i64 m)) := fun W hW => by
    have : W.heap[w.heap.size]? = some (.cells #[.string s, .int .i64 m] 23 (0, 0)) := (hW.block _ hS0).trans hx0
    simp [World.cell?, this]
  have CF : Hid (Calls Tryd.prog 5 #[] W0 fun e w' => e = .returned (.bool true) ∧ Below n1 W0 w') := by
    have := fixed_any W0 (tabs_below hT hB0)
    rw [hn1'] at this
    exact this
  have HEnd : Hid (∀ W, Below n1 W0 W → Below w.heap.size w W) := fun W hW => hB0.trans (hW.mono (by omega))
  have HOp : Hid (∀ k x, l[k]? = some x → ∃ g o, a1 = some ⟨g, o, none⟩ ∧ ∀ W, Below n1 W0 W → W.cell? ⟨g, o + k * 4, none⟩ = some (.int .i64 x.k) ∧ W.cell? ⟨g, o + k * 4 + 1, none⟩ = some (.int .i64 x.a) ∧ W.cell? ⟨g, o + k * 4 + 2, none⟩ = some (.int .i64 x.b) ∧ W.cell? ⟨g, o + k * 4 + 3, none⟩ = some (.string x.s)) := fun k x hk => by
    obtain ⟨g, o, e, hg, hc⟩ := hr (fun e => by rw [e] at hk; cases hk)
    obtain ⟨q0, q1, q2, q3⟩ := hc k x hk
    refine ⟨g, o, e, fun W hW => ?_⟩
    have kp : ∀ i v, w.cell? ⟨g, i, none⟩ = some v → W.cell? ⟨g, i, none⟩ = some v := fun i v h => ((hW.cell (p := ⟨g, i, none⟩) (by simp; omega)).trans (hB0.cell (p := ⟨g, i, none⟩) hg)).trans h
    exact ⟨kp _ _ q0, kp _ _ q1, kp _ _ q2, kp _ _ q3⟩
  have HMs : Hid (∀ k, k < M → ∃ g o, a2 = some ⟨g, o, none⟩ ∧ ∃ at' : Int, (-9223372036854775808 ≤ at' ∧ at' ≤ 9223372036854775807) ∧ ∀ W, Below n1 W0 W → W.cell? ⟨g, o + k, none⟩ = some (.int .i64 at')) := fun k hk => by
    obtain ⟨e0, hbd, hc⟩ := hm
    obtain ⟨g, o, e, hg, hcell⟩ := hc (by omega)
    refine ⟨g, o, e, ms[k]'(by omega), hbd _ (List.getElem_mem _), fun W hW => ?_⟩
    have := hcell k (by omega)
    rw [List.getElem?_eq_getElem (by omega)] at this
    exact ((hW.cell (p := ⟨g, o + k, none⟩) (by simp; omega)).trans (hB0.cell (p := ⟨g, o + k, none⟩) hg)).trans this
  have HN : Hid (l.length = N ∧ ∀ x ∈ l, x.fit) := ⟨hN, hl⟩
  have CN : Hid (∀ W, Calls Tryd.prog 6 #[.string s, .int .i64 m] W fun e w' => match gNew s m with
      | none => e = .returned (.tuple #[.pointer none, .int .i64 2]) ∧ Below W.heap.size W w'
      | some g => e = .returned (.tuple #[.pointer (some ⟨W.heap.size, 0, none⟩), .int .i64 0]) ∧ Nb W g w') := fun W => new_any s m W
  have HD : Hid (∀ W W', Below n1 W0 W → Below W.heap.size W W' → Below n1 W0 W') := fun W W' h1 h2 => h1.trans (h2.mono (Nat.le_trans hn1 h1.size))
  clear hr hm hT hB0 hx0 hS0 hN hl
  cases hg : gNew s m with
  | none =>
    rw [hg] at CN
    go_enter Tryd.func3, Tryd.ntmps3
    go_wp2_with (first
      | (go_at_call 5; refine CF.out.mono ?_; clear CF; rintro e w1 ⟨rfl, hb1⟩; have HB1 : Hid (Below n1 W0 w1) := hb1; obtain ⟨z0, z1⟩ := HX.out _ hb1; clear hb1)
      | (go_at_call 6; refine (CN.out w1).mono ?_; rintro e w2 ⟨rfl, hb2⟩; have HB2 : Hid (Below n1 W0 w2) := HD.out _ _ HB1.out hb2; clear hb2 z0 z1; obtain ⟨z0, z1⟩ := HX.out _ HB2.out)
      | (go_at_call 6; refine (CN.out w2).mono ?_; rintro e w3 ⟨rfl, hb3⟩; have HB3 : Hid (Below n1 W0 w3) := HD.out _ _ HB2.out hb3; clear hb3))
    go_ret
    exact ⟨rfl, HEnd.out _ HB3.out⟩
  | some g =>
    rw [hg] at CN
    dsimp only at CN
    go_enter Tryd.func3, Tryd.ntmps3
    go_wp2_with (first
      | (go_at_call 5; refine CF.out.mono ?_; clear CF; rintro e w1 ⟨rfl, hb1⟩; have HB1 : Hid (Below n1 W0 w1) := hb1; obtain ⟨z0, z1⟩ := HX.out _ hb1; clear hb1)
      | (go_at_call 6; refine (CN.out w1).mono ?_; rintro e w2 ⟨rfl, hk2⟩; have HK2 : Hid (Nb w1 g w2) := hk2; obtain ⟨z2, z3⟩ := HX.out _ (HD.out _ _ HB1.out (by obtain ⟨_, _, _, q, _⟩ := hk2; exact q)); clear hk2)
      | (go_at_call 6; refine (CN.out w2).mono ?_; rintro e w3 ⟨rfl, hk3⟩; have HT3 : Hid (Two n1 W0 w1.heap.size w2.heap.size g g w3) := two_new hn1 HB1.out HK2.out hk3; clear hk3))
    obtain ⟨ba, hba⟩ : ∃ ba, w1.heap.size = ba := ⟨_, rfl⟩
    obtain ⟨bb, hbb⟩ : ∃ bb, w2.heap.size = bb := ⟨_, rfl⟩
    rw [hba, hbb] at HT3
    rw [hba, hbb]
    clear hba hbb z0 z1 z2 z3 HB1 HK2 CN hg HX HD
    go_loopw [11] (fun t wr => ∃ k : Nat, k ≤ N ∧ t = .int .i64 k ∧ ∃ ga gb, Two n1 W0 ba bb ga gb wr ∧ ga.s = gb.s ∧ ga.l = gb.l) (fun t _ => N - (intOf t).toNat)
    case atStart => exact ⟨0, Nat.zero_le _, rfl, g, g, HT3.out, rfl, rfl⟩
    case round =>
      obtain ⟨k, hk, rfl, ga, gb, hT0, es, em⟩ := hrel
      clear HT3
      by_cases hlt : k < N
      · obtain ⟨x, hxk⟩ : ∃ x, l[k]? = some x := ⟨l[k]'(by rw [HN.out.1]; exact hlt), List.getElem?_eq_getElem _⟩
        have hxf := HN.out.2 x (List.mem_of_getElem? hxk)
        obtain ⟨gs, os, rfl, hcx⟩ := HOp.out k x hxk
        have HC : Hid (∀ W, Below n1 W0 W → W.cell? ⟨gs, os + k * 4, none⟩ = some (.int .i64 x.k) ∧ W.cell? ⟨gs, os + k * 4 + 1, none⟩ = some (.int .i64 x.a) ∧ W.cell? ⟨gs, os + k * 4 + 2, none⟩ = some (.int .i64 x.b) ∧ W.cell? ⟨gs, os + k * 4 + 3, none⟩ = some (.string x.s)) := hcx
        clear hcx hxk
        by_cases hmv : k < M
        · obtain ⟨gq, oq, rfl, at', hat, hca⟩ := HMs.out k hmv
          have u0 := hca _ hT0.bel
          clear hca
          obtain ⟨pp, hpp⟩ : ∃ pp, gb.p = pp := ⟨_, rfl⟩
          obtain ⟨sz, hsz⟩ : ∃ sz, gb.s.size = sz := ⟨_, rfl⟩
          have HQ : Hid (∀ j, Calls Tryd.prog 7 #[.pointer (some ⟨bb, 0, none⟩)] (wr.drewN j) fun x w' => x = .returned (.int .i64 pp) ∧ ∃ k, w' = wr.drewN k) := fun j => by rw [← hpp]; exact two_place hT0 j
          have hplc : ∀ W, Two n1 W0 ba bb ga gb W → Calls Tryd.prog 7 #[.pointer (some ⟨bb, 0, none⟩)] W fun e W' => e = .returned (.int .i64 pp) ∧ Two n1 W0 ba bb ga gb W' := fun W h => by rw [← hpp]; exact two_at h hn1
          have hlen : ∀ W, Two n1 W0 ba bb ga gb W → Calls Tryd.prog 9 #[.pointer (some ⟨bb, 0, none⟩)] W fun e W' => e = .returned (.int .i64 sz) ∧ Two n1 W0 ba bb ga gb W' := fun W h => by rw [← hsz]; exact two_len h hn1
          have hok : gb.s.size ≤ 1073741824 := by obtain ⟨_, _, _, _, _, h2, _⟩ := hT0; exact Nat.le_trans h2.ok.2.1 h2.ok.2.2
          by_cases c1' : at' < 0
          · have hmove : ∀ W, Two n1 W0 ba bb ga gb W → Calls Tryd.prog 8 #[.pointer (some ⟨bb, 0, none⟩), .int .i64 at'] W fun e W' => e = .returned (.int .i64 1) ∧ Two n1 W0 ba bb ga gb W' := fun W h => by
              have := two_move h hn1 at'
              unfold gMove at this
              rw [if_pos (.inl c1')] at this
              exact this
            have hTm := two_ok hT0
            clear hlen
            clear hpp hsz hok
            have HMv : Hid (∀ W, Two n1 W0 ba bb ga gb W → Calls Tryd.prog 8 #[.pointer (some ⟨bb, 0, none⟩), .int .i64 at'] W fun e W' => e = .returned (.int .i64 1) ∧ Two n1 W0 ba bb ga gb W') := hmove
            have HPm : Hid (∀ W, Two n1 W0 ba bb ga gb W → Calls Tryd.prog 7 #[.pointer (some ⟨bb, 0, none⟩)] W fun e W' => e = .returned (.int .i64 pp) ∧ Two n1 W0 ba bb ga gb W') := hplc
            have HT : Hid (Two n1 W0 ba bb ga gb wr) := hT0
            obtain ⟨y0, y1, y2, y3⟩ := HC.out _ hT0.bel
            obtain ⟨out, err, s', l', r', p', ga', gb', T⟩ := tail_of hn1 hTm es em x hxf
            obtain ⟨hlr, hls, ⟨hl1, hl2⟩, hsa, hda, hdb, hhb, hta, htb, hpb, hfa, hfb⟩ := T
            have Hda : Hid (∀ W, Two n1 W0 ba bb ga gb W → Calls Tryd.prog 10 #[.pointer (some ⟨ba, 0, none⟩), ov x] W fun e W' => e = .returned (.tuple #[.string out, .int .i64 err]) ∧ Two n1 W0 ba bb ga' gb W') := hda
            have Hdb : Hid (∀ W, Two n1 W0 ba bb ga' gb W → Calls Tryd.prog 10 #[.pointer (some ⟨bb, 0, none⟩), ov x] W fun e W' => e = .returned (.tuple #[.string out, .int .i64 err]) ∧ Two n1 W0 ba bb ga' gb' W') := hdb
            have Hhb : Hid (∀ W, Two n1 W0 ba bb ga' gb' W → Calls Tryd.prog 11 #[.pointer (some ⟨bb, 0, none⟩)] W fun e W' => e = .returned (.tuple #[.string l', .string r']) ∧ Two n1 W0 ba bb ga' gb' W') := hhb
            have Hta : Hid (∀ W, Two n1 W0 ba bb ga' gb' W → Calls Tryd.prog 12 #[.pointer (some ⟨ba, 0, none⟩)] W fun e W' => e = .returned (.string s') ∧ Two n1 W0 ba bb ga' gb' W') := hta
            have Htb : Hid (∀ W, Two n1 W0 ba bb ga' gb' W → Calls Tryd.prog 12 #[.pointer (some ⟨bb, 0, none⟩)] W fun e W' => e = .returned (.string s') ∧ Two n1 W0 ba bb ga' gb' W') := htb
            have Hpb : Hid (∀ W, Two n1 W0 ba bb ga' gb' W → Calls Tryd.prog 7 #[.pointer (some ⟨bb, 0, none⟩)] W fun e W' => e = .returned (.int .i64 p') ∧ Two n1 W0 ba bb ga' gb' W') := hpb
            have Hfa : Hid (∀ W, Two n1 W0 ba bb ga' gb' W → Calls Tryd.prog 13 #[.pointer (some ⟨ba, 0, none⟩)] W fun e W' => e = .returned (.bool true) ∧ Two n1 W0 ba bb ga' gb' W') := hfa
            have Hfb : Hid (∀ W, Two n1 W0 ba bb ga' gb' W → Calls Tryd.prog 13 #[.pointer (some ⟨bb, 0, none⟩)] W fun e W' => e = .returned (.bool true) ∧ Two n1 W0 ba bb ga' gb' W') := hfb
            have HS' : Hid (ga'.s = gb'.s ∧ ga'.l = gb'.l) := hsa
            clear hda hdb hhb hta htb hpb hfa hfb hsa es em hTm hxf
            clear hT0 hmove hplc
            go_wp2
            go_quiet ((go_at_call 7; exact HQ.out _))
            have HT : Hid (Two n1 W0 ba bb ga gb (wr.drewN nq)) := HT.out.low hn1 (belN (Below.refl _ _) nq)
            go_wp2_with (first
                      | (go_at_call 8; refine (HMv.out _ HT.out).mono ?_; clear HMv HT y0 y1 y2 y3; rintro e w2 ⟨rfl, hq⟩; have HT : Hid (Two n1 W0 ba bb ga gb w2) := hq; obtain ⟨y0, y1, y2, y3⟩ := HC.out _ hq.bel; clear hq)
                      | (go_at_call 7; refine (HPm.out _ HT.out).mono ?_; clear HPm HT y0 y1 y2 y3; rintro e w4 ⟨rfl, hq⟩; have HT : Hid (Two n1 W0 ba bb ga gb w4) := hq; obtain ⟨y0, y1, y2, y3⟩ := HC.out _ hq.bel; clear hq)
                      | (go_at_call 10; refine (Hda.out _ HT.out).mono ?_; clear Hda HT y0 y1 y2 y3; rintro e w5 ⟨rfl, hq⟩; have HT : Hid (Two n1 W0 ba bb ga' gb w5) := hq; obtain ⟨y0, y1, y2, y3⟩ := HC.out _ hq.bel; clear hq)
                      | (go_at_call 10; refine (Hdb.out _ HT.out).mono ?_; clear Hdb HT y0 y1 y2 y3; rintro e w6 ⟨rfl, hq⟩; have HT : Hid (Two n1 W0 ba bb ga' gb' w6) := hq; clear hq)
                      | (go_at_call 11; refine (Hhb.out _ HT.out).mono ?_; clear Hhb HT; rintro e w7 ⟨rfl, hq⟩; have HT : Hid (Two n1 W0 ba bb ga' gb' w7) := hq; clear hq)
                      | (go_at_call 12; refine (Hta.out _ HT.out).mono ?_; clear Hta HT; rintro e w8 ⟨rfl, hq⟩; have HT : Hid (Two n1 W0 ba bb ga' gb' w8) := hq; clear hq)
                      | (go_at_call 12; refine (Htb.out _ HT.out).mono ?_; clear HT; rintro e w9 ⟨rfl, hq⟩; have HT : Hid (Two n1 W0 ba bb ga' gb' w9) := hq; clear hq)
                      | (go_at_call 7; refine (Hpb.out _ HT.out).mono ?_; clear Hpb HT; rintro e w10 ⟨rfl, hq⟩; have HT : Hid (Two n1 W0 ba bb ga' gb' w10) := hq; clear hq)
                      | (go_at_call 13; refine (Hfa.out _ HT.out).mono ?_; clear Hfa HT; rintro e w11 ⟨rfl, hq⟩; have HT : Hid (Two n1 W0 ba bb ga' gb' w11) := hq; clear hq)
                      | (go_at_call 13; refine (Hfb.out _ HT.out).mono ?_; clear Hfb HT; rintro e w12 ⟨rfl, hq⟩; have HT : Hid (Two n1 W0 ba bb ga' gb' w12) := hq; clear hq))
            exact ⟨⟨k + 1, by omega, by go_num, ga', gb', HT.out, HS'.out⟩, by simp [intOf]; omega⟩
          · by_cases c2' : (sz : Int) < at'
            · have hmove : ∀ W, Two n1 W0 ba bb ga gb W → Calls Tryd.prog 8 #[.pointer (some ⟨bb, 0, none⟩), .int .i64 at'] W fun e W' => e = .returned (.int .i64 1) ∧ Two n1 W0 ba bb ga gb W' := fun W h => by
                have := two_move h hn1 at'
                unfold gMove at this
                rw [if_pos (.inr (by rw [hsz]; exact c2'))] at this
                exact this
              have hTm := two_ok hT0
              clear hpp hsz hok
              have HMv : Hid (∀ W, Two n1 W0 ba bb ga gb W → Calls Tryd.prog 8 #[.pointer (some ⟨bb, 0, none⟩), .int .i64 at'] W fun e W' => e = .returned (.int .i64 1) ∧ Two n1 W0 ba bb ga gb W') := hmove
              have HLn : Hid (∀ W, Two n1 W0 ba bb ga gb W → Calls Tryd.prog 9 #[.pointer (some ⟨bb, 0, none⟩)] W fun e W' => e = .returned (.int .i64 sz) ∧ Two n1 W0 ba bb ga gb W') := hlen
              have HPm : Hid (∀ W, Two n1 W0 ba bb ga gb W → Calls Tryd.prog 7 #[.pointer (some ⟨bb, 0, none⟩)] W fun e W' => e = .returned (.int .i64 pp) ∧ Two n1 W0 ba bb ga gb W') := hplc
              have HT : Hid (Two n1 W0 ba bb ga gb wr) := hT0
              obtain ⟨y0, y1, y2, y3⟩ := HC.out _ hT0.bel
              obtain ⟨out, err, s', l', r', p', ga', gb', T⟩ := tail_of hn1 hTm es em x hxf
              obtain ⟨hlr, hls, ⟨hl1, hl2⟩, hsa, hda, hdb, hhb, hta, htb, hpb, hfa, hfb⟩ := T
              have Hda : Hid (∀ W, Two n1 W0 ba bb ga gb W → Calls Tryd.prog 10 #[.pointer (some ⟨ba, 0, none⟩), ov x] W fun e W' => e = .returned (.tuple #[.string out, .int .i64 err]) ∧ Two n1 W0 ba bb ga' gb W') := hda
              have Hdb : Hid (∀ W, Two n1 W0 ba bb ga' gb W → Calls Tryd.prog 10 #[.pointer (some ⟨bb, 0, none⟩), ov x] W fun e W' => e = .returned (.tuple #[.string out, .int .i64 err]) ∧ Two n1 W0 ba bb ga' gb' W') := hdb
              have Hhb : Hid (∀ W, Two n1 W0 ba bb ga' gb' W → Calls Tryd.prog 11 #[.pointer (some ⟨bb, 0, none⟩)] W fun e W' => e = .returned (.tuple #[.string l', .string r']) ∧ Two n1 W0 ba bb ga' gb' W') := hhb
              have Hta : Hid (∀ W, Two n1 W0 ba bb ga' gb' W → Calls Tryd.prog 12 #[.pointer (some ⟨ba, 0, none⟩)] W fun e W' => e = .returned (.string s') ∧ Two n1 W0 ba bb ga' gb' W') := hta
              have Htb : Hid (∀ W, Two n1 W0 ba bb ga' gb' W → Calls Tryd.prog 12 #[.pointer (some ⟨bb, 0, none⟩)] W fun e W' => e = .returned (.string s') ∧ Two n1 W0 ba bb ga' gb' W') := htb
              have Hpb : Hid (∀ W, Two n1 W0 ba bb ga' gb' W → Calls Tryd.prog 7 #[.pointer (some ⟨bb, 0, none⟩)] W fun e W' => e = .returned (.int .i64 p') ∧ Two n1 W0 ba bb ga' gb' W') := hpb
              have Hfa : Hid (∀ W, Two n1 W0 ba bb ga' gb' W → Calls Tryd.prog 13 #[.pointer (some ⟨ba, 0, none⟩)] W fun e W' => e = .returned (.bool true) ∧ Two n1 W0 ba bb ga' gb' W') := hfa
              have Hfb : Hid (∀ W, Two n1 W0 ba bb ga' gb' W → Calls Tryd.prog 13 #[.pointer (some ⟨bb, 0, none⟩)] W fun e W' => e = .returned (.bool true) ∧ Two n1 W0 ba bb ga' gb' W') := hfb
              have HS' : Hid (ga'.s = gb'.s ∧ ga'.l = gb'.l) := hsa
              clear hda hdb hhb hta htb hpb hfa hfb hsa es em hTm hxf
              clear hT0 hmove hplc hlen
              go_wp2
              go_quiet ((go_at_call 7; exact HQ.out _))
              have HT : Hid (Two n1 W0 ba bb ga gb (wr.drewN nq)) := HT.out.low hn1 (belN (Below.refl _ _) nq)
              go_wp2_with (first
                        | (go_at_call 8; refine (HMv.out _ HT.out).mono ?_; clear HMv HT y0 y1 y2 y3; rintro e w2 ⟨rfl, hq⟩; have HT : Hid (Two n1 W0 ba bb ga gb w2) := hq; obtain ⟨y0, y1, y2, y3⟩ := HC.out _ hq.bel; clear hq)
                        | (go_at_call 9; refine (HLn.out _ HT.out).mono ?_; clear HLn HT y0 y1 y2 y3; rintro e w3 ⟨rfl, hq⟩; have HT : Hid (Two n1 W0 ba bb ga gb w3) := hq; obtain ⟨y0, y1, y2, y3⟩ := HC.out _ hq.bel; clear hq)
                        | (go_at_call 7; refine (HPm.out _ HT.out).mono ?_; clear HPm HT y0 y1 y2 y3; rintro e w4 ⟨rfl, hq⟩; have HT : Hid (Two n1 W0 ba bb ga gb w4) := hq; obtain ⟨y0, y1, y2, y3⟩ := HC.out _ hq.bel; clear hq)
                        | (go_at_call 10; refine (Hda.out _ HT.out).mono ?_; clear Hda HT y0 y1 y2 y3; rintro e w5 ⟨rfl, hq⟩; have HT : Hid (Two n1 W0 ba bb ga' gb w5) := hq; obtain ⟨y0, y1, y2, y3⟩ := HC.out _ hq.bel; clear hq)
                        | (go_at_call 10; refine (Hdb.out _ HT.out).mono ?_; clear Hdb HT y0 y1 y2 y3; rintro e w6 ⟨rfl, hq⟩; have HT : Hid (Two n1 W0 ba bb ga' gb' w6) := hq; clear hq)
                        | (go_at_call 11; refine (Hhb.out _ HT.out).mono ?_; clear Hhb HT; rintro e w7 ⟨rfl, hq⟩; have HT : Hid (Two n1 W0 ba bb ga' gb' w7) := hq; clear hq)
                        | (go_at_call 12; refine (Hta.out _ HT.out).mono ?_; clear Hta HT; rintro e w8 ⟨rfl, hq⟩; have HT : Hid (Two n1 W0 ba bb ga' gb' w8) := hq; clear hq)
                        | (go_at_call 12; refine (Htb.out _ HT.out).mono ?_; clear HT; rintro e w9 ⟨rfl, hq⟩; have HT : Hid (Two n1 W0 ba bb ga' gb' w9) := hq; clear hq)
                        | (go_at_call 7; refine (Hpb.out _ HT.out).mono ?_; clear Hpb HT; rintro e w10 ⟨rfl, hq⟩; have HT : Hid (Two n1 W0 ba bb ga' gb' w10) := hq; clear hq)
                        | (go_at_call 13; refine (Hfa.out _ HT.out).mono ?_; clear Hfa HT; rintro e w11 ⟨rfl, hq⟩; have HT : Hid (Two n1 W0 ba bb ga' gb' w11) := hq; clear hq)
                        | (go_at_call 13; refine (Hfb.out _ HT.out).mono ?_; clear Hfb HT; rintro e w12 ⟨rfl, hq⟩; have HT : Hid (Two n1 W0 ba bb ga' gb' w12) := hq; clear hq))
              exact ⟨⟨k + 1, by omega, by go_num, ga', gb', HT.out, HS'.out⟩, by simp [intOf]; omega⟩
            · obtain ⟨q, rfl⟩ := Int.eq_ofNat_of_zero_le (show 0 ≤ at' by omega)
              obtain ⟨gm, hgm⟩ : ∃ gm, ({ gb with p := q } : Gp) = gm := ⟨_, rfl⟩
              have hmove : ∀ W, Two n1 W0 ba bb ga gb W → Calls Tryd.prog 8 #[.pointer (some ⟨bb, 0, none⟩), .int .i64 q] W fun e W' => e = .returned (.int .i64 0) ∧ Two n1 W0 ba bb ga gm W' := fun W h => by
                have := two_move h hn1 q
                unfold gMove at this
                rw [if_neg (by rw [hsz]; omega)] at this
                rw [← hgm]
                exact this
              have hplc : ∀ W, Two n1 W0 ba bb ga gm W → Calls Tryd.prog 7 #[.pointer (some ⟨bb, 0, none⟩)] W fun e W' => e = .returned (.int .i64 q) ∧ Two n1 W0 ba bb ga gm W' := fun W h => by
                have := two_at h hn1
                rw [show gm.p = q from by rw [← hgm]] at this
                exact this
              have hlen : ∀ W, Two n1 W0 ba bb ga gm W → Calls Tryd.prog 9 #[.pointer (some ⟨bb, 0, none⟩)] W fun e W' => e = .returned (.int .i64 sz) ∧ Two n1 W0 ba bb ga gm W' := fun W h => by
                have := two_len h hn1
                rw [show gm.s.size = sz from by rw [← hgm]; exact hsz] at this
                exact this
              have hTm : gm.ok := by rw [← hgm]; exact ⟨by show q ≤ gb.s.size; omega, (two_ok hT0).2⟩
              have es : ga.s = gm.s := by rw [← hgm]; exact es
              have em : ga.l = gm.l := by rw [← hgm]; exact em
              clear hpp hsz hok hgm
              have HMv : Hid (∀ W, Two n1 W0 ba bb ga gb W → Calls Tryd.prog 8 #[.pointer (some ⟨bb, 0, none⟩), .int .i64 q] W fun e W' => e = .returned (.int .i64 0) ∧ Two n1 W0 ba bb ga gm W') := hmove
              have HLn : Hid (∀ W, Two n1 W0 ba bb ga gm W → Calls Tryd.prog 9 #[.pointer (some ⟨bb, 0, none⟩)] W fun e W' => e = .returned (.int .i64 sz) ∧ Two n1 W0 ba bb ga gm W') := hlen
              have HPm : Hid (∀ W, Two n1 W0 ba bb ga gm W → Calls Tryd.prog 7 #[.pointer (some ⟨bb, 0, none⟩)] W fun e W' => e = .returned (.int .i64 q) ∧ Two n1 W0 ba bb ga gm W') := hplc
              have HT : Hid (Two n1 W0 ba bb ga gb wr) := hT0
              obtain ⟨y0, y1, y2, y3⟩ := HC.out _ hT0.bel
              obtain ⟨out, err, s', l', r', p', ga', gb', T⟩ := tail_of hn1 hTm es em x hxf
              obtain ⟨hlr, hls, ⟨hl1, hl2⟩, hsa, hda, hdb, hhb, hta, htb, hpb, hfa, hfb⟩ := T
              have Hda : Hid (∀ W, Two n1 W0 ba bb ga gm W → Calls Tryd.prog 10 #[.pointer (some ⟨ba, 0, none⟩), ov x] W fun e W' => e = .returned (.tuple #[.string out, .int .i64 err]) ∧ Two n1 W0 ba bb ga' gm W') := hda
              have Hdb : Hid (∀ W, Two n1 W0 ba bb ga' gm W → Calls Tryd.prog 10 #[.pointer (some ⟨bb, 0, none⟩), ov x] W fun e W' => e = .returned (.tuple #[.string out, .int .i64 err]) ∧ Two n1 W0 ba bb ga' gb' W') := hdb
              have Hhb : Hid (∀ W, Two n1 W0 ba bb ga' gb' W → Calls Tryd.prog 11 #[.pointer (some ⟨bb, 0, none⟩)] W fun e W' => e = .returned (.tuple #[.string l', .string r']) ∧ Two n1 W0 ba bb ga' gb' W') := hhb
              have Hta : Hid (∀ W, Two n1 W0 ba bb ga' gb' W → Calls Tryd.prog 12 #[.pointer (some ⟨ba, 0, none⟩)] W fun e W' => e = .returned (.string s') ∧ Two n1 W0 ba bb ga' gb' W') := hta
              have Htb : Hid (∀ W, Two n1 W0 ba bb ga' gb' W → Calls Tryd.prog 12 #[.pointer (some ⟨bb, 0, none⟩)] W fun e W' => e = .returned (.string s') ∧ Two n1 W0 ba bb ga' gb' W') := htb
              have Hpb : Hid (∀ W, Two n1 W0 ba bb ga' gb' W → Calls Tryd.prog 7 #[.pointer (some ⟨bb, 0, none⟩)] W fun e W' => e = .returned (.int .i64 p') ∧ Two n1 W0 ba bb ga' gb' W') := hpb
              have Hfa : Hid (∀ W, Two n1 W0 ba bb ga' gb' W → Calls Tryd.prog 13 #[.pointer (some ⟨ba, 0, none⟩)] W fun e W' => e = .returned (.bool true) ∧ Two n1 W0 ba bb ga' gb' W') := hfa
              have Hfb : Hid (∀ W, Two n1 W0 ba bb ga' gb' W → Calls Tryd.prog 13 #[.pointer (some ⟨bb, 0, none⟩)] W fun e W' => e = .returned (.bool true) ∧ Two n1 W0 ba bb ga' gb' W') := hfb
              have HS' : Hid (ga'.s = gb'.s ∧ ga'.l = gb'.l) := hsa
              clear hda hdb hhb hta htb hpb hfa hfb hsa es em hTm hxf
              clear hT0 hmove hplc hlen
              go_wp2
              go_quiet ((go_at_call 7; exact HQ.out _))
              have HT : Hid (Two n1 W0 ba bb ga gb (wr.drewN nq)) := HT.out.low hn1 (belN (Below.refl _ _) nq)
              go_wp2_with (first
                        | (go_at_call 8; refine (HMv.out _ HT.out).mono ?_; clear HMv HT y0 y1 y2 y3; rintro e w2 ⟨rfl, hq⟩; have HT : Hid (Two n1 W0 ba bb ga gm w2) := hq; obtain ⟨y0, y1, y2, y3⟩ := HC.out _ hq.bel; clear hq)
                        | (go_at_call 9; refine (HLn.out _ HT.out).mono ?_; clear HLn HT y0 y1 y2 y3; rintro e w3 ⟨rfl, hq⟩; have HT : Hid (Two n1 W0 ba bb ga gm w3) := hq; obtain ⟨y0, y1, y2, y3⟩ := HC.out _ hq.bel; clear hq)
                        | (go_at_call 7; refine (HPm.out _ HT.out).mono ?_; clear HPm HT y0 y1 y2 y3; rintro e w4 ⟨rfl, hq⟩; have HT : Hid (Two n1 W0 ba bb ga gm w4) := hq; obtain ⟨y0, y1, y2, y3⟩ := HC.out _ hq.bel; clear hq)
                        | (go_at_call 10; refine (Hda.out _ HT.out).mono ?_; clear Hda HT y0 y1 y2 y3; rintro e w5 ⟨rfl, hq⟩; have HT : Hid (Two n1 W0 ba bb ga' gm w5) := hq; obtain ⟨y0, y1, y2, y3⟩ := HC.out _ hq.bel; clear hq)
                        | (go_at_call 10; refine (Hdb.out _ HT.out).mono ?_; clear Hdb HT y0 y1 y2 y3; rintro e w6 ⟨rfl, hq⟩; have HT : Hid (Two n1 W0 ba bb ga' gb' w6) := hq; clear hq)
                        | (go_at_call 11; refine (Hhb.out _ HT.out).mono ?_; clear Hhb HT; rintro e w7 ⟨rfl, hq⟩; have HT : Hid (Two n1 W0 ba bb ga' gb' w7) := hq; clear hq)
                        | (go_at_call 12; refine (Hta.out _ HT.out).mono ?_; clear Hta HT; rintro e w8 ⟨rfl, hq⟩; have HT : Hid (Two n1 W0 ba bb ga' gb' w8) := hq; clear hq)
                        | (go_at_call 12; refine (Htb.out _ HT.out).mono ?_; clear HT; rintro e w9 ⟨rfl, hq⟩; have HT : Hid (Two n1 W0 ba bb ga' gb' w9) := hq; clear hq)
                        | (go_at_call 7; refine (Hpb.out _ HT.out).mono ?_; clear Hpb HT; rintro e w10 ⟨rfl, hq⟩; have HT : Hid (Two n1 W0 ba bb ga' gb' w10) := hq; clear hq)
                        | (go_at_call 13; refine (Hfa.out _ HT.out).mono ?_; clear Hfa HT; rintro e w11 ⟨rfl, hq⟩; have HT : Hid (Two n1 W0 ba bb ga' gb' w11) := hq; clear hq)
                        | (go_at_call 13; refine (Hfb.out _ HT.out).mono ?_; clear Hfb HT; rintro e w12 ⟨rfl, hq⟩; have HT : Hid (Two n1 W0 ba bb ga' gb' w12) := hq; clear hq))
              exact ⟨⟨k + 1, by omega, by go_num, ga', gb', HT.out, HS'.out⟩, by simp [intOf]; omega⟩
        · obtain ⟨gm, hgm⟩ : ∃ gm, gb = gm := ⟨_, rfl⟩
          subst hgm
          have hTm := two_ok hT0
          have HT : Hid (Two n1 W0 ba bb ga gb wr) := hT0
          obtain ⟨y0, y1, y2, y3⟩ := HC.out _ hT0.bel
          obtain ⟨out, err, s', l', r', p', ga', gb', T⟩ := tail_of hn1 hTm es em x hxf
          obtain ⟨hlr, hls, ⟨hl1, hl2⟩, hsa, hda, hdb, hhb, hta, htb, hpb, hfa, hfb⟩ := T
          have Hda : Hid (∀ W, Two n1 W0 ba bb ga gb W → Calls Tryd.prog 10 #[.pointer (some ⟨ba, 0, none⟩), ov x] W fun e W' => e = .returned (.tuple #[.string out, .int .i64 err]) ∧ Two n1 W0 ba bb ga' gb W') := hda
          have Hdb : Hid (∀ W, Two n1 W0 ba bb ga' gb W → Calls Tryd.prog 10 #[.pointer (some ⟨bb, 0, none⟩), ov x] W fun e W' => e = .returned (.tuple #[.string out, .int .i64 err]) ∧ Two n1 W0 ba bb ga' gb' W') := hdb
          have Hhb : Hid (∀ W, Two n1 W0 ba bb ga' gb' W → Calls Tryd.prog 11 #[.pointer (some ⟨bb, 0, none⟩)] W fun e W' => e = .returned (.tuple #[.string l', .string r']) ∧ Two n1 W0 ba bb ga' gb' W') := hhb
          have Hta : Hid (∀ W, Two n1 W0 ba bb ga' gb' W → Calls Tryd.prog 12 #[.pointer (some ⟨ba, 0, none⟩)] W fun e W' => e = .returned (.string s') ∧ Two n1 W0 ba bb ga' gb' W') := hta
          have Htb : Hid (∀ W, Two n1 W0 ba bb ga' gb' W → Calls Tryd.prog 12 #[.pointer (some ⟨bb, 0, none⟩)] W fun e W' => e = .returned (.string s') ∧ Two n1 W0 ba bb ga' gb' W') := htb
          have Hpb : Hid (∀ W, Two n1 W0 ba bb ga' gb' W → Calls Tryd.prog 7 #[.pointer (some ⟨bb, 0, none⟩)] W fun e W' => e = .returned (.int .i64 p') ∧ Two n1 W0 ba bb ga' gb' W') := hpb
          have Hfa : Hid (∀ W, Two n1 W0 ba bb ga' gb' W → Calls Tryd.prog 13 #[.pointer (some ⟨ba, 0, none⟩)] W fun e W' => e = .returned (.bool true) ∧ Two n1 W0 ba bb ga' gb' W') := hfa
          have Hfb : Hid (∀ W, Two n1 W0 ba bb ga' gb' W → Calls Tryd.prog 13 #[.pointer (some ⟨bb, 0, none⟩)] W fun e W' => e = .returned (.bool true) ∧ Two n1 W0 ba bb ga' gb' W') := hfb
          have HS' : Hid (ga'.s = gb'.s ∧ ga'.l = gb'.l) := hsa
          clear hda hdb hhb hta htb hpb hfa hfb hsa es em hTm hxf
          clear hT0
          go_wp2_with (first
        | (go_at_call 10; refine (Hda.out _ HT.out).mono ?_; clear Hda HT y0 y1 y2 y3; rintro e w5 ⟨rfl, hq⟩; have HT : Hid (Two n1 W0 ba bb ga' gb w5) := hq; obtain ⟨y0, y1, y2, y3⟩ := HC.out _ hq.bel; clear hq)
        | (go_at_call 10; refine (Hdb.out _ HT.out).mono ?_; clear Hdb HT y0 y1 y2 y3; rintro e w6 ⟨rfl, hq⟩; have HT : Hid (Two n1 W0 ba bb ga' gb' w6) := hq; clear hq)
        | (go_at_call 11; refine (Hhb.out _ HT.out).mono ?_; clear Hhb HT; rintro e w7 ⟨rfl, hq⟩; have HT : Hid (Two n1 W0 ba bb ga' gb' w7) := hq; clear hq)
        | (go_at_call 12; refine (Hta.out _ HT.out).mono ?_; clear Hta HT; rintro e w8 ⟨rfl, hq⟩; have HT : Hid (Two n1 W0 ba bb ga' gb' w8) := hq; clear hq)
        | (go_at_call 12; refine (Htb.out _ HT.out).mono ?_; clear HT; rintro e w9 ⟨rfl, hq⟩; have HT : Hid (Two n1 W0 ba bb ga' gb' w9) := hq; clear hq)
        | (go_at_call 7; refine (Hpb.out _ HT.out).mono ?_; clear Hpb HT; rintro e w10 ⟨rfl, hq⟩; have HT : Hid (Two n1 W0 ba bb ga' gb' w10) := hq; clear hq)
        | (go_at_call 13; refine (Hfa.out _ HT.out).mono ?_; clear Hfa HT; rintro e w11 ⟨rfl, hq⟩; have HT : Hid (Two n1 W0 ba bb ga' gb' w11) := hq; clear hq)
        | (go_at_call 13; refine (Hfb.out _ HT.out).mono ?_; clear Hfb HT; rintro e w12 ⟨rfl, hq⟩; have HT : Hid (Two n1 W0 ba bb ga' gb' w12) := hq; clear hq))
          exact ⟨⟨k + 1, by omega, by go_num, ga', gb', HT.out, HS'.out⟩, by simp [intOf]; omega⟩
      · go_wp2
        go_ret
        exact ⟨rfl, HEnd.out _ hT0.bel⟩

theorem walk_of (s : ByteArray) (m : Int) (a1 : Option Addr) (len1 cap1 : Nat) (a2 : Option Addr) (len2 cap2 : Nat) (w : World) (hT : Lib.Utf8Tabs 1 2 w) (_hlo0 : 1 < w.heap.size) (_hlo1 : 2 < w.heap.size) (_z : -9223372036854775808 ≤ m ∧ m ≤ 9223372036854775807)
    (l : List Opr) (y1 : RdO w (.slice a1 len1 cap1) l) (u1 : l.length ≤ 140737488351232 ∧ ∀ x ∈ l, x.fit) (ms : List Int) (y2 : Wholes w a2 len2 ms) :
    Calls Tryd.prog 3 #[.agg #[.string s, .int .i64 m], .slice a1 len1 cap1, .slice a2 len2 cap2] w fun e w' => e = .returned (.bool true) ∧ Below w.heap.size w w' := by
  obtain ⟨a, cap, e, hr⟩ := y1
  cases e
  exact walk s m l ms l.length len2 a1 a2 cap1 cap2 rfl u1.1 u1.2 w hr y2 hT
end Go.Proofs.YtgagpmeknpjkpaaDoor.gapPlace
