/-
  The walk of the law WordTiles: for every text it returns true: the words are the greatest runs of word clusters, cluster by cluster. Conditions: the text is so short that its list of words can be made; the two tables of unicode/utf8 lie as their text lays them.
-/
import Derived.Test.YtoijjkbnmicadaaDoorWLaw
import Derived.Test.YtoijjkbnmicadaaDoorPkC
namespace Go.Proofs.YtoijjkbnmicadaaDoor.wordTiles
open Go.RowKit Go.Sort Bod Wid

set_option maxRecDepth 100000 in
set_option maxHeartbeats 1000000 in
theorem wordly_all (s : ByteArray) (i : Int) (hs : s.size ≤ maxLen) (w : World) (hT : Lib.Utf8Tabs 1 2 w) :
    Calls Tryd.prog 29 #[.string s, .int .i64 i] w fun e w' => e = .returned (.bool (atB s i && wch (atC s i))) ∧ Below w.heap.size w w' := by
  have cA := at_any s i hs w hT
  have CW : Hid (∀ c W, Below w.heap.size w W → Calls Tryd.prog 10 #[.int .i32 c] W fun e w' => e = .returned (.bool (wch c)) ∧ Below w.heap.size w w') := fun c W hW => (isword_any c W).mono fun e w' ⟨h1, h2⟩ => ⟨h1, hW.trans (h2.mono hW.size)⟩
  generalize atC s i = c at cA ⊢
  generalize atS s i = z at cA
  cases hb : atB s i with
  | true =>
    rw [hb] at cA
    rw [Bool.true_and]
    go_enter Tryd.func29, Tryd.ntmps29
    go_wp2_with (first | (go_at_call 54; refine cA.mono ?_; clear cA; rintro e w1 ⟨rfl, hb1⟩; have HA : Hid (Below w.heap.size w (w1.alloc (.cells #[.int .i32 c, .int .i64 z] 74))) := hb1.alloc hb1.size _) | (go_at_call 10; refine (CW.out _ _ HA.out).mono ?_; clear CW; rintro e w2 ⟨rfl, hb2⟩))
    go_ret
    exact ⟨rfl, hb2⟩
  | false =>
    rw [hb] at cA
    rw [Bool.false_and]
    go_enter Tryd.func29, Tryd.ntmps29
    go_wp2_with (go_at_call 54; refine cA.mono ?_; clear cA; rintro e w1 ⟨rfl, hb1⟩)
    go_ret
    exact ⟨rfl, hb1.alloc hb1.size _⟩
theorem wordly_any (s : ByteArray) (a : Nat) (hs : s.size ≤ maxLen) (hc : cbZ s a = true) (w : World) (hT : Lib.Utf8Tabs 1 2 w) :
    Calls Tryd.prog 29 #[.string s, .int .i64 a] w fun e w' => e = .returned (.bool (wat s a)) ∧ Below w.heap.size w w' := by
  obtain ⟨m, e, hB⟩ := cb_B hc
  have : a = m := by omega
  subst this
  have := wordly_all s a hs w hT
  rwa [atB_B hB] at this

set_option maxRecDepth 100000 in
set_option maxHeartbeats 2000000 in
theorem walk (s : ByteArray) (hs : s.size ≤ maxLen) (hm : s.size ≤ 4398046511104) (w : World) (hT : Lib.Utf8Tabs 1 2 w) (hlo0 : 1 < w.heap.size) (hlo1 : 2 < w.heap.size) :
    Calls Tryd.prog 7 #[.string s] w fun e w' => e = .returned (.bool true) ∧ Below w.heap.size w w' := by
  have cA := awake_any w hT hlo0 hlo1
  have CS : Hid (∀ W, Below w.heap.size w W → Calls Tryd.prog 17 #[.string s] W fun e W' => ∃ v, e = .returned v ∧ Rd2 W' v (words s) ∧ Below w.heap.size w W') := fun W hW => (spans_any s hs hm W (tabs_below hT hW) (Nat.lt_of_lt_of_le hlo0 hW.size) (Nat.lt_of_lt_of_le hlo1 hW.size)).mono fun e w' ⟨v, h1, h2, h3⟩ => ⟨v, h1, Rd2.of_row h2, hW.trans (h3.mono hW.size)⟩
  have CE : Hid (∀ (a : Nat) W, cbZ s a = true → Below w.heap.size w W → Calls Tryd.prog 29 #[.string s, .int .i64 a] W fun e w' => e = .returned (.bool (wat s a)) ∧ Below W.heap.size W w') := fun a W hc hW => wordly_any s a hs hc W (tabs_below hT hW)
  have CN : Hid (∀ (a m : Nat) W, IsNext s a m → Below w.heap.size w W → Calls Tryd.prog 30 #[.string s, .int .i64 a] W fun e w' => e = .returned (.int .i64 m) ∧ Below W.heap.size W w') := fun a m W hn hW => (cnext_any s a hs W (tabs_below hT hW)).mono fun e w' ⟨m', h1, h3, h2⟩ => ⟨by rw [h1, h3.uniq hn], h2⟩
  have hwl := words_len s
  have hsm : s.size ≤ 9223372036854775807 := by unfold maxLen at hs; omega
  obtain ⟨pre0, post0, o0, ht0⟩ := ti_zero s
  have HT0 : Hid (Ti s 0 0 pre0 post0 o0) := ht0
  clear hT hlo0 hlo1 ht0 hs
  go_enter Tryd.func7, Tryd.ntmps7
  go_wp2_with (first | (go_at_call 9; refine cA.mono ?_; clear cA; rintro e w0 ⟨rfl, hb0⟩) | (go_at_call 17; refine (CS.out _ hb0).mono ?_; clear CS; rintro e w1 ⟨lv, rfl, hrd1, hb1⟩; obtain ⟨la, lc, rfl, hg0⟩ := hrd1; have HG : Hid (words s ≠ [] → ∃ g, la = some ⟨g, 0, none⟩ ∧ g < w1.heap.size ∧ ∀ k c, (words s)[k]? = some c → w1.cell? ⟨g, k * 2, none⟩ = some (.int .i64 c.1) ∧ w1.cell? ⟨g, k * 2 + 1, none⟩ = some (.int .i64 c.2)) := hg0; clear hg0))
  go_loopw [4, 5] (fun t4 t5 wr => ∃ (k a : Nat) (pre post : List Clu) (o : Option (Nat × Nat)), t4 = .int .i64 k ∧ t5 = .int .i64 a ∧ k ≤ (words s).length ∧ Ti s k a pre post o ∧ Below w1.heap.size w1 wr ∧ Below w.heap.size w wr) (fun _ t5 _ => s.size - (intOf t5).toNat)
  case atStart => exact ⟨0, 0, pre0, post0, o0, rfl, rfl, Nat.zero_le _, HT0.out, Below.refl _ _, hb1⟩
  case round =>
    clear HT0
    obtain ⟨k, a, pre, post, o, rfl, rfl, hk, ht, hB1, hB⟩ := hrel
    have hcb := ht.fr.cb
    cases post with
    | nil =>
      obtain ⟨h1, h2⟩ := ht.done
      have hke : k = (words s).length := by omega
      have hge : ¬ ((a : Int) < s.size) := by omega
      have hkq : ((k : Int) == ((words s).length : Int)) = true := by rw [hke]; simp
      clear ht CE CN HG hke h2
      go_wp2
      go_ret
      exact ⟨rfl, hB⟩
    | cons c r =>
      obtain ⟨n1, n2, n3, n4, n5⟩ := ht.fr.next
      have hlt : (a : Int) < s.size := by omega
      have cE := CE.out a wr hcb.1 hB
      rw [n5] at cE
      have CN1 : Hid (∀ W, Below wr.heap.size wr W → Calls Tryd.prog 30 #[.string s, .int .i64 a] W fun e w' => e = .returned (.int .i64 c.to) ∧ Below wr.heap.size wr w') := fun W hW => (CN.out a c.to W n1 (hB.trans (hW.mono hB.size))).mono fun e w' ⟨h1, h2⟩ => ⟨h1, hW.trans (h2.mono hW.size)⟩
      have hnle : ¬ ((c.to : Int) ≤ a) := by omega
      cases hw : wcl s c with
      | true =>
        rw [hw] at cE
        obtain ⟨p, hp, p1, p2, p3, p4, p5⟩ := ht.word hw
        have hkl : (k : Int) < ((words s).length : Int) := by have := (List.getElem?_eq_some_iff.1 hp).1; omega
        obtain ⟨g, rfl, hgl, hcells⟩ := HG.out (fun e => by rw [e] at hp; simp at hp)
        obtain ⟨q0, q1⟩ := hcells k p hp
        have r0 : wr.cell? ⟨g, k * 2, none⟩ = some (.int .i64 p.1) := (hB1.cell (p := ⟨g, k * 2, none⟩) hgl).trans q0
        have r1 : wr.cell? ⟨g, k * 2 + 1, none⟩ = some (.int .i64 p.2) := (hB1.cell (p := ⟨g, k * 2 + 1, none⟩) hgl).trans q1
        have HR : Hid (∀ W, Below wr.heap.size wr W → W.cell? ⟨g, k * 2 + 1, none⟩ = some (.int .i64 p.2)) := fun W hW => (hW.cell (p := ⟨g, k * 2 + 1, none⟩) (Nat.lt_of_lt_of_le hgl hB1.size)).trans r1
        have g1 : (p.1 : Int) ≤ a := by omega
        have g2 : (a : Int) < p.2 := by omega
        have g3 : ¬ ((p.2 : Int) < c.to) := by omega
        have HB1 : Hid (Below w1.heap.size w1 wr) := hB1
        have HB : Hid (Below w.heap.size w wr) := hB
        clear q0 q1 hcells HG ht hw n1 hB1 hB
        by_cases hq : c.to = p.2
        · obtain ⟨h1, o', h2⟩ := p4 hq
          have HT : Hid (Ti s (k + 1) c.to (pre ++ [c]) r o') := h2
          have hcq : ((c.to : Int) == (p.2 : Int)) = true := by rw [hq]; simp
          have CE2 : Hid (∀ W, Below wr.heap.size wr W → Calls Tryd.prog 29 #[.string s, .int .i64 c.to] W fun e w' => e = .returned (.bool false) ∧ Below wr.heap.size wr w') := fun W hW => by
            have := CE.out c.to W n2.cb.1 (HB.out.trans (hW.mono HB.out.size))
            rw [h1] at this
            exact this.mono fun e w' ⟨h1, h2⟩ => ⟨h1, hW.trans (h2.mono hW.size)⟩
          have hwr : wrap64 ((k : Int) + 1) = (k : Int) + 1 := by unfold wrap64; omega
          clear p4 p5 h1 h2 CE CN n2 hq hp
          by_cases hnl : (c.to : Int) < s.size
          · go_wp2_with (first | (go_at_call 29; refine cE.mono ?_; clear cE; rintro e w2 ⟨rfl, hb2⟩) | (go_at_call 30; refine (CN1.out _ hb2).mono ?_; clear CN1; rintro e w3 ⟨rfl, hb3⟩; have r3 := HR.out _ hb3) | (go_at_call 29; refine (CE2.out _ hb3).mono ?_; clear CE2; rintro e w4 ⟨rfl, hb4⟩))
            exact ⟨⟨k + 1, c.to, pre ++ [c], r, o', by first | rfl | simp, rfl, by omega, HT.out, HB1.out.trans (hb4.mono HB1.out.size), HB.out.trans (hb4.mono HB.out.size)⟩, by simp [intOf]; omega⟩
          · go_wp2_with (first | (go_at_call 29; refine cE.mono ?_; clear cE; rintro e w2 ⟨rfl, hb2⟩) | (go_at_call 30; refine (CN1.out _ hb2).mono ?_; clear CN1; rintro e w3 ⟨rfl, hb3⟩; have r3 := HR.out _ hb3))
            exact ⟨⟨k + 1, c.to, pre ++ [c], r, o', by first | rfl | simp, rfl, by omega, HT.out, HB1.out.trans (hb3.mono HB1.out.size), HB.out.trans (hb3.mono HB.out.size)⟩, by simp [intOf]; omega⟩
        · obtain ⟨o', h2⟩ := p5 hq
          have HT : Hid (Ti s k c.to (pre ++ [c]) r o') := h2
          have hcq : ((c.to : Int) == (p.2 : Int)) = false := beq_eq_false_iff_ne.2 (by omega)
          clear p4 p5 h2 CE CN n2 hq hp
          go_wp2_with (first | (go_at_call 29; refine cE.mono ?_; clear cE; rintro e w2 ⟨rfl, hb2⟩) | (go_at_call 30; refine (CN1.out _ hb2).mono ?_; clear CN1; rintro e w3 ⟨rfl, hb3⟩; have r3 := HR.out _ hb3))
          exact ⟨⟨k, c.to, pre ++ [c], r, o', rfl, rfl, by omega, HT.out, HB1.out.trans (hb3.mono HB1.out.size), HB.out.trans (hb3.mono HB.out.size)⟩, by simp [intOf]; omega⟩
      | false =>
        rw [hw] at cE
        obtain ⟨h1, h2⟩ := ht.other hw
        have HT : Hid (Ti s k c.to (pre ++ [c]) r none) := h2
        have HB1 : Hid (Below w1.heap.size w1 wr) := hB1
        have HB : Hid (Below w.heap.size w wr) := hB
        by_cases hkl : k < (words s).length
        · have hp : (words s)[k]? = some (words s)[k] := List.getElem?_eq_getElem hkl
          generalize (words s)[k] = p at hp
          have hkl' : (k : Int) < ((words s).length : Int) := by omega
          obtain ⟨g, rfl, hgl, hcells⟩ := HG.out (fun e => by rw [e] at hp; simp at hp)
          obtain ⟨q0, q1⟩ := hcells k p hp
          have r0 : wr.cell? ⟨g, k * 2, none⟩ = some (.int .i64 p.1) := (hB1.cell (p := ⟨g, k * 2, none⟩) hgl).trans q0
          have g1 : ¬ ((p.1 : Int) ≤ a) := by have := h1 p hp; omega
          clear q0 q1 hcells HG ht hw n1 hB1 hB h1 h2 CE CN n2 hp
          go_wp2_with (first | (go_at_call 29; refine cE.mono ?_; clear cE; rintro e w2 ⟨rfl, hb2⟩) | (go_at_call 30; refine (CN1.out _ hb2).mono ?_; clear CN1; rintro e w3 ⟨rfl, hb3⟩))
          exact ⟨⟨k, c.to, pre ++ [c], r, none, rfl, rfl, by omega, HT.out, HB1.out.trans (hb3.mono HB1.out.size), HB.out.trans (hb3.mono HB.out.size)⟩, by simp [intOf]; omega⟩
        · have hkl' : ¬ ((k : Int) < ((words s).length : Int)) := by omega
          clear HG ht hw n1 hB1 hB h1 h2 CE CN n2
          go_wp2_with (first | (go_at_call 29; refine cE.mono ?_; clear cE; rintro e w2 ⟨rfl, hb2⟩) | (go_at_call 30; refine (CN1.out _ hb2).mono ?_; clear CN1; rintro e w3 ⟨rfl, hb3⟩))
          exact ⟨⟨k, c.to, pre ++ [c], r, none, rfl, rfl, by omega, HT.out, HB1.out.trans (hb3.mono HB1.out.size), HB.out.trans (hb3.mono HB.out.size)⟩, by simp [intOf]; omega⟩
theorem walk_of {H : Type} (s : ByteArray) (w : World) (hT : Lib.Utf8Tabs 1 2 w) (hlo0 : 1 < w.heap.size) (hlo1 : 2 < w.heap.size) (_hs : s.size ≤ 140737488351232) (hk : Rows.uptoSmall H ([DataW.lit (.string s.data.toList)] ++ []) = true) :
    Calls Tryd.prog 7 #[.string s] w fun e w' => e = .returned (.bool true) ∧ Below w.heap.size w w' := by
  have h : Rows.uptoBulkAll ([DataW.lit (H := H) (.string s.data.toList)] ++ []) ≤ 1048576 := of_decide_eq_true hk
  simp only [List.append_nil, Rows.uptoBulkAll, Rows.uptoBulk] at h
  have hz : s.size ≤ 1048576 := by rw [Lib.size_eq]; omega
  exact walk s (by unfold maxLen; omega) (by omega) w hT hlo0 hlo1
end Go.Proofs.YtoijjkbnmicadaaDoor.wordTiles
