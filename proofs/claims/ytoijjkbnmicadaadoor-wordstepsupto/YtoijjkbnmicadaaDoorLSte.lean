/-
  The walk of the law WordSteps: for every text and every number it returns true: Ahead goes to the words' ends one by one and then to the text's end, Behind to their beginnings and then to 0. Conditions: the text is so short that its list of words can be made; the two tables of unicode/utf8 lie as their text lays them.
-/
import Derived.Test.YtoijjkbnmicadaaDoorWLaw
import Derived.Test.YtoijjkbnmicadaaDoorPkC
namespace Go.Proofs.YtoijjkbnmicadaaDoor.wordSteps
open Go.RowKit Go.Sort Bod Wid

/-- k steps are done, ahead to a, back to b -/
structure PS (s : ByteArray) (k a b : Nat) : Prop where
  a1 : ∀ j q, j < k → (words s)[j]? = some q → q.2 ≤ a
  a2 : ∀ j q, k ≤ j → (words s)[j]? = some q → a < q.2
  b1 : ∀ j q, (words s).length - k ≤ j → (words s)[j]? = some q → b ≤ q.1
  b2 : ∀ j q, j < (words s).length - k → (words s)[j]? = some q → q.1 < b
  la : a ≤ s.size
  lb : b ≤ s.size
theorem ps_zero (s : ByteArray) : PS s 0 0 s.size :=
  ⟨fun j q h => by omega, fun j q _ h => by have := words_mem (List.mem_of_getElem? h); omega, fun j q h hq => by have := (List.getElem?_eq_some_iff.1 hq).1; omega, fun j q _ h => by have := words_mem (List.mem_of_getElem? h); omega, Nat.zero_le _, Nat.le_refl _⟩
theorem PS.next {s : ByteArray} {k a b : Nat} (h : PS s k a b) {p p' : Nat × Nat} (hp : (words s)[k]? = some p) (hp' : (words s)[(words s).length - 1 - k]? = some p') :
    aheadW (words s) s.size a = p.2 ∧ behindW (words s) b = p'.1 ∧ PS s (k + 1) p.2 p'.1 := by
  have hk := (List.getElem?_eq_some_iff.1 hp).1
  have hm := words_mem (List.mem_of_getElem? hp)
  have hm' := words_mem (List.mem_of_getElem? hp')
  refine ⟨ahead_next hp (h.a2 k p (Nat.le_refl _) hp) h.a1, behind_prev hp' (h.b2 _ p' (by omega) hp') (fun j q hj hq => h.b1 j q (by omega) hq), fun j q hj hq => ?_, fun j q hj hq => ?_, fun j q hj hq => ?_, fun j q hj hq => ?_, by omega, by omega⟩
  · by_cases e : j = k
    · subst e; rw [hp] at hq; cases hq; exact Nat.le_refl _
    · have := words_lt hq hp (by omega); omega
  · have := words_lt hp hq (by omega)
    have := words_mem (List.mem_of_getElem? hq)
    omega
  · by_cases e : j = (words s).length - 1 - k
    · subst e; rw [hp'] at hq; cases hq; exact Nat.le_refl _
    · have := words_lt hp' hq (by omega); omega
  · have := words_lt hq hp' (by omega)
    have := words_mem (List.mem_of_getElem? hq)
    omega
theorem PS.done {s : ByteArray} {a b : Nat} (h : PS s (words s).length a b) : aheadW (words s) s.size a = s.size ∧ behindW (words s) b = 0 :=
  ⟨ahead_none fun q hq => by obtain ⟨j, hj⟩ := List.mem_iff_getElem?.1 hq; exact h.a1 j q (List.getElem?_eq_some_iff.1 hj).1 hj, behind_none fun q hq => by obtain ⟨j, hj⟩ := List.mem_iff_getElem?.1 hq; exact h.b1 j q (by omega) hj⟩
theorem held_nat {s : ByteArray} {a : Nat} (h : a ≤ s.size) : heldN s a = a := by have := held_eq s a; omega
theorem ahead_facts {s : ByteArray} {m : Nat} (hm : m ≤ s.size) : (m < aheadW (words s) s.size m ∨ m = s.size) ∧ aheadW (words s) s.size m ≤ s.size ∧ cbZ s (aheadW (words s) s.size m) = true := by
  unfold aheadW
  cases h : (words s).find? (fun w => decide (m < w.2)) with
  | none =>
    refine ⟨?_, Nat.le_refl _, cb_end s⟩
    by_cases e : m = s.size
    · exact .inr e
    · exact .inl (by show m < s.size; omega)
  | some p =>
    have h1 : m < p.2 := by simpa using List.find?_some h
    have h2 := List.mem_of_find?_eq_some h
    exact ⟨.inl h1, (words_mem h2).2, (words_cb h2).2⟩
theorem behind_facts {s : ByteArray} (m : Nat) : (behindW (words s) m < m ∨ m = 0) ∧ cbZ s (behindW (words s) m) = true := by
  unfold behindW
  cases h : ((words s).map (·.1)).filter (fun x => decide (x < m)) |>.getLast? with
  | none =>
    refine ⟨?_, cb_zero s⟩
    by_cases e : m = 0
    · exact .inr e
    · exact .inl (by show 0 < m; omega)
  | some x =>
    have h1 := List.mem_of_getLast? h
    obtain ⟨h2, h3⟩ := List.mem_filter.1 h1
    obtain ⟨p, hp, rfl⟩ := List.mem_map.1 h2
    exact ⟨.inl (by simpa using h3), (words_cb hp).1⟩

set_option maxRecDepth 100000 in
set_option maxHeartbeats 4000000 in
theorem walk (s : ByteArray) (at' : Int) (hs : s.size ≤ maxLen) (hm : s.size ≤ 4398046511104) (w : World) (hT : Lib.Utf8Tabs 1 2 w) (hlo0 : 1 < w.heap.size) (hlo1 : 2 < w.heap.size) :
    Calls Tryd.prog 8 #[.string s, .int .i64 at'] w fun e w' => e = .returned (.bool true) ∧ Below w.heap.size w w' := by
  have cA := awake_any w hT hlo0 hlo1
  have CS : Hid (∀ W, Below w.heap.size w W → Calls Tryd.prog 17 #[.string s] W fun e W' => ∃ v, e = .returned v ∧ Rd2 W' v (words s) ∧ Below w.heap.size w W') := fun W hW => (spans_any s hs hm W (tabs_below hT hW) (Nat.lt_of_lt_of_le hlo0 hW.size) (Nat.lt_of_lt_of_le hlo1 hW.size)).mono fun e w' ⟨v, h1, h2, h3⟩ => ⟨v, h1, Rd2.of_row h2, hW.trans (h3.mono hW.size)⟩
  have CA : Hid (∀ (i : Int) W, Below w.heap.size w W → Calls Tryd.prog 19 #[.string s, .int .i64 i] W fun e w' => e = .returned (.int .i64 (aheadW (words s) s.size (heldN s i))) ∧ Below W.heap.size W w') := fun i W hW => ahead_any s i hs W (tabs_below hT hW)
  have CB : Hid (∀ (i : Int) W, Below w.heap.size w W → Calls Tryd.prog 21 #[.string s, .int .i64 i] W fun e w' => e = .returned (.int .i64 (behindW (words s) (heldN s i))) ∧ Below W.heap.size W w') := fun i W hW => behind_any s i hs W (tabs_below hT hW)
  have CD : Hid (∀ (i : Nat) W, i ≤ s.size → Below w.heap.size w W → Calls Tryd.prog 31 #[.string s, .int .i64 i] W fun e w' => e = .returned (.bool (cbZ s i)) ∧ Below W.heap.size W w') := fun i W hi hW => cbound_any s i hs W (tabs_below hT hW) (by unfold maxLen at hs; omega)
  have hwl := words_len s
  have hsm : s.size ≤ 9223372036854775807 := by unfold maxLen at hs; omega
  obtain ⟨N, hN⟩ : ∃ N, (words s).length = N := ⟨_, rfl⟩
  have HN : Hid ((words s).length = N) := hN
  rw [hN] at hwl
  clear hN
  have HR : Hid (∀ v W, Rd2 W v (words s) → ∃ la lc, v = .slice la N lc ∧ (words s ≠ [] → ∃ g, la = some ⟨g, 0, none⟩ ∧ g < W.heap.size ∧ ∀ k c, (words s)[k]? = some c → W.cell? ⟨g, k * 2, none⟩ = some (.int .i64 c.1) ∧ W.cell? ⟨g, k * 2 + 1, none⟩ = some (.int .i64 c.2))) := fun v W h => by
    obtain ⟨la, lc, h1, h2⟩ := h
    rw [HN.out] at h1
    exact ⟨la, lc, h1, h2⟩
  clear hT hlo0 hlo1 hs
  go_enter Tryd.func8, Tryd.ntmps8
  go_wp2_with (first | (go_at_call 9; refine cA.mono ?_; clear cA; rintro e w0 ⟨rfl, hb0⟩) | (go_at_call 17; refine (CS.out _ hb0).mono ?_; clear CS; rintro e w1 ⟨lv, rfl, hrd1, hb1⟩; obtain ⟨la, lc, rfl, hg0⟩ := HR.out _ _ hrd1; have HG : Hid (words s ≠ [] → ∃ g, la = some ⟨g, 0, none⟩ ∧ g < w1.heap.size ∧ ∀ k c, (words s)[k]? = some c → w1.cell? ⟨g, k * 2, none⟩ = some (.int .i64 c.1) ∧ w1.cell? ⟨g, k * 2 + 1, none⟩ = some (.int .i64 c.2)) := hg0; clear hg0 hrd1 HR))
  go_loopw [8, 6, 7] (fun t8 t6 t7 wr => ∃ (k a b : Nat), t8 = .int .i64 k ∧ t6 = .int .i64 a ∧ t7 = .int .i64 b ∧ k ≤ N ∧ PS s k a b ∧ Below w1.heap.size w1 wr ∧ Below w.heap.size w wr) (fun t8 _ _ _ => N - (intOf t8).toNat)
  case atStart => exact ⟨0, 0, s.size, rfl, rfl, rfl, Nat.zero_le _, ps_zero s, Below.refl _ _, hb1⟩
  case round =>
    obtain ⟨k, a, b, rfl, rfl, rfl, hk, hps, hB1, hB⟩ := hrel
    by_cases hlt : k < N
    · have hp : (words s)[k]? = some ((words s)[k]'(by rw [HN.out]; exact hlt)) := List.getElem?_eq_getElem _
      generalize (words s)[k]'(by rw [HN.out]; exact hlt) = p at hp
      have hp' : (words s)[(words s).length - 1 - k]? = some ((words s)[(words s).length - 1 - k]'(by rw [HN.out]; omega)) := List.getElem?_eq_getElem _
      generalize (words s)[(words s).length - 1 - k]'(by rw [HN.out]; omega) = p' at hp'
      obtain ⟨e1, e2, e3⟩ := hps.next hp hp'
      obtain ⟨g, rfl, hgl, hcells⟩ := HG.out (fun e => by rw [e] at hp; simp at hp)
      rw [HN.out] at hp'
      obtain ⟨_, q1⟩ := hcells k p hp
      obtain ⟨q0, _⟩ := hcells _ p' hp'
      have HP : Hid (PS s (k + 1) p.2 p'.1) := e3
      have cH : Calls Tryd.prog 19 #[.string s, .int .i64 a] wr fun e w' => e = .returned (.int .i64 p.2) ∧ Below wr.heap.size wr w' := by have := CA.out a wr hB; rwa [held_nat hps.la, e1] at this
      have CI : Hid (∀ W, Below wr.heap.size wr W → Calls Tryd.prog 21 #[.string s, .int .i64 b] W fun e w' => e = .returned (.int .i64 p'.1) ∧ Below wr.heap.size wr w') := fun W hW => by
        have := CB.out b W (hB.trans (hW.mono hB.size))
        rw [held_nat hps.lb, e2] at this
        exact this.mono fun e w' ⟨h1, h2⟩ => ⟨h1, hW.trans (h2.mono hW.size)⟩
      have HQ : Hid (∀ W, Below wr.heap.size wr W → W.cell? ⟨g, k * 2 + 1, none⟩ = some (.int .i64 p.2) ∧ W.cell? ⟨g, (N - 1 - k) * 2, none⟩ = some (.int .i64 p'.1)) := fun W hW => ⟨((hB1.trans (hW.mono hB1.size)).cell (p := ⟨g, k * 2 + 1, none⟩) hgl).trans q1, ((hB1.trans (hW.mono hB1.size)).cell (p := ⟨g, (N - 1 - k) * 2, none⟩) hgl).trans q0⟩
      have HB1 : Hid (Below w1.heap.size w1 wr) := hB1
      have HB : Hid (Below w.heap.size w wr) := hB
      clear q0 q1 hcells hps e1 e2 e3 hp hp' CA CB HG hB1 hB
      go_wp2_with (first | (go_at_call 19; refine cH.mono ?_; clear cH; rintro e w2 ⟨rfl, hb2⟩) | (go_at_call 21; refine (CI.out _ hb2).mono ?_; clear CI; rintro e w3 ⟨rfl, hb3⟩; obtain ⟨r1, r0⟩ := HQ.out _ hb3))
      exact ⟨⟨k + 1, p.2, p'.1, by first | rfl | simp, rfl, rfl, by omega, HP.out, HB1.out.trans (hb3.mono HB1.out.size), HB.out.trans (hb3.mono HB.out.size)⟩, by simp [intOf]; omega⟩
    · have hkN : k = N := by omega
      have hps' : PS s (words s).length a b := by rw [HN.out, ← hkN]; exact hps
      obtain ⟨e1, e2⟩ := hps'.done
      have hnl : ¬ ((k : Int) < N) := by omega
      have cH : Calls Tryd.prog 19 #[.string s, .int .i64 a] wr fun e w' => e = .returned (.int .i64 s.size) ∧ Below wr.heap.size wr w' := by have := CA.out a wr hB; rwa [held_nat hps.la, e1] at this
      have CI : Hid (∀ W, Below wr.heap.size wr W → Calls Tryd.prog 21 #[.string s, .int .i64 b] W fun e w' => e = .returned (.int .i64 0) ∧ Below w.heap.size w w') := fun W hW => by
        have := CB.out b W (hB.trans (hW.mono hB.size))
        rw [held_nat hps.lb, e2] at this
        exact this.mono fun e w' ⟨h1, h2⟩ => ⟨h1, hB.trans ((hW.trans (h2.mono hW.size)).mono hB.size)⟩
      clear hps hps' e1 e2 HG hkN
      by_cases hneg : at' < 0
      · have h0 : heldN s at' = 0 := by have := held_eq s at'; omega
        have h1 : heldN s 0 = 0 := held_nat (a := 0) (Nat.zero_le _)
        have CA1 : Hid (∀ W, Below w.heap.size w W → Calls Tryd.prog 19 #[.string s, .int .i64 at'] W fun e w' => e = .returned (.int .i64 (aheadW (words s) s.size 0)) ∧ Below w.heap.size w w') := fun W hW => by
          have := CA.out at' W hW
          rw [h0] at this
          exact this.mono fun e w' ⟨h1, h2⟩ => ⟨h1, hW.trans (h2.mono hW.size)⟩
        have CA2 : Hid (∀ W, Below w.heap.size w W → Calls Tryd.prog 19 #[.string s, .int .i64 0] W fun e w' => e = .returned (.int .i64 (aheadW (words s) s.size 0)) ∧ Below w.heap.size w w') := fun W hW => by
          have := CA.out 0 W hW
          rw [h1] at this
          exact this.mono fun e w' ⟨h1, h2⟩ => ⟨h1, hW.trans (h2.mono hW.size)⟩
        have CB1 : Hid (∀ W, Below w.heap.size w W → Calls Tryd.prog 21 #[.string s, .int .i64 at'] W fun e w' => e = .returned (.int .i64 0) ∧ Below w.heap.size w w') := fun W hW => by
          have := CB.out at' W hW
          rw [h0, behind_none (fun q _ => Nat.zero_le _)] at this
          exact this.mono fun e w' ⟨h1, h2⟩ => ⟨h1, hW.trans (h2.mono hW.size)⟩
        generalize ((aheadW (words s) s.size 0 : Nat) : Int) = z at CA1 CA2
        clear h0 h1 CA CB CD hB1 hB
        go_wp2_with (first | (go_at_call 19; refine cH.mono ?_; clear cH; rintro e w2 ⟨rfl, hb2⟩) | (go_at_call 21; refine (CI.out _ hb2).mono ?_; clear CI hb2; rintro e w3 ⟨rfl, hb3⟩) | (go_at_call 19; refine (CA1.out _ hb3).mono ?_; clear CA1; rintro e w4 ⟨rfl, hb4⟩) | (go_at_call 19; refine (CA2.out _ hb4).mono ?_; clear CA2; rintro e w5 ⟨rfl, hb5⟩) | (go_at_call 21; refine (CB1.out _ hb5).mono ?_; clear CB1; rintro e w6 ⟨rfl, hb6⟩))
        go_ret
        exact ⟨rfl, hb6⟩
      · by_cases hgt : (s.size : Int) < at'
        · have h0 : heldN s at' = s.size := by have := held_eq s at'; omega
          have h1 : heldN s s.size = s.size := held_nat (Nat.le_refl _)
          have CA1 : Hid (∀ W, Below w.heap.size w W → Calls Tryd.prog 19 #[.string s, .int .i64 at'] W fun e w' => e = .returned (.int .i64 s.size) ∧ Below w.heap.size w w') := fun W hW => by
            have := CA.out at' W hW
            rw [h0, ahead_none (fun q hq => (words_mem hq).2)] at this
            exact this.mono fun e w' ⟨h1, h2⟩ => ⟨h1, hW.trans (h2.mono hW.size)⟩
          have CB1 : Hid (∀ W, Below w.heap.size w W → Calls Tryd.prog 21 #[.string s, .int .i64 at'] W fun e w' => e = .returned (.int .i64 (behindW (words s) s.size)) ∧ Below w.heap.size w w') := fun W hW => by
            have := CB.out at' W hW
            rw [h0] at this
            exact this.mono fun e w' ⟨h1, h2⟩ => ⟨h1, hW.trans (h2.mono hW.size)⟩
          have CB2 : Hid (∀ W, Below w.heap.size w W → Calls Tryd.prog 21 #[.string s, .int .i64 s.size] W fun e w' => e = .returned (.int .i64 (behindW (words s) s.size)) ∧ Below w.heap.size w w') := fun W hW => by
            have := CB.out s.size W hW
            rw [h1] at this
            exact this.mono fun e w' ⟨h1, h2⟩ => ⟨h1, hW.trans (h2.mono hW.size)⟩
          generalize ((behindW (words s) s.size : Nat) : Int) = z at CB1 CB2
          clear h0 h1 CA CB CD hB1 hB
          go_wp2_with (first | (go_at_call 19; refine cH.mono ?_; clear cH; rintro e w2 ⟨rfl, hb2⟩) | (go_at_call 21; refine (CI.out _ hb2).mono ?_; clear CI hb2; rintro e w3 ⟨rfl, hb3⟩) | (go_at_call 19; refine (CA1.out _ hb3).mono ?_; clear CA1; rintro e w4 ⟨rfl, hb4⟩) | (go_at_call 21; refine (CB1.out _ hb4).mono ?_; clear CB1; rintro e w5 ⟨rfl, hb5⟩) | (go_at_call 21; refine (CB2.out _ hb5).mono ?_; clear CB2; rintro e w6 ⟨rfl, hb6⟩))
          go_ret
          exact ⟨rfl, hb6⟩
        · obtain ⟨m, rfl⟩ := Int.eq_ofNat_of_zero_le (show 0 ≤ at' by omega)
          have hms : m ≤ s.size := by omega
          have h0 := held_nat hms
          obtain ⟨f1, f2, f3⟩ := ahead_facts hms
          obtain ⟨f4, f5⟩ := behind_facts (s := s) m
          have CA1 : Hid (∀ W, Below w.heap.size w W → Calls Tryd.prog 19 #[.string s, .int .i64 m] W fun e w' => e = .returned (.int .i64 (aheadW (words s) s.size m)) ∧ Below w.heap.size w w') := fun W hW => by
            have := CA.out m W hW
            rw [h0] at this
            exact this.mono fun e w' ⟨h1, h2⟩ => ⟨h1, hW.trans (h2.mono hW.size)⟩
          have CB1 : Hid (∀ W, Below w.heap.size w W → Calls Tryd.prog 21 #[.string s, .int .i64 m] W fun e w' => e = .returned (.int .i64 (behindW (words s) m)) ∧ Below w.heap.size w w') := fun W hW => by
            have := CB.out m W hW
            rw [h0] at this
            exact this.mono fun e w' ⟨h1, h2⟩ => ⟨h1, hW.trans (h2.mono hW.size)⟩
          have CD1 : Hid (∀ W, Below w.heap.size w W → Calls Tryd.prog 31 #[.string s, .int .i64 (aheadW (words s) s.size m : Nat)] W fun e w' => e = .returned (.bool true) ∧ Below w.heap.size w w') := fun W hW => by
            have := CD.out _ W f2 hW
            rw [f3] at this
            exact this.mono fun e w' ⟨h1, h2⟩ => ⟨h1, hW.trans (h2.mono hW.size)⟩
          have CD2 : Hid (∀ W, Below w.heap.size w W → Calls Tryd.prog 31 #[.string s, .int .i64 (behindW (words s) m : Nat)] W fun e w' => e = .returned (.bool true) ∧ Below w.heap.size w w') := fun W hW => by
            have := CD.out (behindW (words s) m) W (by obtain ⟨m', e, hB'⟩ := cb_B f5; have := hB'.1; omega) hW
            rw [f5] at this
            exact this.mono fun e w' ⟨h1, h2⟩ => ⟨h1, hW.trans (h2.mono hW.size)⟩
          generalize aheadW (words s) s.size m = A at *
          generalize behindW (words s) m = D at *
          have g2 : (A : Int) ≤ s.size := by omega
          clear h0 CA CB CD hB1 hB f2 f3 f5 hneg hgt
          by_cases g1 : (m : Int) < A
          · by_cases g3 : (D : Int) < m
            · clear f1 f4
              go_wp2_with (first | (go_at_call 19; refine cH.mono ?_; clear cH; rintro e w2 ⟨rfl, hb2⟩) | (go_at_call 21; refine (CI.out _ hb2).mono ?_; clear CI hb2; rintro e w3 ⟨rfl, hb3⟩) | (go_at_call 19; refine (CA1.out _ hb3).mono ?_; clear CA1; rintro e w4 ⟨rfl, hb4⟩) | (go_at_call 21; refine (CB1.out _ hb4).mono ?_; clear CB1; rintro e w5 ⟨rfl, hb5⟩) | (go_at_call 31; refine (CD1.out _ hb5).mono ?_; clear CD1; rintro e w6 ⟨rfl, hb6⟩) | (go_at_call 31; refine (CD2.out _ hb6).mono ?_; clear CD2; rintro e w7 ⟨rfl, hb7⟩))
              go_ret
              exact ⟨rfl, hb7⟩
            · have g4 : m = 0 := by omega
              have g7 : ((m : Int) == 0) = true := by rw [g4]; rfl
              clear f1 f4 g4
              go_wp2_with (first | (go_at_call 19; refine cH.mono ?_; clear cH; rintro e w2 ⟨rfl, hb2⟩) | (go_at_call 21; refine (CI.out _ hb2).mono ?_; clear CI hb2; rintro e w3 ⟨rfl, hb3⟩) | (go_at_call 19; refine (CA1.out _ hb3).mono ?_; clear CA1; rintro e w4 ⟨rfl, hb4⟩) | (go_at_call 21; refine (CB1.out _ hb4).mono ?_; clear CB1; rintro e w5 ⟨rfl, hb5⟩) | (go_at_call 31; refine (CD1.out _ hb5).mono ?_; clear CD1; rintro e w6 ⟨rfl, hb6⟩) | (go_at_call 31; refine (CD2.out _ hb6).mono ?_; clear CD2; rintro e w7 ⟨rfl, hb7⟩))
              go_ret
              exact ⟨rfl, hb7⟩
          · have g6 : m = s.size := by omega
            have g5 : ((m : Int) == (s.size : Int)) = true := by rw [g6]; simp
            clear g6
            by_cases g3 : (D : Int) < m
            · clear f1 f4
              go_wp2_with (first | (go_at_call 19; refine cH.mono ?_; clear cH; rintro e w2 ⟨rfl, hb2⟩) | (go_at_call 21; refine (CI.out _ hb2).mono ?_; clear CI hb2; rintro e w3 ⟨rfl, hb3⟩) | (go_at_call 19; refine (CA1.out _ hb3).mono ?_; clear CA1; rintro e w4 ⟨rfl, hb4⟩) | (go_at_call 21; refine (CB1.out _ hb4).mono ?_; clear CB1; rintro e w5 ⟨rfl, hb5⟩) | (go_at_call 31; refine (CD1.out _ hb5).mono ?_; clear CD1; rintro e w6 ⟨rfl, hb6⟩) | (go_at_call 31; refine (CD2.out _ hb6).mono ?_; clear CD2; rintro e w7 ⟨rfl, hb7⟩))
              go_ret
              exact ⟨rfl, hb7⟩
            · have g4 : m = 0 := by omega
              have g7 : ((m : Int) == 0) = true := by rw [g4]; rfl
              clear f1 f4 g4
              go_wp2_with (first | (go_at_call 19; refine cH.mono ?_; clear cH; rintro e w2 ⟨rfl, hb2⟩) | (go_at_call 21; refine (CI.out _ hb2).mono ?_; clear CI hb2; rintro e w3 ⟨rfl, hb3⟩) | (go_at_call 19; refine (CA1.out _ hb3).mono ?_; clear CA1; rintro e w4 ⟨rfl, hb4⟩) | (go_at_call 21; refine (CB1.out _ hb4).mono ?_; clear CB1; rintro e w5 ⟨rfl, hb5⟩) | (go_at_call 31; refine (CD1.out _ hb5).mono ?_; clear CD1; rintro e w6 ⟨rfl, hb6⟩) | (go_at_call 31; refine (CD2.out _ hb6).mono ?_; clear CD2; rintro e w7 ⟨rfl, hb7⟩))
              go_ret
              exact ⟨rfl, hb7⟩
theorem walk_of {H : Type} (s : ByteArray) (a : Int) (w : World) (hT : Lib.Utf8Tabs 1 2 w) (hlo0 : 1 < w.heap.size) (hlo1 : 2 < w.heap.size) (_hs : s.size ≤ 140737488351232) (_ha : -9223372036854775808 ≤ a ∧ a ≤ 9223372036854775807) (hk : Rows.uptoSmall H ([DataW.lit (.string s.data.toList), DataW.lit (.int .i64 a)] ++ []) = true) :
    Calls Tryd.prog 8 #[.string s, .int .i64 a] w fun e w' => e = .returned (.bool true) ∧ Below w.heap.size w w' := by
  have h : Rows.uptoBulkAll ([DataW.lit (H := H) (.string s.data.toList), DataW.lit (.int .i64 a)] ++ []) ≤ 1048576 := of_decide_eq_true hk
  simp only [List.append_nil, Rows.uptoBulkAll, Rows.uptoBulk] at h
  have hz : s.size ≤ 1048576 := by rw [Lib.size_eq]; omega
  exact walk s a (by unfold maxLen; omega) (by omega) w hT hlo0 hlo1
end Go.Proofs.YtoijjkbnmicadaaDoor.wordSteps
