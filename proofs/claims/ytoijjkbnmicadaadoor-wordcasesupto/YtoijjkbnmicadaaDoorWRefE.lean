/-
  The walk of the document's own Spans of package word: what WMathB tells. Conditions: the text is so short that its lists can be made.
-/
import Derived.Test.YtoijjkbnmicadaaDoorYListW
import Derived.Test.YtoijjkbnmicadaaDoorWRefD
import Derived.Test.YtoijjkbnmicadaaDoorWMathD
import Derived.Deep.RegionHeld3
namespace Go.Proofs.YtoijjkbnmicadaaDoor
open Go.RowKit Bod Wid

theorem SI.four {w : World} {g N cap : Nat} {v : Value} {l : List Clu} {ys : List (Nat × Nat)} {W : World} (h : SI w (.slice (some ⟨g, 0, none⟩) N cap) v l ys W) {k : Nat} {c : Clu} (hc : l[k]? = some c) : W.cell? ⟨g, k * 4, none⟩ = some (.int .i64 c.fr) ∧ W.cell? ⟨g, k * 4 + 1, none⟩ = some (.int .i64 c.to) ∧ W.cell? ⟨g, k * 4 + 2, none⟩ = some (.int .i64 c.k) ∧ W.cell? ⟨g, k * 4 + 3, none⟩ = some (.int .i64 c.n) := by
  obtain ⟨a', cap', he, hr⟩ := Rd4.of_row h.cls
  injection he with e1 e2 e3
  obtain ⟨g', hg, _, hcell⟩ := hr (fun e => by rw [e] at hc; simp at hc)
  rw [hg] at e1
  have e4 : g = g' := by simpa using e1
  subst e4
  exact hcell k c hc
theorem below_ad (W : World) (o : Obj) : Below W.heap.size W (W.alloc o).drew := ((Below.refl _ W).alloc (Nat.le_refl _) o).trans ⟨rfl, rfl, rfl, Nat.le_refl _, fun _ _ => rfl⟩
theorem SI.rowa {w : World} {lv v : Value} {l : List Clu} {ys : List (Nat × Nat)} {W : World} (h : SI w lv v l ys W) (o : Obj) : (W.alloc o).drew.ownsRow w.heap.size 32 2 v ys.length (spc ys) := (h.below (below_ad W o)).out
set_option maxHeartbeats 4000000 in
set_option maxRecDepth 100000 in
theorem rspans_any (s : ByteArray) (hs : s.size ≤ 4398046511000) (w : World) :
    Calls Tryd.prog 16 #[.string s] w fun e W' => ∃ v, e = .returned v ∧ W'.ownsRow w.heap.size 32 2 v (words s).length (spc (words s)) ∧ Below w.heap.size w W' := by
  obtain ⟨l, hl⟩ : ∃ l, cl s = l := ⟨_, rfl⟩
  obtain ⟨N, hN⟩ : ∃ N, l.length = N := ⟨_, rfl⟩
  obtain ⟨p, hp⟩ : ∃ p : Clu → Bool, (fun c => wch (ch s c.fr)) = p := ⟨_, rfl⟩
  have hNs : N ≤ s.size := by rw [← hN, ← hl]; exact cl_len s
  have hw : words s = wsp p l := by unfold words; rw [hl, hp]
  have CW : Hid (∀ c ∈ l, ∀ W, Calls Tryd.prog 42 #[.string s, .agg #[.int .i64 c.fr, .int .i64 c.to, .int .i64 c.k, .int .i64 c.n]] W fun e W' => e = .returned (.bool (p c)) ∧ Below W.heap.size W W') := fun c hc W => by
    rw [← hl] at hc
    obtain ⟨h1, h2, h3⟩ := cl_first hc
    rw [← hp]
    exact rwordly_any s c.fr c.to c.k c.n h1 h2 h3 (by omega) W
  have CL : Hid (Calls Tryd.prog 41 #[.string s] w fun e W' => ∃ a cap, e = .returned (.slice a N cap) ∧ Hid (SI w (.slice a N cap) (.slice none 0 0) l [] W')) := (rlist_any s (by omega) w).mono fun e W' ⟨v, h1, h2, h3⟩ => by
    rw [hl] at h2
    obtain ⟨a, cap, rfl, _⟩ := Rd4.of_row h2
    rw [hN] at h1 h2
    exact ⟨a, cap, h1, by rw [hN]; exact h2, World.ownsRow_nil _ _ _ _, h3⟩
  obtain ⟨i0, hi, hz0, hz1, hz2⟩ := info_parts info_span
  have HN : Hid (l.length = N) := hN
  rw [hw]
  clear hw hp hl hN
  go_enter Tryd.func16, Tryd.ntmps16
  go_wp2_with (go_at_call 41; refine CL.out.mono ?_; clear CL; rintro e w1 ⟨a, cap, rfl, HS⟩)
  go_loopw [4, 5] (fun v t wr => ∃ (i : Nat) (ys : List (Nat × Nat)), t = .int .i64 i ∧ i ≤ N ∧ ys.length ≤ i ∧ Hid (SI w (.slice a N cap) v l ys wr ∧ ys ++ wfrom p l i = wsp p l)) (fun _ t _ => N - (intOf t).toNat)
  case atStart => exact ⟨0, [], rfl, Nat.zero_le _, Nat.le_refl _, ⟨HS.out, by rw [wfrom_zero]; rfl⟩⟩
  case round =>
    obtain ⟨i, ys, rfl, hiN, hys, HK⟩ := hrel
    clear HS
    by_cases hlt : i < N
    · obtain ⟨c, hc⟩ : ∃ c, l[i]? = some c := ⟨l[i]'(by rw [HN.out]; exact hlt), List.getElem?_eq_getElem _⟩
      have hcm : c ∈ l := List.mem_of_getElem? hc
      obtain ⟨a', cap', he, hr⟩ := Rd4.of_row HK.out.1.cls
      injection he with e1 e2 e3
      obtain ⟨g, hg, hgl, hcell⟩ := hr (fun e => by rw [e] at hc; simp at hc)
      rw [hg] at e1
      subst e1
      clear e2 e3 hg hr
      obtain ⟨z0, z1, z2, z3⟩ := hcell i c hc
      have HCL : Hid _ := hcell
      have CWc : Hid (∀ W, Calls Tryd.prog 42 #[.string s, .agg #[.int .i64 c.fr, .int .i64 c.to, .int .i64 c.k, .int .i64 c.n]] W fun e W' => e = .returned (.bool (p c)) ∧ Below W.heap.size W W') := CW.out c hcm
      have HC : Hid (l[i]? = some c) := hc
      clear hcell hc
      cases hpc : p c with
      | false =>
        rw [hpc] at CWc
        go_wp2_with (go_at_call 42; refine (CWc.out _).mono ?_; rintro e w2 ⟨rfl, hb2⟩; have HB2 : Hid (Below wr.heap.size wr w2) := hb2; clear hb2)
        exact ⟨⟨i + 1, ys, by go_num, by omega, by omega, ⟨HK.out.1.below HB2.out, by rw [← wfrom_not HC.out hpc]; exact HK.out.2⟩⟩, by simp [intOf]; omega⟩
      | true =>
        rw [hpc] at CWc
        have HPC : Hid (p c = true) := hpc
        by_cases hi0 : i = 0
        · subst hi0
          go_wp2_with (go_at_call 42; refine (CWc.out _).mono ?_; rintro e w2 ⟨rfl, hb2⟩; have HB2 : Hid (Below wr.heap.size wr w2) := hb2; clear hb2)
          have HQ : Hid (SI w (.slice (some ⟨g, 0, none⟩) N cap) u4 l ys w2 ∧ ys ++ (c.fr, lastTo p c.to (l.drop (0 + 1))) :: wfrom p l (0 + 1) = wsp p l) := ⟨HK.out.1.below HB2.out, by rw [← wfrom_start HC.out HPC.out (.inl rfl)]; exact HK.out.2⟩
          clear z0 z1 z2 z3 HCL CWc
          go_loopw [6] (fun t wz => ∃ (k : Nat) (c' : Clu), t = .int .i64 k ∧ 0 ≤ k ∧ k < N ∧ Hid (l[k]? = some c' ∧ lastTo p c.to (l.drop (0 + 1)) = lastTo p c'.to (l.drop (k + 1)) ∧ SI w (.slice (some ⟨g, 0, none⟩) N cap) u4 l ys wz)) (fun t _ => N - (intOf t).toNat)
          case atStart => exact ⟨0, c, by simp, Nat.le_refl _, by omega, ⟨HC.out, rfl, HQ.out.1⟩⟩
          case round =>
            obtain ⟨k, c', rfl, hk1, hk2, HL⟩ := hrel
            by_cases hkn : k + 1 < N
            · obtain ⟨e', he'⟩ : ∃ e', l[k + 1]? = some e' := ⟨l[k + 1]'(by rw [HN.out]; exact hkn), List.getElem?_eq_getElem _⟩
              have CWe : Hid (∀ W, Calls Tryd.prog 42 #[.string s, .agg #[.int .i64 e'.fr, .int .i64 e'.to, .int .i64 e'.k, .int .i64 e'.n]] W fun e W' => e = .returned (.bool (p e')) ∧ Below W.heap.size W W') := CW.out e' (List.mem_of_getElem? he')
              obtain ⟨q0, q1, q2, q3⟩ := HL.out.2.2.four he'
              have HE : Hid (l[k + 1]? = some e') := he'
              clear he'
              cases hpe : p e' with
              | true =>
                rw [hpe] at CWe
                go_wp2_with (go_at_call 42; refine (CWe.out _).mono ?_; rintro e w3 ⟨rfl, hb3⟩; have HB3 : Hid (Below wr.heap.size wr w3) := hb3; clear hb3)
                exact ⟨⟨k + 1, e', by go_num, by omega, by omega, ⟨HE.out, HL.out.2.1.trans (lastTo_step HE.out hpe), HL.out.2.2.below HB3.out⟩⟩, by simp [intOf]; omega⟩
              | false =>
                rw [hpe] at CWe
                go_wp2_with (go_at_call 42; refine (CWe.out _).mono ?_; rintro e w3 ⟨rfl, hb3⟩; have HB3 : Hid (Below wr.heap.size wr w3) := hb3; clear hb3)
                have HS3 : Hid (SI w (.slice (some ⟨g, 0, none⟩) N cap) u4 l ys w3) := HL.out.2.2.below HB3.out
                have HE2 : Hid (lastTo p c.to (l.drop (0 + 1)) = c'.to) := HL.out.2.1.trans (lastTo_stop fun c2 h2 => by rw [HE.out] at h2; cases h2; exact hpe)
                have x0 : w3.cell? ⟨g, 0, none⟩ = some (.int .i64 c.fr) := by simpa using (HS3.out.four HC.out).1
                have x1 : w3.cell? ⟨g, k * 4 + 1, none⟩ = some (.int .i64 c'.to) := (HS3.out.four HL.out.1).2.1
                have hne : Hid (u4.ownBlock ≠ some g) := by
                  rcases rows_apart HS3.out.cls HS3.out.out with h | h
                  · cases h
                  · exact fun e => h (by rw [e]; rfl)
                have hgl3 := (HS3.out.cls.lt g rfl).2
                have hzz := HS3.out.bel.size
                clear q0 q1 q2 q3 CWe hpe
                go_region_held3 (fun w' => w'.cell? ⟨g, 0, none⟩ = some (.int .i64 c.fr) ∧ w'.cell? ⟨g, k * 4 + 1, none⟩ = some (.int .i64 c'.to)) (go_keep) (first | (refine step_append_own rfl (.tmp 52) (.tmp 64) 28 rfl w.heap.size 32 i0 _ 2 16 Tryd.underlying28 hi hz0 hz1 hz2 rfl (by decide) u4 _ _ rfl (HS3.out.rowa _) ⟨w3.heap.size, 0, none⟩ 1 1 [.int .i64 (c.fr : Int), .int .i64 (c'.to : Int)] rfl rfl (fun j u h => World.news_of_block (World.alloc_heap_new w3 _) j u h) (by simp [Value.oneCell']) (by unfold maxLen; omega) (by omega) (Nat.le_trans hzz (below_ad w3 _).size) ?_; intro v9 w9 hrow9 hg9; have hbA : Hid (Below w3.heap.size w3 (w3.alloc (Obj.cells #[.int .i64 (c.fr : Int), .int .i64 (c'.to : Int)] 32)).drew) := below_ad w3 _; have d0 : w9.cell? ⟨g, 0, none⟩ = some (.int .i64 c.fr) := (grown_cell hg9 (Nat.lt_of_lt_of_le hgl3 hbA.out.size) hne.out).trans ((hbA.out.cell (p := ⟨g, 0, none⟩) hgl3).trans x0); have d1 : w9.cell? ⟨g, k * 4 + 1, none⟩ = some (.int .i64 c'.to) := (grown_cell hg9 (Nat.lt_of_lt_of_le hgl3 hbA.out.size) hne.out).trans ((hbA.out.cell (p := ⟨g, k * 4 + 1, none⟩) hgl3).trans x1)))
                go_wp2
                exact ⟨⟨0 + 1, ys ++ [(c.fr, c'.to)], by go_num, by omega, (by rw [List.length_append]; exact Nat.succ_le_succ hys), ⟨HS3.out.push hbA.out hg9 hrow9, by have h := HQ.out.2; rw [HE2.out] at h; rw [List.append_assoc]; exact h⟩⟩, by simp [intOf]; omega⟩
            · have hd2 : decide (((k : Int) + 1) < N) = false := decide_eq_false (by omega)
              go_wp2
              have HS3 : Hid (SI w (.slice (some ⟨g, 0, none⟩) N cap) u4 l ys wr) := HL.out.2.2
              have HE2 : Hid (lastTo p c.to (l.drop (0 + 1)) = c'.to) := HL.out.2.1.trans (lastTo_stop fun c2 h2 => by rw [List.getElem?_eq_none_iff.2 (by rw [HN.out]; omega)] at h2; cases h2)
              have x0 : wr.cell? ⟨g, 0, none⟩ = some (.int .i64 c.fr) := by simpa using (HS3.out.four HC.out).1
              have x1 : wr.cell? ⟨g, k * 4 + 1, none⟩ = some (.int .i64 c'.to) := (HS3.out.four HL.out.1).2.1
              have hne : Hid (u4.ownBlock ≠ some g) := by
                rcases rows_apart HS3.out.cls HS3.out.out with h | h
                · cases h
                · exact fun e => h (by rw [e]; rfl)
              have hgl3 := (HS3.out.cls.lt g rfl).2
              have hzz := HS3.out.bel.size
              go_region_held3 (fun w' => w'.cell? ⟨g, 0, none⟩ = some (.int .i64 c.fr) ∧ w'.cell? ⟨g, k * 4 + 1, none⟩ = some (.int .i64 c'.to)) (go_keep) (first | (refine step_append_own rfl (.tmp 52) (.tmp 64) 28 rfl w.heap.size 32 i0 _ 2 16 Tryd.underlying28 hi hz0 hz1 hz2 rfl (by decide) u4 _ _ rfl (HS3.out.rowa _) ⟨wr.heap.size, 0, none⟩ 1 1 [.int .i64 (c.fr : Int), .int .i64 (c'.to : Int)] rfl rfl (fun j u h => World.news_of_block (World.alloc_heap_new wr _) j u h) (by simp [Value.oneCell']) (by unfold maxLen; omega) (by omega) (Nat.le_trans hzz (below_ad wr _).size) ?_; intro v9 w9 hrow9 hg9; have hbA : Hid (Below wr.heap.size wr (wr.alloc (Obj.cells #[.int .i64 (c.fr : Int), .int .i64 (c'.to : Int)] 32)).drew) := below_ad wr _; have d0 : w9.cell? ⟨g, 0, none⟩ = some (.int .i64 c.fr) := (grown_cell hg9 (Nat.lt_of_lt_of_le hgl3 hbA.out.size) hne.out).trans ((hbA.out.cell (p := ⟨g, 0, none⟩) hgl3).trans x0); have d1 : w9.cell? ⟨g, k * 4 + 1, none⟩ = some (.int .i64 c'.to) := (grown_cell hg9 (Nat.lt_of_lt_of_le hgl3 hbA.out.size) hne.out).trans ((hbA.out.cell (p := ⟨g, k * 4 + 1, none⟩) hgl3).trans x1)))
              go_wp2
              exact ⟨⟨0 + 1, ys ++ [(c.fr, c'.to)], by go_num, by omega, (by rw [List.length_append]; exact Nat.succ_le_succ hys), ⟨HS3.out.push hbA.out hg9 hrow9, by have h := HQ.out.2; rw [HE2.out] at h; rw [List.append_assoc]; exact h⟩⟩, by simp [intOf]; omega⟩
        · obtain ⟨m, hm⟩ : ∃ m, i = m + 1 := ⟨i - 1, by omega⟩
          obtain ⟨d, hd⟩ : ∃ d, l[m]? = some d := ⟨l[m]'(by rw [HN.out]; omega), List.getElem?_eq_getElem _⟩
          have HD : Hid (l[m]? = some d) := hd
          have CWd : Hid (∀ W, Calls Tryd.prog 42 #[.string s, .agg #[.int .i64 d.fr, .int .i64 d.to, .int .i64 d.k, .int .i64 d.n]] W fun e W' => e = .returned (.bool (p d)) ∧ Below W.heap.size W W') := CW.out d (List.mem_of_getElem? hd)
          have g0 : decide (0 < i) = true := decide_eq_true (by omega)
          have hwm : IntKind.i64.wrap ((i : Int) - 1) = (m : Int) := by rw [IntKind.wrap_i64]; omega
          have hmN : (m : Int) < N := by omega
          have HNM : Hid (i = m + 1) := hm
          clear hd hm hi0
          cases hpd : p d with
          | true =>
            rw [hpd] at CWd
            go_wp2_with (first | (go_at_call 42; refine (CWc.out _).mono ?_; clear CWc; rintro e w2 ⟨rfl, hb2⟩; have HB2 : Hid (Below wr.heap.size wr w2) := hb2; obtain ⟨y0, y1, y2, y3⟩ := (HK.out.1.below hb2).four HD.out; clear hb2) | (go_at_call 42; refine (CWd.out _).mono ?_; clear CWd; rintro e w4 ⟨rfl, hb4⟩; have HB4 : Hid (Below w2.heap.size w2 w4) := hb4; clear hb4))
            exact ⟨⟨i + 1, ys, by go_num, by omega, by omega, ⟨(HK.out.1.below HB2.out).below HB4.out, by have h := HK.out.2; have h1 := HC.out; have hm := HNM.out; subst hm; rw [wfrom_in h1 HPC.out HD.out hpd] at h; exact h⟩⟩, by simp [intOf]; omega⟩
          | false =>
            rw [hpd] at CWd
            go_wp2_with (first | (go_at_call 42; refine (CWc.out _).mono ?_; clear CWc; rintro e w2 ⟨rfl, hb2⟩; have HB2 : Hid (Below wr.heap.size wr w2) := hb2; obtain ⟨y0, y1, y2, y3⟩ := (HK.out.1.below hb2).four HD.out; clear hb2) | (go_at_call 42; refine (CWd.out _).mono ?_; clear CWd; rintro e w4 ⟨rfl, hb4⟩; have HB4 : Hid (Below w2.heap.size w2 w4) := hb4; clear hb4))
            have HQ : Hid (SI w (.slice (some ⟨g, 0, none⟩) N cap) u4 l ys w4 ∧ ys ++ (c.fr, lastTo p c.to (l.drop (i + 1))) :: wfrom p l (i + 1) = wsp p l) := ⟨(HK.out.1.below HB2.out).below HB4.out, by have h := HK.out.2; rw [wfrom_start HC.out HPC.out (.inr ⟨d, by rw [HNM.out]; exact HD.out, hpd⟩)] at h; exact h⟩
            clear z0 z1 z2 z3 y0 y1 y2 y3 HCL
            go_loopw [6] (fun t wz => ∃ (k : Nat) (c' : Clu), t = .int .i64 k ∧ i ≤ k ∧ k < N ∧ Hid (l[k]? = some c' ∧ lastTo p c.to (l.drop (i + 1)) = lastTo p c'.to (l.drop (k + 1)) ∧ SI w (.slice (some ⟨g, 0, none⟩) N cap) u4 l ys wz)) (fun t _ => N - (intOf t).toNat)
            case atStart => exact ⟨i, c, by first | rfl | simp, Nat.le_refl _, by omega, ⟨HC.out, rfl, HQ.out.1⟩⟩
            case round =>
              obtain ⟨k, c', rfl, hk1, hk2, HL⟩ := hrel
              by_cases hkn : k + 1 < N
              · obtain ⟨e', he'⟩ : ∃ e', l[k + 1]? = some e' := ⟨l[k + 1]'(by rw [HN.out]; exact hkn), List.getElem?_eq_getElem _⟩
                have CWe : Hid (∀ W, Calls Tryd.prog 42 #[.string s, .agg #[.int .i64 e'.fr, .int .i64 e'.to, .int .i64 e'.k, .int .i64 e'.n]] W fun e W' => e = .returned (.bool (p e')) ∧ Below W.heap.size W W') := CW.out e' (List.mem_of_getElem? he')
                obtain ⟨q0, q1, q2, q3⟩ := HL.out.2.2.four he'
                have HE : Hid (l[k + 1]? = some e') := he'
                clear he'
                cases hpe : p e' with
                | true =>
                  rw [hpe] at CWe
                  go_wp2_with (go_at_call 42; refine (CWe.out _).mono ?_; rintro e w3 ⟨rfl, hb3⟩; have HB3 : Hid (Below wr.heap.size wr w3) := hb3; clear hb3)
                  exact ⟨⟨k + 1, e', by go_num, by omega, by omega, ⟨HE.out, HL.out.2.1.trans (lastTo_step HE.out hpe), HL.out.2.2.below HB3.out⟩⟩, by simp [intOf]; omega⟩
                | false =>
                  rw [hpe] at CWe
                  go_wp2_with (go_at_call 42; refine (CWe.out _).mono ?_; rintro e w3 ⟨rfl, hb3⟩; have HB3 : Hid (Below wr.heap.size wr w3) := hb3; clear hb3)
                  have HS3 : Hid (SI w (.slice (some ⟨g, 0, none⟩) N cap) u4 l ys w3) := HL.out.2.2.below HB3.out
                  have HE2 : Hid (lastTo p c.to (l.drop (i + 1)) = c'.to) := HL.out.2.1.trans (lastTo_stop fun c2 h2 => by rw [HE.out] at h2; cases h2; exact hpe)
                  have x0 : w3.cell? ⟨g, i * 4, none⟩ = some (.int .i64 c.fr) := (HS3.out.four HC.out).1
                  have x1 : w3.cell? ⟨g, k * 4 + 1, none⟩ = some (.int .i64 c'.to) := (HS3.out.four HL.out.1).2.1
                  have hne : Hid (u4.ownBlock ≠ some g) := by
                    rcases rows_apart HS3.out.cls HS3.out.out with h | h
                    · cases h
                    · exact fun e => h (by rw [e]; rfl)
                  have hgl3 := (HS3.out.cls.lt g rfl).2
                  have hzz := HS3.out.bel.size
                  clear q0 q1 q2 q3 CWe hpe
                  go_region_held3 (fun w' => w'.cell? ⟨g, i * 4, none⟩ = some (.int .i64 c.fr) ∧ w'.cell? ⟨g, k * 4 + 1, none⟩ = some (.int .i64 c'.to)) (go_keep) (first | (refine step_append_own rfl (.tmp 52) (.tmp 64) 28 rfl w.heap.size 32 i0 _ 2 16 Tryd.underlying28 hi hz0 hz1 hz2 rfl (by decide) u4 _ _ rfl (HS3.out.rowa _) ⟨w3.heap.size, 0, none⟩ 1 1 [.int .i64 (c.fr : Int), .int .i64 (c'.to : Int)] rfl rfl (fun j u h => World.news_of_block (World.alloc_heap_new w3 _) j u h) (by simp [Value.oneCell']) (by unfold maxLen; omega) (by omega) (Nat.le_trans hzz (below_ad w3 _).size) ?_; intro v9 w9 hrow9 hg9; have hbA : Hid (Below w3.heap.size w3 (w3.alloc (Obj.cells #[.int .i64 (c.fr : Int), .int .i64 (c'.to : Int)] 32)).drew) := below_ad w3 _; have d0 : w9.cell? ⟨g, i * 4, none⟩ = some (.int .i64 c.fr) := (grown_cell hg9 (Nat.lt_of_lt_of_le hgl3 hbA.out.size) hne.out).trans ((hbA.out.cell (p := ⟨g, i * 4, none⟩) hgl3).trans x0); have d1 : w9.cell? ⟨g, k * 4 + 1, none⟩ = some (.int .i64 c'.to) := (grown_cell hg9 (Nat.lt_of_lt_of_le hgl3 hbA.out.size) hne.out).trans ((hbA.out.cell (p := ⟨g, k * 4 + 1, none⟩) hgl3).trans x1)))
                  go_wp2
                  exact ⟨⟨i + 1, ys ++ [(c.fr, c'.to)], by go_num, by omega, (by rw [List.length_append]; exact Nat.succ_le_succ hys), ⟨HS3.out.push hbA.out hg9 hrow9, by have h := HQ.out.2; rw [HE2.out] at h; rw [List.append_assoc]; exact h⟩⟩, by simp [intOf]; omega⟩
              · have hd2 : decide (((k : Int) + 1) < N) = false := decide_eq_false (by omega)
                go_wp2
                have HS3 : Hid (SI w (.slice (some ⟨g, 0, none⟩) N cap) u4 l ys wr) := HL.out.2.2
                have HE2 : Hid (lastTo p c.to (l.drop (i + 1)) = c'.to) := HL.out.2.1.trans (lastTo_stop fun c2 h2 => by rw [List.getElem?_eq_none_iff.2 (by rw [HN.out]; omega)] at h2; cases h2)
                have x0 : wr.cell? ⟨g, i * 4, none⟩ = some (.int .i64 c.fr) := (HS3.out.four HC.out).1
                have x1 : wr.cell? ⟨g, k * 4 + 1, none⟩ = some (.int .i64 c'.to) := (HS3.out.four HL.out.1).2.1
                have hne : Hid (u4.ownBlock ≠ some g) := by
                  rcases rows_apart HS3.out.cls HS3.out.out with h | h
                  · cases h
                  · exact fun e => h (by rw [e]; rfl)
                have hgl3 := (HS3.out.cls.lt g rfl).2
                have hzz := HS3.out.bel.size
                go_region_held3 (fun w' => w'.cell? ⟨g, i * 4, none⟩ = some (.int .i64 c.fr) ∧ w'.cell? ⟨g, k * 4 + 1, none⟩ = some (.int .i64 c'.to)) (go_keep) (first | (refine step_append_own rfl (.tmp 52) (.tmp 64) 28 rfl w.heap.size 32 i0 _ 2 16 Tryd.underlying28 hi hz0 hz1 hz2 rfl (by decide) u4 _ _ rfl (HS3.out.rowa _) ⟨wr.heap.size, 0, none⟩ 1 1 [.int .i64 (c.fr : Int), .int .i64 (c'.to : Int)] rfl rfl (fun j u h => World.news_of_block (World.alloc_heap_new wr _) j u h) (by simp [Value.oneCell']) (by unfold maxLen; omega) (by omega) (Nat.le_trans hzz (below_ad wr _).size) ?_; intro v9 w9 hrow9 hg9; have hbA : Hid (Below wr.heap.size wr (wr.alloc (Obj.cells #[.int .i64 (c.fr : Int), .int .i64 (c'.to : Int)] 32)).drew) := below_ad wr _; have d0 : w9.cell? ⟨g, i * 4, none⟩ = some (.int .i64 c.fr) := (grown_cell hg9 (Nat.lt_of_lt_of_le hgl3 hbA.out.size) hne.out).trans ((hbA.out.cell (p := ⟨g, i * 4, none⟩) hgl3).trans x0); have d1 : w9.cell? ⟨g, k * 4 + 1, none⟩ = some (.int .i64 c'.to) := (grown_cell hg9 (Nat.lt_of_lt_of_le hgl3 hbA.out.size) hne.out).trans ((hbA.out.cell (p := ⟨g, k * 4 + 1, none⟩) hgl3).trans x1)))
                go_wp2
                exact ⟨⟨i + 1, ys ++ [(c.fr, c'.to)], by go_num, by omega, (by rw [List.length_append]; exact Nat.succ_le_succ hys), ⟨HS3.out.push hbA.out hg9 hrow9, by have h := HQ.out.2; rw [HE2.out] at h; rw [List.append_assoc]; exact h⟩⟩, by simp [intOf]; omega⟩
    · have HF : Hid (SI w (.slice a N cap) u4 l (wsp p l) wr) := by
        obtain ⟨h1, h2⟩ := HK.out
        rw [wfrom_end p l (by rw [HN.out]; omega), List.append_nil] at h2
        rw [← h2]; exact h1
      have hd' : decide (i < N) = false := decide_eq_false hlt
      clear HK
      go_wp2
      go_ret
      exact ⟨_, rfl, HF.out.out, HF.out.bel⟩
end Go.Proofs.YtoijjkbnmicadaaDoor
