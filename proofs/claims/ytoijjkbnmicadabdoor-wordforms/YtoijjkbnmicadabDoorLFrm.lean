/-
  The walk of the law WordForms: for every list of numbers it returns true: a letter's forms have its length in bytes and lead back to one another. Conditions: the list can be read; the two tables of unicode/utf8 lie as their text lays them.
-/
import Derived.Test.YtoijjkbnmicadabDoorWLaw
import Derived.Test.YtoijjkbnmicadabDoorUEnc
import Derived.Test.YtoijjkbnmicadabDoorURunes
namespace Go.Proofs.YtoijjkbnmicadabDoor.wordForms
open Go.RowKit Go.Sort Bod Wid

/-- how long what is written for a number is -/
def el (c : Int) : Nat := (encs [c]).length
theorem el_gd {g : Nat → Int → Int} (hg : Gd g) (c : Int) : el (g 0 c) = el c := by
  unfold el encs
  simp only [List.flatMap_cons, List.flatMap_nil, List.append_nil]
  cases hv : Lib.validRune c with
  | true => rw [gd_valid hg 0 hv, if_pos rfl, if_pos rfl, encR_len, encR_len, gd_len hg 0 hv]
  | false =>
    have hb : bad c := by
      have : ¬ Lib.validRune c = true := by rw [hv]; decide
      rw [valid_iff] at this
      unfold bad; omega
    have e : g 0 c = c := by
      rcases hg 0 c with e | e <;> rw [e]
      · rcases up_cases c with h | h
        · exact h.1
        · have := (pair h).2.2.2.1; unfold bad at hb; omega
      · rcases low_cases c with h | h
        · exact h.1
        · have := (pair h).2.2.2.2.1; unfold bad at hb; omega
    rw [e, hv]
theorem el_up (c : Int) : el (upc c) = el c := el_gd (g := fun _ => upc) gd_up c
theorem el_low (c : Int) : el (lowc c) = el c := el_gd (g := fun _ => lowc) gd_low c
theorem rng {f : Int → Int} {c : Int} (hf : f = upc ∨ f = lowc) (hc : -2147483648 ≤ c ∧ c ≤ 2147483647) : -2147483648 ≤ f c ∧ f c ≤ 2147483647 := by
  rcases hf with e | e <;> rw [e]
  · rcases up_cases c with h1 | h1
    · rw [h1.1]; exact hc
    · have := (pair h1).2.2.2.2.1; omega
  · rcases low_cases c with h1 | h1
    · rw [h1.1]; exact hc
    · have := (pair h1).2.2.2.1; omega
theorem enc_any (c : Int) (hc : -2147483648 ≤ c ∧ c ≤ 2147483647) (W : World) :
    Calls Tryd.prog 9 #[.slice (some ⟨W.heap.size, 0, none⟩) 1 1] (W.alloc (.cells #[.int .i32 c] 21)) fun e w' => (∃ t : ByteArray, e = .returned (.string t) ∧ t.size = el c) ∧ Below W.heap.size W w' := by
  refine (encode_one c W.heap.size _ hc (by simp) (by simp)).mono ?_
  rintro e w' ⟨rfl, hb⟩
  exact ⟨⟨_, rfl, by rw [Lib.size_eq]; rfl⟩, ((Below.refl _ W).alloc (Nat.le_refl _) _).trans (hb.mono (by simp))⟩

set_option maxRecDepth 100000 in
set_option maxHeartbeats 4000000 in
theorem walk (rs : List Int) (b o n cap : Nat) (hn : n = rs.length) (hm : n ≤ maxLen) (w : World) (h : ∀ j, j < rs.length → w.cell? ⟨b, o + j, none⟩ = some (.int .i32 (rs[j]?.getD 0))) (hrg : ∀ r ∈ rs, -2147483648 ≤ r ∧ r ≤ 2147483647) (hb : b < w.heap.size) (hT : Lib.Utf8Tabs 0 1 w) (hlo0 : 0 < w.heap.size) (hlo1 : 1 < w.heap.size) :
    Calls Tryd.prog 3 #[.slice (some ⟨b, o, none⟩) n cap] w fun e w' => e = .returned (.bool true) ∧ Below w.heap.size w w' := by
  have cA := awake_any w hT hlo0 hlo1
  have HC : Hid _ := h
  have HN : Hid (n = rs.length) := hn
  have HRG : Hid (∀ r ∈ rs, -2147483648 ≤ r ∧ r ≤ 2147483647) := hrg
  unfold maxLen at hm
  clear h hn hT hlo0 hlo1 hrg
  go_enter Tryd.func3, Tryd.ntmps3
  go_wp2_with (go_at_call 6; refine cA.mono ?_; clear cA; rintro e w0 ⟨rfl, hb0⟩)
  go_loopw [3] (fun t wr => ∃ k : Nat, k ≤ n ∧ t = .int .i64 k ∧ Below w.heap.size w wr) (fun t _ => n - (intOf t).toNat)
  case atStart => exact ⟨0, Nat.zero_le _, rfl, hb0⟩
  case round =>
    obtain ⟨k, hk, rfl, hB⟩ := hrel
    clear hb0
    by_cases hlt : k < n
    · have hkl : k < rs.length := by rw [← HN.out]; exact hlt
      have hc : wr.cell? ⟨b, o + k, none⟩ = some (.int .i32 (rs[k]?.getD 0)) := (hB.cell (p := ⟨b, o + k, none⟩) hb).trans (HC.out k hkl)
      have hcr : -2147483648 ≤ rs[k]?.getD 0 ∧ rs[k]?.getD 0 ≤ 2147483647 := by rw [List.getElem?_eq_getElem hkl]; exact HRG.out _ (List.getElem_mem hkl)
      generalize rs[k]?.getD 0 = c at hc hcr
      clear hkl
      have CW : Hid (∀ (d : Int) W, wch d = wch c → Below w.heap.size w W → Calls Tryd.prog 10 #[.int .i32 d] W fun e w' => e = .returned (.bool (wch c)) ∧ Below w.heap.size w w') := fun d W he hW => by
        have := isword_any d W
        rw [he] at this
        exact this.mono fun e w' ⟨h1, h2⟩ => ⟨h1, hW.trans (h2.mono hW.size)⟩
      have CE : Hid (∀ (d : Int) W, el d = el c → (-2147483648 ≤ d ∧ d ≤ 2147483647) → Below w.heap.size w W → Calls Tryd.prog 9 #[.slice (some ⟨W.heap.size, 0, none⟩) 1 1] (W.alloc (.cells #[.int .i32 d] 21)) fun e w' => ∃ t : ByteArray, e = .returned (.string t) ∧ t.size = el c ∧ Below w.heap.size w w') := fun d W he hd hW => (enc_any d hd W).mono fun e w' ⟨⟨t, h1, h2⟩, h3⟩ => ⟨t, h1, h2.trans he, hW.trans (h3.mono hW.size)⟩
      have CU : Hid (∀ (d : Int) W, Below w.heap.size w W → Calls Tryd.prog 7 #[.int .i32 d] W fun e w' => e = .returned (.int .i32 (upc d)) ∧ Below w.heap.size w w') := fun d W hW => (upof_any d W).mono fun e w' ⟨h1, h2⟩ => ⟨h1, hW.trans (h2.mono hW.size)⟩
      have CL : Hid (∀ (d : Int) W, Below w.heap.size w W → Calls Tryd.prog 8 #[.int .i32 d] W fun e w' => e = .returned (.int .i32 (lowc d)) ∧ Below w.heap.size w w') := fun d W hW => (lowof_any d W).mono fun e w' ⟨h1, h2⟩ => ⟨h1, hW.trans (h2.mono hW.size)⟩
      have CWu : Hid (∀ W, Below w.heap.size w W → Calls Tryd.prog 10 #[.int .i32 (upc c)] W fun e w' => e = .returned (.bool (wch c)) ∧ Below w.heap.size w w') := fun W hW => CW.out _ W (up_wch c) hW
      have CWl : Hid (∀ W, Below w.heap.size w W → Calls Tryd.prog 10 #[.int .i32 (lowc c)] W fun e w' => e = .returned (.bool (wch c)) ∧ Below w.heap.size w w') := fun W hW => CW.out _ W (low_wch c) hW
      have CWc : Hid (∀ W, Below w.heap.size w W → Calls Tryd.prog 10 #[.int .i32 c] W fun e w' => e = .returned (.bool (wch c)) ∧ Below w.heap.size w w') := fun W hW => CW.out _ W rfl hW
      have CEu : Hid (∀ W, Below w.heap.size w W → Calls Tryd.prog 9 #[.slice (some ⟨W.heap.size, 0, none⟩) 1 1] (W.alloc (.cells #[.int .i32 (upc c)] 21)) fun e w' => ∃ t : ByteArray, e = .returned (.string t) ∧ t.size = el c ∧ Below w.heap.size w w') := fun W hW => CE.out _ W (el_up c) (rng (.inl rfl) hcr) hW
      have CEl : Hid (∀ W, Below w.heap.size w W → Calls Tryd.prog 9 #[.slice (some ⟨W.heap.size, 0, none⟩) 1 1] (W.alloc (.cells #[.int .i32 (lowc c)] 21)) fun e w' => ∃ t : ByteArray, e = .returned (.string t) ∧ t.size = el c ∧ Below w.heap.size w w') := fun W hW => CE.out _ W (el_low c) (rng (.inr rfl) hcr) hW
      have CEc : Hid (∀ W, Below w.heap.size w W → Calls Tryd.prog 9 #[.slice (some ⟨W.heap.size, 0, none⟩) 1 1] (W.alloc (.cells #[.int .i32 c] 21)) fun e w' => ∃ t : ByteArray, e = .returned (.string t) ∧ t.size = el c ∧ Below w.heap.size w w') := fun W hW => CE.out _ W rfl hcr hW
      have CUc := CU.out c
      have CLc := CL.out c
      have HUc : Hid (∀ W, Below w.heap.size w W → Calls Tryd.prog 7 #[.int .i32 c] W fun e w' => e = .returned (.int .i32 (upc c)) ∧ Below w.heap.size w w') := CUc
      have HLc : Hid (∀ W, Below w.heap.size w W → Calls Tryd.prog 8 #[.int .i32 c] W fun e w' => e = .returned (.int .i32 (lowc c)) ∧ Below w.heap.size w w') := CLc
      clear CUc CLc CW CE hcr
      generalize wch c = z at CWu CWl CWc
      generalize el c = L at CEu CEl CEc
      by_cases hu : upc c = c
      · by_cases hl : lowc c = c
        · -- no letter of a pair
          clear CU CL
          rw [hu] at HUc CEu CWu
          rw [hl] at HLc CEl CWl
          clear hu hl
          have CE1 := CEu; have CE2 := CEc; have CE3 := CEl; have CE4 := CEc
          have CW1 := CWu; have CW2 := CWc; have CW3 := CWl; have CW4 := CWc
          clear CEu CEc CEl CWu CWc CWl
          go_wp2_with (first | (go_at_call 7; refine (HUc.out _ hB).mono ?_; clear HUc; rintro e w1 ⟨rfl, hb1⟩) | (go_at_call 8; refine (HLc.out _ hb1).mono ?_; clear HLc; rintro e w2 ⟨rfl, hb2⟩) | (go_at_call 9; refine (CE1.out _ hb2).mono ?_; clear CE1; rintro e w11 ⟨t1, rfl, h11, hb11⟩) | (go_at_call 9; refine (CE2.out _ hb11).mono ?_; clear CE2; rintro e w12 ⟨t2, rfl, h12, hb12⟩; have hq1 : ((t1.size : Int) == (t2.size : Int)) = true := (by rw [h11, h12]; simp)) | (go_at_call 9; refine (CE3.out _ hb12).mono ?_; clear CE3; rintro e w13 ⟨t3, rfl, h13, hb13⟩) | (go_at_call 9; refine (CE4.out _ hb13).mono ?_; clear CE4; rintro e w14 ⟨t4, rfl, h14, hb14⟩; have hq2 : ((t3.size : Int) == (t4.size : Int)) = true := (by rw [h13, h14]; simp)) | (go_at_call 10; refine (CW1.out _ hb14).mono ?_; clear CW1; rintro e w15 ⟨rfl, hb15⟩) | (go_at_call 10; refine (CW2.out _ hb15).mono ?_; clear CW2; rintro e w16 ⟨rfl, hb16⟩) | (go_at_call 10; refine (CW3.out _ hb16).mono ?_; clear CW3; rintro e w17 ⟨rfl, hb17⟩) | (go_at_call 10; refine (CW4.out _ hb17).mono ?_; clear CW4; rintro e w18 ⟨rfl, hb18⟩))
          exact ⟨⟨k + 1, by omega, by go_num, hb18⟩, by simp [intOf]; omega⟩
        · -- a large letter
          obtain ⟨_, b2, b3⟩ := low_back hl
          have CU2 : Hid (∀ W, Below w.heap.size w W → Calls Tryd.prog 7 #[.int .i32 (lowc c)] W fun e w' => e = .returned (.int .i32 c) ∧ Below w.heap.size w w') := fun W hW => by have := CU.out (lowc c) W hW; rwa [b2] at this
          have CL2 : Hid (∀ W, Below w.heap.size w W → Calls Tryd.prog 8 #[.int .i32 (lowc c)] W fun e w' => e = .returned (.int .i32 (lowc c)) ∧ Below w.heap.size w w') := fun W hW => by have := CL.out (lowc c) W hW; rwa [b3] at this
          have hne : (lowc c == c) = false := beq_eq_false_iff_ne.2 hl
          clear CU CL b2 b3
          rw [hu] at HUc CEu CWu
          generalize lowc c = d at HLc CEl CWl CU2 CL2 hne hl
          clear hu
          have CE1 := CEu; have CE2 := CEc; have CE3 := CEl; have CE4 := CEc
          have CW1 := CWu; have CW2 := CWc; have CW3 := CWl; have CW4 := CWc
          clear CEu CEc CEl CWu CWc CWl
          go_wp2_with (first | (go_at_call 7; refine (HUc.out _ hB).mono ?_; clear HUc; rintro e w1 ⟨rfl, hb1⟩) | (go_at_call 8; refine (HLc.out _ hb1).mono ?_; clear HLc; rintro e w2 ⟨rfl, hb2⟩) | (go_at_call 7; refine (CU2.out _ hb2).mono ?_; clear CU2; rintro e w3 ⟨rfl, hb3⟩) | (go_at_call 8; refine (CL2.out _ hb3).mono ?_; clear CL2; rintro e w4 ⟨rfl, hb4⟩) | (go_at_call 9; refine (CE1.out _ hb4).mono ?_; clear CE1; rintro e w11 ⟨t1, rfl, h11, hb11⟩) | (go_at_call 9; refine (CE2.out _ hb11).mono ?_; clear CE2; rintro e w12 ⟨t2, rfl, h12, hb12⟩; have hq1 : ((t1.size : Int) == (t2.size : Int)) = true := (by rw [h11, h12]; simp)) | (go_at_call 9; refine (CE3.out _ hb12).mono ?_; clear CE3; rintro e w13 ⟨t3, rfl, h13, hb13⟩) | (go_at_call 9; refine (CE4.out _ hb13).mono ?_; clear CE4; rintro e w14 ⟨t4, rfl, h14, hb14⟩; have hq2 : ((t3.size : Int) == (t4.size : Int)) = true := (by rw [h13, h14]; simp)) | (go_at_call 10; refine (CW1.out _ hb14).mono ?_; clear CW1; rintro e w15 ⟨rfl, hb15⟩) | (go_at_call 10; refine (CW2.out _ hb15).mono ?_; clear CW2; rintro e w16 ⟨rfl, hb16⟩) | (go_at_call 10; refine (CW3.out _ hb16).mono ?_; clear CW3; rintro e w17 ⟨rfl, hb17⟩) | (go_at_call 10; refine (CW4.out _ hb17).mono ?_; clear CW4; rintro e w18 ⟨rfl, hb18⟩))
          exact ⟨⟨k + 1, by omega, by go_num, hb18⟩, by simp [intOf]; omega⟩
      · -- a small letter
        obtain ⟨b1, b2, b3⟩ := up_back hu
        have CL2 : Hid (∀ W, Below w.heap.size w W → Calls Tryd.prog 8 #[.int .i32 (upc c)] W fun e w' => e = .returned (.int .i32 c) ∧ Below w.heap.size w w') := fun W hW => by have := CL.out (upc c) W hW; rwa [b2] at this
        have CU2 : Hid (∀ W, Below w.heap.size w W → Calls Tryd.prog 7 #[.int .i32 (upc c)] W fun e w' => e = .returned (.int .i32 (upc c)) ∧ Below w.heap.size w w') := fun W hW => by have := CU.out (upc c) W hW; rwa [b3] at this
        have hne : (upc c == c) = false := beq_eq_false_iff_ne.2 hu
        clear CU CL b2 b3
        rw [b1] at HLc CEl CWl
        generalize upc c = d at HUc CEu CWu CU2 CL2 hne hu
        clear b1
        have CE1 := CEu; have CE2 := CEc; have CE3 := CEl; have CE4 := CEc
        have CW1 := CWu; have CW2 := CWc; have CW3 := CWl; have CW4 := CWc
        clear CEu CEc CEl CWu CWc CWl
        go_wp2_with (first | (go_at_call 7; refine (HUc.out _ hB).mono ?_; clear HUc; rintro e w1 ⟨rfl, hb1⟩) | (go_at_call 8; refine (HLc.out _ hb1).mono ?_; clear HLc; rintro e w2 ⟨rfl, hb2⟩) | (go_at_call 8; refine (CL2.out _ hb2).mono ?_; clear CL2; rintro e w3 ⟨rfl, hb3⟩) | (go_at_call 7; refine (CU2.out _ hb3).mono ?_; clear CU2; rintro e w4 ⟨rfl, hb4⟩) | (go_at_call 9; refine (CE1.out _ hb4).mono ?_; clear CE1; rintro e w11 ⟨t1, rfl, h11, hb11⟩) | (go_at_call 9; refine (CE2.out _ hb11).mono ?_; clear CE2; rintro e w12 ⟨t2, rfl, h12, hb12⟩; have hq1 : ((t1.size : Int) == (t2.size : Int)) = true := (by rw [h11, h12]; simp)) | (go_at_call 9; refine (CE3.out _ hb12).mono ?_; clear CE3; rintro e w13 ⟨t3, rfl, h13, hb13⟩) | (go_at_call 9; refine (CE4.out _ hb13).mono ?_; clear CE4; rintro e w14 ⟨t4, rfl, h14, hb14⟩; have hq2 : ((t3.size : Int) == (t4.size : Int)) = true := (by rw [h13, h14]; simp)) | (go_at_call 10; refine (CW1.out _ hb14).mono ?_; clear CW1; rintro e w15 ⟨rfl, hb15⟩) | (go_at_call 10; refine (CW2.out _ hb15).mono ?_; clear CW2; rintro e w16 ⟨rfl, hb16⟩) | (go_at_call 10; refine (CW3.out _ hb16).mono ?_; clear CW3; rintro e w17 ⟨rfl, hb17⟩) | (go_at_call 10; refine (CW4.out _ hb17).mono ?_; clear CW4; rintro e w18 ⟨rfl, hb18⟩))
        exact ⟨⟨k + 1, by omega, by go_num, hb18⟩, by simp [intOf]; omega⟩
    · go_wp2
      go_ret
      exact ⟨rfl, hB⟩
set_option maxRecDepth 100000 in
set_option maxHeartbeats 1000000 in
theorem walk_none (a : Option Addr) (cap : Nat) (w : World) (hT : Lib.Utf8Tabs 0 1 w) (hlo0 : 0 < w.heap.size) (hlo1 : 1 < w.heap.size) : Calls Tryd.prog 3 #[.slice a 0 cap] w fun e w' => e = .returned (.bool true) ∧ Below w.heap.size w w' := by
  have cA := awake_any w hT hlo0 hlo1
  go_enter Tryd.func3, Tryd.ntmps3
  go_wp2_with (go_at_call 6; refine cA.mono ?_; clear cA; rintro e w0 ⟨rfl, hb0⟩)
  go_loopw [3] (fun t wr => t = .int .i64 0 ∧ w0 = wr) (fun _ _ => 0)
  case atStart => exact ⟨rfl, rfl⟩
  case round =>
    obtain ⟨rfl, rfl⟩ := hrel
    go_wp2
    go_ret
    exact ⟨rfl, hb0⟩
theorem walk_of (a : Option Addr) (len cap : Nat) (w : World) (hT : Lib.Utf8Tabs 0 1 w) (hlo0 : 0 < w.heap.size) (hlo1 : 1 < w.heap.size) (rs : List Int) (y : Runes w a len rs) (u : len ≤ maxLen) :
    Calls Tryd.prog 3 #[.slice a len cap] w fun e w' => e = .returned (.bool true) ∧ Below w.heap.size w w' := by
  obtain ⟨h1, h3, h2⟩ := y
  by_cases h0 : len = 0
  · subst h0; exact walk_none a cap w hT hlo0 hlo1
  · obtain ⟨b, o, rfl, hb, hc⟩ := h2 h0
    exact walk rs b o len cap h1.symm u w hc h3 hb hT hlo0 hlo1
end Go.Proofs.YtoijjkbnmicadabDoor.wordForms
