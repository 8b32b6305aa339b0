/-
  The walk of the document's own IsWord of package word: what WMath tells. No conditions.
-/
import Derived.Test.YtoijjkbnmicadaaDoorVRef
import Derived.Test.YtoijjkbnmicadaaDoorPkC
namespace Go.Proofs.YtoijjkbnmicadaaDoor
open Go.RowKit Bod Wid

theorem but_ne : butR ≠ [] := by decide
theorem wch_word {c : Int} (h : (48 ≤ c ∧ c ≤ 57) ∨ (65 ≤ c ∧ c ≤ 90) ∨ (97 ≤ c ∧ c ≤ 122) ∨ c = 95) : wch c = true := by
  unfold wch
  rw [decide_eq_true h, Bool.true_or]
theorem wch_low {c : Int} (h : ¬ ((48 ≤ c ∧ c ≤ 57) ∨ (65 ≤ c ∧ c ≤ 90) ∨ (97 ≤ c ∧ c ≤ 122) ∨ c = 95)) (h1 : c < 170) : wch c = false := by
  unfold wch
  rw [decide_eq_false h, decide_eq_false (show ¬ 170 ≤ c by omega)]
  rfl
theorem wch_high {c : Int} (h : 170 ≤ c) : wch c = (!inR butR c && decide (cls c = 3 ∨ cls c = 4 ∨ cls c = 0)) := by
  unfold wch
  rw [decide_eq_false (show ¬ ((48 ≤ c ∧ c ≤ 57) ∨ (65 ≤ c ∧ c ≤ 90) ∨ (97 ≤ c ∧ c ≤ 122) ∨ c = 95) by omega), decide_eq_true h]
  simp
set_option maxHeartbeats 4000000 in
set_option maxRecDepth 100000 in
theorem risword_any (c : Int) (w : World) : Calls Tryd.prog 11 #[.int .i32 c] w fun e w' => e = .returned (.bool (wch c)) ∧ Below w.heap.size w w' := by
  by_cases hh : 170 ≤ c
  · rw [wch_high hh]
    have AM : Hid (∀ (W : World) (v : Value), Rg W v butR → Calls Tryd.prog 34 #[v, .int .i32 c] W fun e w' => e = .returned (.bool (inR butR c)) ∧ W = w') := fun W v h => within_list butR c v W (by decide) h
    have AC : Hid (∀ (W : World), Calls Tryd.prog 36 #[.int .i32 c] W fun e w' => e = .returned (.int .i64 (cls c)) ∧ Below W.heap.size W w') := fun W => rclass_any c W
    generalize inR butR c = b at AM
    generalize cls c = k at AC
    have n1 : ¬ c ≤ 57 := by omega
    have n2 : ¬ c ≤ 90 := by omega
    have n3 : ¬ c ≤ 122 := by omega
    have n4 : ¬ c = 95 := by omega
    have n5 : 48 ≤ c := by omega
    have n6 : 65 ≤ c := by omega
    have n7 : 97 ≤ c := by omega
    have n8 : ¬ c < 170 := by omega
    cases b with
    | true =>
      go_enter Tryd.func11, Tryd.ntmps11
      go_wp2_with (first | (go_at_call 35; refine (table_any _ butR (by decide +kernel) but_ne (by decide) (by kernel_rfl) (by kernel_rfl) _).mono ?_; rintro e w1 ⟨v1, rfl, hrow1, hb1⟩) | (go_at_call 34; refine (AM.out _ _ (Rg.of_own hrow1)).mono ?_; rintro e w2 ⟨rfl, rfl⟩))
      all_goals go_ret
      all_goals exact ⟨rfl, hb1⟩
    | false =>
      have key : ∀ B : Bool, (decide (k = 3 ∨ k = 4 ∨ k = 0) = B) → Calls Tryd.prog 11 #[.int .i32 c] w fun e w' => e = .returned (.bool B) ∧ Below w.heap.size w w' := by
        intro B hB
        by_cases k3 : k = 3
        · subst k3
          have hB : true = B := by rw [← hB]; rfl
          subst hB
          go_enter Tryd.func11, Tryd.ntmps11
          go_wp2_with (first | (go_at_call 35; refine (table_any _ butR (by decide +kernel) but_ne (by decide) (by kernel_rfl) (by kernel_rfl) _).mono ?_; rintro e w1 ⟨v1, rfl, hrow1, hb1⟩) | (go_at_call 34; refine (AM.out _ _ (Rg.of_own hrow1)).mono ?_; rintro e w2 ⟨rfl, rfl⟩) | (go_at_call 36; refine (AC.out _).mono ?_; rintro e w3 ⟨rfl, hb3⟩))
          all_goals go_ret
          all_goals exact ⟨rfl, hb1.trans (hb3.mono hb1.size)⟩
        · by_cases k4 : k = 4
          · subst k4
            have hB : true = B := by rw [← hB]; rfl
            subst hB
            go_enter Tryd.func11, Tryd.ntmps11
            go_wp2_with (first | (go_at_call 35; refine (table_any _ butR (by decide +kernel) but_ne (by decide) (by kernel_rfl) (by kernel_rfl) _).mono ?_; rintro e w1 ⟨v1, rfl, hrow1, hb1⟩) | (go_at_call 34; refine (AM.out _ _ (Rg.of_own hrow1)).mono ?_; rintro e w2 ⟨rfl, rfl⟩) | (go_at_call 36; refine (AC.out _).mono ?_; rintro e w3 ⟨rfl, hb3⟩))
            all_goals go_ret
            all_goals exact ⟨rfl, hb1.trans (hb3.mono hb1.size)⟩
          · have e3 : (k == 3) = false := by simpa using k3
            have e4 : (k == 4) = false := by simpa using k4
            have hB2 : (k == 0) = B := by
              rw [← hB]
              by_cases k0 : k = 0
              · rw [decide_eq_true (.inr (.inr k0)), k0]; rfl
              · rw [decide_eq_false (by omega)]; simpa using k0
            go_enter Tryd.func11, Tryd.ntmps11
            go_wp2_with (first | (go_at_call 35; refine (table_any _ butR (by decide +kernel) but_ne (by decide) (by kernel_rfl) (by kernel_rfl) _).mono ?_; rintro e w1 ⟨v1, rfl, hrow1, hb1⟩) | (go_at_call 34; refine (AM.out _ _ (Rg.of_own hrow1)).mono ?_; rintro e w2 ⟨rfl, rfl⟩) | (go_at_call 36; refine (AC.out _).mono ?_; rintro e w3 ⟨rfl, hb3⟩))
            all_goals go_ret
            all_goals exact ⟨by first | rfl | (rw [← hB2]; rfl), hb1.trans (hb3.mono hb1.size)⟩
      have := key _ rfl
      simpa using this
  · have n8 : c < 170 := by omega
    by_cases hw : (48 ≤ c ∧ c ≤ 57) ∨ (65 ≤ c ∧ c ≤ 90) ∨ (97 ≤ c ∧ c ≤ 122) ∨ c = 95
    · rw [wch_word hw]
      rcases hw with ⟨h1, h2⟩ | ⟨h1, h2⟩ | ⟨h1, h2⟩ | h1
      · go_enter Tryd.func11, Tryd.ntmps11
        go_wp2
        go_ret
        exact ⟨rfl, Below.refl _ _⟩
      · have m1 : ¬ c ≤ 57 := by omega
        have m0 : 48 ≤ c := by omega
        go_enter Tryd.func11, Tryd.ntmps11
        go_wp2
        go_ret
        exact ⟨rfl, Below.refl _ _⟩
      · have m1 : ¬ c ≤ 57 := by omega
        have m0 : 48 ≤ c := by omega
        have m2 : ¬ c ≤ 90 := by omega
        have m3 : 65 ≤ c := by omega
        go_enter Tryd.func11, Tryd.ntmps11
        go_wp2
        go_ret
        exact ⟨rfl, Below.refl _ _⟩
      · subst h1
        go_enter Tryd.func11, Tryd.ntmps11
        go_wp2
        go_ret
        exact ⟨rfl, Below.refl _ _⟩
    · rw [wch_low hw n8]
      rcases (show c < 48 ∨ (58 ≤ c ∧ c < 65) ∨ (91 ≤ c ∧ c < 97 ∧ c ≠ 95) ∨ 123 ≤ c by omega) with h | ⟨h, h'⟩ | ⟨h, h', h''⟩ | h
      · have m0 : ¬ 48 ≤ c := by omega
        have m3 : ¬ 65 ≤ c := by omega
        have m5 : ¬ 97 ≤ c := by omega
        have m6 : ¬ c = 95 := by omega
        go_enter Tryd.func11, Tryd.ntmps11
        go_wp2
        go_ret
        exact ⟨rfl, Below.refl _ _⟩
      · have m0 : 48 ≤ c := by omega
        have m1 : ¬ c ≤ 57 := by omega
        have m3 : ¬ 65 ≤ c := by omega
        have m5 : ¬ 97 ≤ c := by omega
        have m6 : ¬ c = 95 := by omega
        go_enter Tryd.func11, Tryd.ntmps11
        go_wp2
        go_ret
        exact ⟨rfl, Below.refl _ _⟩
      · have m0 : 48 ≤ c := by omega
        have m1 : ¬ c ≤ 57 := by omega
        have m3 : 65 ≤ c := by omega
        have m4 : ¬ c ≤ 90 := by omega
        have m5 : ¬ 97 ≤ c := by omega
        have m6 : ¬ c = 95 := by omega
        go_enter Tryd.func11, Tryd.ntmps11
        go_wp2
        go_ret
        exact ⟨rfl, Below.refl _ _⟩
      · have m0 : 48 ≤ c := by omega
        have m1 : ¬ c ≤ 57 := by omega
        have m3 : 65 ≤ c := by omega
        have m4 : ¬ c ≤ 90 := by omega
        have m5 : 97 ≤ c := by omega
        have m7 : ¬ c ≤ 122 := by omega
        have m6 : ¬ c = 95 := by omega
        go_enter Tryd.func11, Tryd.ntmps11
        go_wp2
        go_ret
        exact ⟨rfl, Below.refl _ _⟩
end Go.Proofs.YtoijjkbnmicadaaDoor
