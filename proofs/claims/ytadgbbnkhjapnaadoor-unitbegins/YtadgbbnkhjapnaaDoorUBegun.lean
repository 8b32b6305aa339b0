/-
  The walk of package unit's Begun (over unicode/utf8.FullRuneInString): what it answers is told by the plain function begB. Conditions: the two tables of unicode/utf8 lie as their text lays them; the text can be read.
-/
import Derived.Test.YtadgbbnkhjapnaaDoorUWalk
import Derived.Test.YtadgbbnkhjapnaaDoorUMathE
import Derived.Deep.QuietTactic
import Derived.BigQuiet
namespace Go.Proofs.YtadgbbnkhjapnaaDoor
open Go.RowKit Bod

set_option maxRecDepth 100000 in
set_option maxHeartbeats 1000000 in
/-- long enough: true -/
theorem full_long (s : ByteArray) (x : Nat) (hs : s.size ≤ maxLen) (h1 : 1 ≤ s.size) (w : World) (hx : x = 240 ∨ x = 241 ∨ x = 2 ∨ x = 19 ∨ x = 3 ∨ x = 35 ∨ x = 52 ∨ x = 4 ∨ x = 68) (hk : x % 8 ≤ s.size) (hc : w.cell? ⟨0, bt s 0, none⟩ = some (.int .u8 x)) :
    Calls Tryd.prog 40 #[.string s] w fun e w' => e = .returned (.bool true) ∧ Below w.heap.size w w' := by
  unfold maxLen at hs
  obtain ⟨x0, hx0⟩ : ∃ x0, s.get! 0 = x0 := ⟨_, rfl⟩
  have hs0 : s[0]'(by omega) = x0 := by rw [← hx0]; exact (Utf8W.get!_of_lt s 0 (by omega)).symm
  unfold bt at hc
  rw [hx0] at hc
  have g0 : (0 : Int) < (s.size : Int) := by omega
  have gx := x0.toNat_lt
  rcases hx with rfl | rfl | rfl | rfl | rfl | rfl | rfl | rfl | rfl
  all_goals
    simp at hk
    go_enter Tryd.func40, Tryd.ntmps40
    go_wp2
    go_ret
    exact ⟨rfl, Below.refl _ _⟩

set_option maxRecDepth 100000 in
set_option maxHeartbeats 4000000 in
theorem full_one (s : ByteArray) (x lo hi : Nat) (hs : s.size = 1) (w : World) (hx : x = 2 ∨ x = 19 ∨ x = 3 ∨ x = 35 ∨ x = 52 ∨ x = 4 ∨ x = 68) (hc : w.cell? ⟨0, bt s 0, none⟩ = some (.int .u8 x))
    (hl : w.cell? ⟨1, 2 * (x / 16), none⟩ = some (.int .u8 lo)) (hh : w.cell? ⟨1, 2 * (x / 16) + 1, none⟩ = some (.int .u8 hi)) :
    Calls Tryd.prog 40 #[.string s] w fun e w' => e = .returned (.bool false) ∧ Below w.heap.size w w' := by
  obtain ⟨x0, hx0⟩ : ∃ x0, s.get! 0 = x0 := ⟨_, rfl⟩
  have hs0 : s[0]'(by omega) = x0 := by rw [← hx0]; exact (Utf8W.get!_of_lt s 0 (by omega)).symm
  unfold bt at hc
  rw [hx0] at hc
  have gx := x0.toNat_lt
  rcases hx with rfl | rfl | rfl | rfl | rfl | rfl | rfl
  all_goals
    simp at hl hh
    go_enter Tryd.func40, Tryd.ntmps40
    go_wp2
    go_quiet (fail)
    go_wp2
    go_ret
    exact ⟨rfl, ((Below.refl _ w).alloc (Nat.le_refl _) _).trans ⟨rfl, rfl, rfl, Nat.le_refl _, fun _ _ => rfl⟩⟩

set_option maxRecDepth 100000 in
set_option maxHeartbeats 8000000 in
theorem full_two (s : ByteArray) (x lo hi : Nat) (hs : s.size = 2) (w : World) (hx : x = 19 ∨ x = 3 ∨ x = 35 ∨ x = 52 ∨ x = 4 ∨ x = 68) (hc : w.cell? ⟨0, bt s 0, none⟩ = some (.int .u8 x))
    (hl : w.cell? ⟨1, 2 * (x / 16), none⟩ = some (.int .u8 lo)) (hh : w.cell? ⟨1, 2 * (x / 16) + 1, none⟩ = some (.int .u8 hi)) :
    Calls Tryd.prog 40 #[.string s] w fun e w' => e = .returned (.bool (decide (bt s 1 < lo ∨ hi < bt s 1))) ∧ Below w.heap.size w w' := by
  obtain ⟨x0, hx0⟩ : ∃ x0, s.get! 0 = x0 := ⟨_, rfl⟩
  have hs0 : s[0]'(by omega) = x0 := by rw [← hx0]; exact (Utf8W.get!_of_lt s 0 (by omega)).symm
  obtain ⟨x1, hx1⟩ : ∃ x1, s.get! 1 = x1 := ⟨_, rfl⟩
  have hs1 : s[1]'(by omega) = x1 := by rw [← hx1]; exact (Utf8W.get!_of_lt s 1 (by omega)).symm
  unfold bt at hc ⊢
  rw [hx0] at hc
  rw [hx1]
  have gx := x0.toNat_lt
  clear hx0 hx1
  by_cases c1 : (x1.toNat : Int) < (lo : Int)
  · rw [decide_eq_true (show x1.toNat < lo ∨ hi < x1.toNat by omega)]
    rcases hx with rfl | rfl | rfl | rfl | rfl | rfl
    all_goals
      simp at hl hh
      go_enter Tryd.func40, Tryd.ntmps40
      go_wp2
      go_quiet (fail)
      go_wp2
      go_ret
      exact ⟨rfl, ((Below.refl _ w).alloc (Nat.le_refl _) _).trans ⟨rfl, rfl, rfl, Nat.le_refl _, fun _ _ => rfl⟩⟩
  · by_cases c2 : (hi : Int) < (x1.toNat : Int)
    · rw [decide_eq_true (show x1.toNat < lo ∨ hi < x1.toNat by omega)]
      have c1' : decide (x1.toNat < lo) = false := by simp; omega
      have c1n : ¬ (x1.toNat < lo) := by omega
      rcases hx with rfl | rfl | rfl | rfl | rfl | rfl
      all_goals
        simp at hl hh
        go_enter Tryd.func40, Tryd.ntmps40
        go_wp2
        go_quiet (fail)
        go_wp2
        go_ret
        exact ⟨rfl, ((Below.refl _ w).alloc (Nat.le_refl _) _).trans ⟨rfl, rfl, rfl, Nat.le_refl _, fun _ _ => rfl⟩⟩
    · rw [decide_eq_false (show ¬ (x1.toNat < lo ∨ hi < x1.toNat) by omega)]
      have c1' : decide (x1.toNat < lo) = false := by simp; omega
      have c1n : ¬ (x1.toNat < lo) := by omega
      have c2' : decide (hi < x1.toNat) = false := by simp; omega
      have c2n : ¬ (hi < x1.toNat) := by omega
      rcases hx with rfl | rfl | rfl | rfl | rfl | rfl
      all_goals
        simp at hl hh
        go_enter Tryd.func40, Tryd.ntmps40
        go_wp2
        go_quiet (fail)
        go_wp2
        go_ret
        exact ⟨rfl, ((Below.refl _ w).alloc (Nat.le_refl _) _).trans ⟨rfl, rfl, rfl, Nat.le_refl _, fun _ _ => rfl⟩⟩


set_option maxRecDepth 100000 in
set_option maxHeartbeats 8000000 in
theorem full_three (s : ByteArray) (x lo hi : Nat) (hs : s.size = 3) (w : World) (hx : x = 52 ∨ x = 4 ∨ x = 68) (hc : w.cell? ⟨0, bt s 0, none⟩ = some (.int .u8 x))
    (hl : w.cell? ⟨1, 2 * (x / 16), none⟩ = some (.int .u8 lo)) (hh : w.cell? ⟨1, 2 * (x / 16) + 1, none⟩ = some (.int .u8 hi)) :
    Calls Tryd.prog 40 #[.string s] w fun e w' => e = .returned (.bool (decide ((bt s 1 < lo ∨ hi < bt s 1) ∨ (bt s 2 < 128 ∨ 191 < bt s 2)))) ∧ Below w.heap.size w w' := by
  obtain ⟨x0, hx0⟩ : ∃ x0, s.get! 0 = x0 := ⟨_, rfl⟩
  have hs0 : s[0]'(by omega) = x0 := by rw [← hx0]; exact (Utf8W.get!_of_lt s 0 (by omega)).symm
  obtain ⟨x1, hx1⟩ : ∃ x1, s.get! 1 = x1 := ⟨_, rfl⟩
  have hs1 : s[1]'(by omega) = x1 := by rw [← hx1]; exact (Utf8W.get!_of_lt s 1 (by omega)).symm
  obtain ⟨x2, hx2⟩ : ∃ x2, s.get! 2 = x2 := ⟨_, rfl⟩
  have hs2 : s[2]'(by omega) = x2 := by rw [← hx2]; exact (Utf8W.get!_of_lt s 2 (by omega)).symm
  unfold bt at hc ⊢
  rw [hx0] at hc
  rw [hx1, hx2]
  have gx := x0.toNat_lt
  clear hx0 hx1 hx2
  by_cases c1 : (x1.toNat : Int) < (lo : Int)
  · rw [decide_eq_true (show (x1.toNat < lo ∨ hi < x1.toNat) ∨ (x2.toNat < 128 ∨ 191 < x2.toNat) by omega)]
    rcases hx with rfl | rfl | rfl
    all_goals
      simp at hl hh
      go_enter Tryd.func40, Tryd.ntmps40
      go_wp2
      go_quiet (fail)
      go_wp2
      go_ret
      exact ⟨rfl, ((Below.refl _ w).alloc (Nat.le_refl _) _).trans ⟨rfl, rfl, rfl, Nat.le_refl _, fun _ _ => rfl⟩⟩
  · have c1' : decide (x1.toNat < lo) = false := by simp; omega
    have c1n : ¬ (x1.toNat < lo) := by omega
    by_cases c2 : (hi : Int) < (x1.toNat : Int)
    · rw [decide_eq_true (show (x1.toNat < lo ∨ hi < x1.toNat) ∨ (x2.toNat < 128 ∨ 191 < x2.toNat) by omega)]
      rcases hx with rfl | rfl | rfl
      all_goals
        simp at hl hh
        go_enter Tryd.func40, Tryd.ntmps40
        go_wp2
        go_quiet (fail)
        go_wp2
        go_ret
        exact ⟨rfl, ((Below.refl _ w).alloc (Nat.le_refl _) _).trans ⟨rfl, rfl, rfl, Nat.le_refl _, fun _ _ => rfl⟩⟩
    · have c2' : decide (hi < x1.toNat) = false := by simp; omega
      have c2n : ¬ (hi < x1.toNat) := by omega
      by_cases c3 : (x2.toNat : Int) < 128
      · rw [decide_eq_true (show (x1.toNat < lo ∨ hi < x1.toNat) ∨ (x2.toNat < 128 ∨ 191 < x2.toNat) by omega)]
        rcases hx with rfl | rfl | rfl
        all_goals
          simp at hl hh
          go_enter Tryd.func40, Tryd.ntmps40
          go_wp2
          go_quiet (fail)
          go_wp2
          go_ret
          exact ⟨rfl, ((Below.refl _ w).alloc (Nat.le_refl _) _).trans ⟨rfl, rfl, rfl, Nat.le_refl _, fun _ _ => rfl⟩⟩
      · by_cases c4 : (191 : Int) < (x2.toNat : Int)
        · rw [decide_eq_true (show (x1.toNat < lo ∨ hi < x1.toNat) ∨ (x2.toNat < 128 ∨ 191 < x2.toNat) by omega)]
          rcases hx with rfl | rfl | rfl
          all_goals
            simp at hl hh
            go_enter Tryd.func40, Tryd.ntmps40
            go_wp2
            go_quiet (fail)
            go_wp2
            go_ret
            exact ⟨rfl, ((Below.refl _ w).alloc (Nat.le_refl _) _).trans ⟨rfl, rfl, rfl, Nat.le_refl _, fun _ _ => rfl⟩⟩
        · rw [decide_eq_false (show ¬ ((x1.toNat < lo ∨ hi < x1.toNat) ∨ (x2.toNat < 128 ∨ 191 < x2.toNat)) by omega)]
          rcases hx with rfl | rfl | rfl
          all_goals
            simp at hl hh
            go_enter Tryd.func40, Tryd.ntmps40
            go_wp2
            go_quiet (fail)
            go_wp2
            go_ret
            exact ⟨rfl, ((Below.refl _ w).alloc (Nat.le_refl _) _).trans ⟨rfl, rfl, rfl, Nat.le_refl _, fun _ _ => rfl⟩⟩

theorem full_any (s : ByteArray) (hs : s.size ≤ maxLen) (h1 : 1 ≤ s.size) (w : World) (hT : Lib.Utf8Tabs 0 1 w) :
    Calls Tryd.prog 40 #[.string s] w fun e w' => e = .returned (.bool (fullB s)) ∧ Below w.heap.size w w' := by
  have hc := hT.1 (bt s 0) (bt_lt s 0)
  have hx := Lib.firstT_cases (bt s 0)
  unfold fullB
  obtain ⟨x, hxx⟩ : ∃ x, Lib.firstT (bt s 0) = x := ⟨_, rfl⟩
  rw [hxx] at hc hx ⊢
  unfold fullN
  by_cases hk : x % 8 ≤ s.size
  · rw [if_pos hk]
    exact full_long s x hs h1 w hx hk hc
  · rw [if_neg hk]
    have hi16 : x / 16 < 16 := by omega
    obtain ⟨hl, hh⟩ := hT.2 (x / 16) hi16
    by_cases e1 : s.size = 1
    · rw [if_neg (by omega), if_neg (by omega)]
      exact full_one s x _ _ e1 w (by omega) hc hl hh
    · by_cases e2 : s.size = 2
      · rw [if_neg (c := 2 < s.size ∧ _) (by omega)]
        have h := full_two s x _ _ e2 w (by omega) hc hl hh
        by_cases g : bt s 1 < Lib.accLo (x / 16) ∨ Lib.accHi (x / 16) < bt s 1
        · rw [if_pos ⟨by omega, g⟩]; rw [decide_eq_true g] at h; exact h
        · rw [if_neg (fun q => g q.2)]; rw [decide_eq_false g] at h; exact h
      · have e3 : s.size = 3 := by omega
        have h := full_three s x _ _ e3 w (by omega) hc hl hh
        by_cases g : bt s 1 < Lib.accLo (x / 16) ∨ Lib.accHi (x / 16) < bt s 1
        · rw [if_pos ⟨by omega, g⟩]; rw [decide_eq_true (.inl g)] at h; exact h
        · rw [if_neg (fun q => g q.2)]
          by_cases g2 : bt s 2 < 128 ∨ 191 < bt s 2
          · rw [if_pos ⟨by omega, g2⟩]; rw [decide_eq_true (.inr g2)] at h; exact h
          · rw [if_neg (fun q => g2 q.2)]; rw [decide_eq_false (fun q => q.elim g g2)] at h; exact h

theorem begun_any (s : ByteArray) (hs : s.size ≤ maxLen) (w : World) (hT : Lib.Utf8Tabs 0 1 w) :
    Calls Tryd.prog 18 #[.string s] w fun e w' => e = .returned (.bool (begB s)) ∧ Below w.heap.size w w' := by
  unfold begB
  by_cases h0 : s.size = 0
  · rw [if_pos h0]
    have hne : s.toList.isEmpty = true := by
      rw [Lib.toList_data]
      have : s.data.toList = [] := List.eq_nil_of_length_eq_zero (by rw [← Lib.size_eq]; exact h0)
      rw [this]; rfl
    go_enter Tryd.func18, Tryd.ntmps18
    go_wp2
    go_ret
    exact ⟨rfl, Below.refl _ _⟩
  · rw [if_neg h0]
    have hne : s.toList.isEmpty = false := by
      rw [Lib.toList_data]
      cases h : s.data.toList with
      | nil => exact absurd (by rw [Lib.size_eq, h]; rfl) h0
      | cons _ _ => rfl
    have cF := full_any s hs (by omega) w hT
    go_enter Tryd.func18, Tryd.ntmps18
    go_wp2_with (go_at_call 40; refine cF.mono ?_; rintro e w1 ⟨rfl, hb1⟩)
    go_ret
    exact ⟨rfl, hb1⟩
end Go.Proofs.YtadgbbnkhjapnaaDoor
