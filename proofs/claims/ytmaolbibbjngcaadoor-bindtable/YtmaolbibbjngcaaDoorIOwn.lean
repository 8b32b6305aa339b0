/-
  Package bind's controlByte, ownBytes, typed, quotable and markName: what IMath tells of a key. Conditions: the key's Char is a number of 32 bits, its Text no longer than a text may be.
-/
import Derived.Test.YtmaolbibbjngcaaDoorIMath
namespace Go.Proofs.YtmaolbibbjngcaaDoor
open Go.RowKit

theorem ibelow_on {w W W' : World} (h : Below w.heap.size w W) (k : Below W.heap.size W W') : Below w.heap.size w W' := h.trans (k.mono h.size)
theorem ret_str' {a b : ByteArray} (h : a = b) : Ending.returned (.string a) = .returned (.string b) := by rw [h]
set_option maxRecDepth 100000 in
theorem isclone_any (s : ByteArray) (h : s.size ≤ 281474976710656) (w : World) : Calls Tryd.prog 50 #[.string s] w fun e w' => e = .returned (.string s) ∧ Below w.heap.size w w' := by
  have C1 := Tryd.stringslite_Clone s w h
  go_enter Tryd.func50, Tryd.ntmps50
  go_wp2_with (go_at_call 60; refine C1.mono ?_; rintro e w1 ⟨rfl, hb⟩)
  go_ret
  exact ⟨rfl, hb⟩
set_option maxRecDepth 100000 in
set_option maxHeartbeats 1000000 in
theorem ctl_any (c : Int) (w : World) (h0 : -2147483648 ≤ c) (h9 : c ≤ 2147483647) : Calls Tryd.prog 51 #[.int .i32 c] w fun e w' => e = .returned (.string (ctlP c)) ∧ Below w.heap.size w w' := by
  obtain ⟨R, hR⟩ : ∃ R, ctlP c = R := ⟨_, rfl⟩
  rw [hR]
  have HR : Hid (ctlP c = R) := hR
  clear hR
  by_cases h1 : c = 63
  · subst h1
    go_enter Tryd.func51, Tryd.ntmps51
    go_wp2
    go_ret
    exact ⟨ret_str' (by rw [← HR.out]; rfl), Below.refl _ _⟩
  · have h2 : (c == 63) = false := by simp [h1]
    by_cases h3 : 64 ≤ c
    · by_cases h4 : c ≤ 95
      · have CE : Hid (∀ (W : World) (b : Nat), W.cell? ⟨b, 0, none⟩ = some (.int .i32 (c - 64)) → b < W.heap.size → Calls Tryd.prog 49 #[.slice (some ⟨b, 0, none⟩) 1 1] W fun e w' => e = .returned (.string (encB (c - 64))) ∧ Below W.heap.size W w') := fun W b p q => encode_one (c - 64) b W (by omega) p q
        have e1 : IntKind.i32.wrap (c - 64) = c - 64 := by simp [IntKind.wrap, IntKind.bits, IntKind.signed]; omega
        go_enter Tryd.func51, Tryd.ntmps51
        go_wp2_with (go_at_call 49; refine (CE.out _ _ (by simp) (by simp)).mono ?_; rintro e w1 ⟨rfl, hb⟩)
        go_ret
        exact ⟨ret_str' (by rw [← HR.out]; simp [ctlP, h1, h3, h4]), ibelow_on ((Below.refl _ w).alloc (Nat.le_refl _) _) hb⟩
      · go_enter Tryd.func51, Tryd.ntmps51
        go_wp2
        go_ret
        exact ⟨ret_str' (by rw [← HR.out]; unfold ctlP; rw [if_neg h1, if_neg (by omega)]), Below.refl _ _⟩
    · go_enter Tryd.func51, Tryd.ntmps51
      go_wp2
      go_ret
      exact ⟨ret_str' (by rw [← HR.out]; unfold ctlP; rw [if_neg h1, if_neg (by omega)]), Below.refl _ _⟩
--= own
set_option maxRecDepth 100000 in
set_option maxHeartbeats 2000000 in
theorem own_any (k : Ky) (hk : k.Ok) (w : World) : Calls Tryd.prog 40 #[kyv k] w fun e w' => e = .returned (.string (ownP k)) ∧ Below w.heap.size w w' := by
  have HK : Hid k.Ok := hk
  obtain ⟨a, c, ct, m, sh, tx⟩ := k
  obtain ⟨c0, c1, -, -, ht⟩ := hk
  simp only at c0 c1 ht
  obtain ⟨R, hR⟩ : ∃ R, ownP ⟨a, c, ct, m, sh, tx⟩ = R := ⟨_, rfl⟩
  have HR : Hid (ownP ⟨a, c, ct, m, sh, tx⟩ = R) := hR
  rw [hR]
  clear hR
  have HB : Hid (Below w.heap.size w (w.alloc (.cells #[.int .i64 a, .int .i32 c, .bool ct, .bool m, .bool sh, .string tx] 30))) := (Below.refl _ w).alloc (Nat.le_refl _) _
  unfold kyv
  by_cases h1 : a = 1
  · subst h1
    have CE : Hid (∀ (W : World) (b : Nat), W.cell? ⟨b, 0, none⟩ = some (.int .i32 c) → b < W.heap.size → Calls Tryd.prog 49 #[.slice (some ⟨b, 0, none⟩) 1 1] W fun e w' => e = .returned (.string (encB c)) ∧ Below W.heap.size W w') := fun W b p q => encode_one c b W ⟨c0, c1⟩ p q
    go_enter Tryd.func40, Tryd.ntmps40
    go_wp2_with (go_at_call 49; refine (CE.out _ _ (by simp) (by simp)).mono ?_; rintro e w1 ⟨rfl, hb⟩)
    go_ret
    exact ⟨ret_str' (by rw [← HR.out]; rfl), ibelow_on (((Below.refl _ w).alloc (Nat.le_refl _) _).alloc (by simp) _) hb⟩
  have e1 : (a == 1) = false := by simp [h1]
  by_cases h4 : a = 4
  · subst h4
    have CC : Hid (∀ W : World, Calls Tryd.prog 50 #[.string tx] W fun e w' => e = .returned (.string tx) ∧ Below W.heap.size W w') := fun W => isclone_any tx (by omega) W
    go_enter Tryd.func40, Tryd.ntmps40
    go_wp2_with (go_at_call 50; refine (CC.out _).mono ?_; rintro e w1 ⟨rfl, hb⟩)
    go_ret
    exact ⟨ret_str' (by rw [← HR.out]; rfl), ibelow_on HB.out hb⟩
  have e4 : (a == 4) = false := by simp [h4]
  by_cases h17 : a = 17
  · subst h17
    have CC : Hid (∀ W : World, Calls Tryd.prog 50 #[.string tx] W fun e w' => e = .returned (.string tx) ∧ Below W.heap.size W w') := fun W => isclone_any tx (by omega) W
    go_enter Tryd.func40, Tryd.ntmps40
    go_wp2_with (go_at_call 50; refine (CC.out _).mono ?_; rintro e w1 ⟨rfl, hb⟩)
    go_ret
    exact ⟨ret_str' (by rw [← HR.out]; rfl), ibelow_on HB.out hb⟩
  have e17 : (a == 17) = false := by simp [h17]
  by_cases h2 : a = 2
  · subst h2
    have CC : Hid (∀ W : World, Calls Tryd.prog 51 #[.int .i32 c] W fun e w' => e = .returned (.string (ctlP c)) ∧ Below W.heap.size W w') := fun W => ctl_any c W c0 c1
    go_enter Tryd.func40, Tryd.ntmps40
    go_wp2_with (go_at_call 51; refine (CC.out _).mono ?_; rintro e w1 ⟨rfl, hb⟩)
    go_ret
    exact ⟨ret_str' (by rw [← HR.out]; rfl), ibelow_on HB.out hb⟩
  have e2 : (a == 2) = false := by simp [h2]
  by_cases h3 : a = 3
  · subst h3
    go_enter Tryd.func40, Tryd.ntmps40
    go_wp2
    go_ret
    exact ⟨ret_str' (by rw [← HR.out]; rfl), HB.out⟩
  have e3 : (a == 3) = false := by simp [h3]
  go_enter Tryd.func40, Tryd.ntmps40
  go_wp2
  go_ret
  exact ⟨ret_str' (by rw [← HR.out]; simp [ownP, h1, h2, h3, h4, h17]), HB.out⟩
theorem inot_emp {s : ByteArray} (h : ¬ s = ⟨#[]⟩) : s.toList.isEmpty = false := by
  rw [Lib.toList_data]
  obtain ⟨⟨l⟩⟩ := s
  cases l with
  | nil => exact absurd rfl h
  | cons x l => rfl
theorem inot_nil {s : ByteArray} (h : ¬ s = ⟨#[]⟩) : ¬ s.toList = [] := fun e => by
  have := inot_emp h
  rw [e] at this
  cases this
set_option maxRecDepth 100000 in
set_option maxHeartbeats 2000000 in
theorem typ_any (k : Ky) (hk : k.Ok) (w : World) : Calls Tryd.prog 52 #[kyv k] w fun e w' => e = .returned (.bool (typP k)) ∧ Below w.heap.size w w' := by
  have HK : Hid k.Ok := hk
  obtain ⟨a, c, ct, m, sh, tx⟩ := k
  obtain ⟨c0, c1, -, -, ht⟩ := hk
  simp only at c0 c1 ht
  obtain ⟨R, hR⟩ : ∃ R, typP ⟨a, c, ct, m, sh, tx⟩ = R := ⟨_, rfl⟩
  have HR : Hid (typP ⟨a, c, ct, m, sh, tx⟩ = R) := hR
  rw [hR]
  clear hR
  have HB : Hid (Below w.heap.size w (w.alloc (.cells #[.int .i64 a, .int .i32 c, .bool ct, .bool m, .bool sh, .string tx] 30))) := (Below.refl _ w).alloc (Nat.le_refl _) _
  obtain ⟨S, hS⟩ : ∃ S, ownP ⟨a, c, ct, m, sh, tx⟩ = S := ⟨_, rfl⟩
  unfold kyv
  by_cases h1 : a = 1
  · subst h1
    cases ct
    · cases m
      · skip
        have CO : Hid (∀ W : World, Calls Tryd.prog 40 #[.agg #[.int .i64 1, .int .i32 c, .bool false, .bool false, .bool sh, .string tx]] W fun e w' => e = .returned (.string S) ∧ Below W.heap.size W w') := fun W => by have := own_any _ HK.out W; rw [hS] at this; exact this
        rcases Classical.em (S = ⟨#[]⟩) with hE | hE
        · subst hE
          go_enter Tryd.func52, Tryd.ntmps52
          go_wp2_with (go_at_call 40; refine (CO.out _).mono ?_; rintro e w1 ⟨rfl, hb⟩)
          go_ret
          exact ⟨ret_bool (by rw [← HR.out]; simp [typP, emp, hS]), ibelow_on HB.out hb⟩
        · have n1 := inot_emp hE
          have n2 := inot_nil hE
          have HE : Hid (¬ S = ⟨#[]⟩) := hE
          clear hE
          go_enter Tryd.func52, Tryd.ntmps52
          go_wp2_with (go_at_call 40; refine (CO.out _).mono ?_; rintro e w1 ⟨rfl, hb⟩)
          go_ret
          exact ⟨ret_bool (by rw [← HR.out]; simp [typP, emp, hS, HE.out]), ibelow_on HB.out hb⟩
      · skip
        go_enter Tryd.func52, Tryd.ntmps52
        go_wp2
        go_ret
        exact ⟨ret_bool (by rw [← HR.out]; simp [typP]), HB.out⟩
    · skip
      go_enter Tryd.func52, Tryd.ntmps52
      go_wp2
      go_ret
      exact ⟨ret_bool (by rw [← HR.out]; simp [typP]), HB.out⟩
  have e1 : (a != 1) = true := by simp [h1]
  by_cases h4 : a = 4
  · subst h4
    cases ct
    · cases m
      · skip
        have CO : Hid (∀ W : World, Calls Tryd.prog 40 #[.agg #[.int .i64 4, .int .i32 c, .bool false, .bool false, .bool sh, .string tx]] W fun e w' => e = .returned (.string S) ∧ Below W.heap.size W w') := fun W => by have := own_any _ HK.out W; rw [hS] at this; exact this
        rcases Classical.em (S = ⟨#[]⟩) with hE | hE
        · subst hE
          go_enter Tryd.func52, Tryd.ntmps52
          go_wp2_with (go_at_call 40; refine (CO.out _).mono ?_; rintro e w1 ⟨rfl, hb⟩)
          go_ret
          exact ⟨ret_bool (by rw [← HR.out]; simp [typP, emp, hS]), ibelow_on HB.out hb⟩
        · have n1 := inot_emp hE
          have n2 := inot_nil hE
          have HE : Hid (¬ S = ⟨#[]⟩) := hE
          clear hE
          go_enter Tryd.func52, Tryd.ntmps52
          go_wp2_with (go_at_call 40; refine (CO.out _).mono ?_; rintro e w1 ⟨rfl, hb⟩)
          go_ret
          exact ⟨ret_bool (by rw [← HR.out]; simp [typP, emp, hS, HE.out]), ibelow_on HB.out hb⟩
      · skip
        go_enter Tryd.func52, Tryd.ntmps52
        go_wp2
        go_ret
        exact ⟨ret_bool (by rw [← HR.out]; simp [typP]), HB.out⟩
    · skip
      go_enter Tryd.func52, Tryd.ntmps52
      go_wp2
      go_ret
      exact ⟨ret_bool (by rw [← HR.out]; simp [typP]), HB.out⟩
  have e4 : (a != 4) = true := by simp [h4]
  go_enter Tryd.func52, Tryd.ntmps52
  go_wp2
  go_ret
  exact ⟨ret_bool (by rw [← HR.out]; simp [typP, h1, h4]), HB.out⟩
set_option maxRecDepth 100000 in
set_option maxHeartbeats 2000000 in
theorem quo_any (k : Ky) (hk : k.Ok) (w : World) : Calls Tryd.prog 54 #[kyv k] w fun e w' => e = .returned (.bool (quoP k)) ∧ Below w.heap.size w w' := by
  have HK : Hid k.Ok := hk
  obtain ⟨a, c, ct, m, sh, tx⟩ := k
  obtain ⟨c0, c1, -, -, ht⟩ := hk
  simp only at c0 c1 ht
  obtain ⟨R, hR⟩ : ∃ R, quoP ⟨a, c, ct, m, sh, tx⟩ = R := ⟨_, rfl⟩
  have HR : Hid (quoP ⟨a, c, ct, m, sh, tx⟩ = R) := hR
  rw [hR]
  clear hR
  have HB : Hid (Below w.heap.size w (w.alloc (.cells #[.int .i64 a, .int .i32 c, .bool ct, .bool m, .bool sh, .string tx] 30))) := (Below.refl _ w).alloc (Nat.le_refl _) _
  obtain ⟨S, hS⟩ : ∃ S, ownP ⟨a, c, ct, m, sh, tx⟩ = S := ⟨_, rfl⟩
  obtain ⟨Q, hQ⟩ : ∃ Q, typP ⟨a, c, ct, m, sh, tx⟩ = Q := ⟨_, rfl⟩
  unfold kyv
  by_cases h2 : a = 2
  · subst h2
    cases m
    · skip
      have CO : Hid (∀ W : World, Calls Tryd.prog 40 #[.agg #[.int .i64 2, .int .i32 c, .bool ct, .bool false, .bool sh, .string tx]] W fun e w' => e = .returned (.string S) ∧ Below W.heap.size W w') := fun W => by have := own_any _ HK.out W; rw [hS] at this; exact this
      rcases Classical.em (S = ⟨#[]⟩) with hE | hE
      · subst hE
        go_enter Tryd.func54, Tryd.ntmps54
        go_wp2_with (go_at_call 40; refine (CO.out _).mono ?_; rintro e w1 ⟨rfl, hb⟩)
        go_ret
        exact ⟨ret_bool (by rw [← HR.out]; simp [quoP, emp, hS]), ibelow_on HB.out hb⟩
      · have n1 := inot_emp hE
        have n2 := inot_nil hE
        have HE : Hid (¬ S = ⟨#[]⟩) := hE
        clear hE
        go_enter Tryd.func54, Tryd.ntmps54
        go_wp2_with (go_at_call 40; refine (CO.out _).mono ?_; rintro e w1 ⟨rfl, hb⟩)
        go_ret
        exact ⟨ret_bool (by rw [← HR.out]; simp [quoP, emp, hS, HE.out]), ibelow_on HB.out hb⟩
    · skip
      go_enter Tryd.func54, Tryd.ntmps54
      go_wp2
      go_ret
      exact ⟨ret_bool (by rw [← HR.out]; simp [quoP]), HB.out⟩
  have e2 : (a != 2) = true := by simp [h2]
  by_cases h3 : a = 3
  · subst h3
    cases m
    · skip
      have CO : Hid (∀ W : World, Calls Tryd.prog 40 #[.agg #[.int .i64 3, .int .i32 c, .bool ct, .bool false, .bool sh, .string tx]] W fun e w' => e = .returned (.string S) ∧ Below W.heap.size W w') := fun W => by have := own_any _ HK.out W; rw [hS] at this; exact this
      rcases Classical.em (S = ⟨#[]⟩) with hE | hE
      · subst hE
        go_enter Tryd.func54, Tryd.ntmps54
        go_wp2_with (go_at_call 40; refine (CO.out _).mono ?_; rintro e w1 ⟨rfl, hb⟩)
        go_ret
        exact ⟨ret_bool (by rw [← HR.out]; simp [quoP, emp, hS]), ibelow_on HB.out hb⟩
      · have n1 := inot_emp hE
        have n2 := inot_nil hE
        have HE : Hid (¬ S = ⟨#[]⟩) := hE
        clear hE
        go_enter Tryd.func54, Tryd.ntmps54
        go_wp2_with (go_at_call 40; refine (CO.out _).mono ?_; rintro e w1 ⟨rfl, hb⟩)
        go_ret
        exact ⟨ret_bool (by rw [← HR.out]; simp [quoP, emp, hS, HE.out]), ibelow_on HB.out hb⟩
    · skip
      go_enter Tryd.func54, Tryd.ntmps54
      go_wp2
      go_ret
      exact ⟨ret_bool (by rw [← HR.out]; simp [quoP]), HB.out⟩
  have e3 : (a != 3) = true := by simp [h3]
  have CT : Hid (∀ W : World, Calls Tryd.prog 52 #[.agg #[.int .i64 a, .int .i32 c, .bool ct, .bool m, .bool sh, .string tx]] W fun e w' => e = .returned (.bool Q) ∧ Below W.heap.size W w') := fun W => by have := typ_any _ HK.out W; rw [hQ] at this; exact this
  go_enter Tryd.func54, Tryd.ntmps54
  go_wp2_with (go_at_call 52; refine (CT.out _).mono ?_; rintro e w1 ⟨rfl, hb⟩)
  go_ret
  exact ⟨ret_bool (by rw [← HR.out]; simp [quoP, h2, h3, hQ]), ibelow_on HB.out hb⟩
set_option maxRecDepth 100000 in
set_option maxHeartbeats 2000000 in
theorem mrk_any (k : Ky) (hk : k.Ok) (w : World) : Calls Tryd.prog 55 #[kyv k] w fun e w' => e = .returned (.bool (mrkP k)) ∧ Below w.heap.size w w' := by
  have HK : Hid k.Ok := hk
  obtain ⟨a, c, ct, m, sh, tx⟩ := k
  obtain ⟨c0, c1, -, -, ht⟩ := hk
  simp only at c0 c1 ht
  obtain ⟨R, hR⟩ : ∃ R, mrkP ⟨a, c, ct, m, sh, tx⟩ = R := ⟨_, rfl⟩
  have HR : Hid (mrkP ⟨a, c, ct, m, sh, tx⟩ = R) := hR
  rw [hR]
  clear hR
  have HB : Hid (Below w.heap.size w (w.alloc (.cells #[.int .i64 a, .int .i32 c, .bool ct, .bool m, .bool sh, .string tx] 30))) := (Below.refl _ w).alloc (Nat.le_refl _) _
  unfold kyv
  by_cases h1 : a = 1
  · subst h1
    cases ct
    · cases m
      · by_cases h2 : c = 64
        · subst h2
          go_enter Tryd.func55, Tryd.ntmps55
          go_wp2
          go_ret
          exact ⟨ret_bool (by rw [← HR.out]; simp [mrkP]), HB.out⟩
        · have e2 : (c == 64) = false := by simp [h2]
          by_cases h3 : 97 ≤ c
          · by_cases h4 : c ≤ 122
            · skip
              go_enter Tryd.func55, Tryd.ntmps55
              go_wp2
              go_ret
              exact ⟨ret_bool (by rw [← HR.out]; simp [mrkP, h3, h4]), HB.out⟩
            · skip
              go_enter Tryd.func55, Tryd.ntmps55
              go_wp2
              go_ret
              exact ⟨ret_bool (by rw [← HR.out]; simp [mrkP, h2]; omega), HB.out⟩
          · skip
            go_enter Tryd.func55, Tryd.ntmps55
            go_wp2
            go_ret
            exact ⟨ret_bool (by rw [← HR.out]; simp [mrkP, h2]; omega), HB.out⟩
      · skip
        go_enter Tryd.func55, Tryd.ntmps55
        go_wp2
        go_ret
        exact ⟨ret_bool (by rw [← HR.out]; simp [mrkP]), HB.out⟩
    · skip
      go_enter Tryd.func55, Tryd.ntmps55
      go_wp2
      go_ret
      exact ⟨ret_bool (by rw [← HR.out]; simp [mrkP]), HB.out⟩
  have e1 : (a == 1) = false := by simp [h1]
  go_enter Tryd.func55, Tryd.ntmps55
  go_wp2
  go_ret
  exact ⟨ret_bool (by rw [← HR.out]; simp [mrkP, h1]), HB.out⟩
end Go.Proofs.YtmaolbibbjngcaaDoor
