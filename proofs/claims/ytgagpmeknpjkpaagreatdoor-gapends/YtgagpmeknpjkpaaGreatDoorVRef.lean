/-
  The walks of the reference's Within, Class, Cells and Ranges, and of the law's own held: what VMath tells. Conditions: a list of ranges that is handed in can be read.
-/
import Derived.Test.YtgagpmeknpjkpaaGreatDoorVTable
namespace Go.Proofs.YtgagpmeknpjkpaaGreatDoor
open Go.RowKit Wid

/-- a slice value that reads as the ranges l -/
def Rg (W : World) (v : Value) (l : List (Int × Int)) : Prop :=
  ∃ a cap, v = .slice a l.length cap ∧ (l.length ≠ 0 → ∃ b, a = some ⟨b, 0, none⟩ ∧ ∀ j, j < l.length → W.cell? ⟨b, j * 2, none⟩ = some (.int .i32 (l.getD j (0, 0)).1) ∧ W.cell? ⟨b, j * 2 + 1, none⟩ = some (.int .i32 (l.getD j (0, 0)).2))
theorem rcells_get : ∀ (l : List (Int × Int)) (j : Nat), j < l.length → (rcells l)[j * 2]? = some (.int .i32 (l.getD j (0, 0)).1) ∧ (rcells l)[j * 2 + 1]? = some (.int .i32 (l.getD j (0, 0)).2)
  | [], _, h => by simp at h
  | p :: r, 0, _ => by simp [rcells]
  | p :: r, j + 1, h => by
    have := rcells_get r j (by simpa using h)
    simp only [rcells, List.flatMap_cons, List.getD_cons_succ] at this ⊢
    rw [show (j + 1) * 2 = j * 2 + 2 by omega]
    simpa using this
theorem Rg.of_own {W : World} {base : Nat} {v : Value} {l : List (Int × Int)} (h : W.ownsRow base 138 2 v l.length (rcells l)) : Rg W v l := by
  rcases h.2 with ⟨rfl, h0⟩ | ⟨g, cap, cur, rfl, _⟩
  · exact ⟨none, 0, by rw [h0], fun q => absurd h0 q⟩
  · refine ⟨_, cap, rfl, fun _ => ⟨g, rfl, fun j hj => ?_⟩⟩
    obtain ⟨e1, e2⟩ := rcells_get l j hj
    exact ⟨(h.cellAt (j * 2) (by omega)).trans e1, (h.cellAt (j * 2 + 1) (by omega)).trans e2⟩

theorem inR_take (l : List (Int × Int)) (c : Int) (k : Nat) (hk : k < l.length) : inR (l.take (k + 1)) c = (inR (l.take k) c || (decide ((l.getD k (0, 0)).1 ≤ c) && decide (c ≤ (l.getD k (0, 0)).2))) := by
  rw [take_snoc l k hk]; simp [inR]
theorem inR_hit (l : List (Int × Int)) (c : Int) (k : Nat) (hk : k < l.length) (h1 : (l.getD k (0, 0)).1 ≤ c) (h2 : c ≤ (l.getD k (0, 0)).2) : inR l c = true := by
  unfold inR
  rw [List.any_eq_true]
  refine ⟨l.getD k (0, 0), ?_, by rw [decide_eq_true h1, decide_eq_true h2]; rfl⟩
  simp [List.getD, hk]
theorem ret_b {a b : Bool} (h : a = b) : Ending.returned (.bool a) = Ending.returned (.bool b) := by rw [h]

set_option maxRecDepth 100000 in
set_option maxHeartbeats 1000000 in
theorem within_core (l : List (Int × Int)) (c : Int) (b cap n : Nat) (w : World) (hn : n = l.length) (hl : n ≤ 1000) (h : ∀ j, j < l.length → w.cell? ⟨b, j * 2, none⟩ = some (.int .i32 (l.getD j (0, 0)).1) ∧ w.cell? ⟨b, j * 2 + 1, none⟩ = some (.int .i32 (l.getD j (0, 0)).2)) :
    Calls Tryz.prog 109 #[.slice (some ⟨b, 0, none⟩) n cap, .int .i32 c] w fun e w' => e = .returned (.bool (inR l c)) ∧ w = w' := by
  have HC : Hid _ := h
  have HN : Hid (n = l.length) := hn
  clear h hn
  go_enter Tryz.func109, Tryz.ntmps109
  go_wp2
  go_loopw [5] (fun t wr => ∃ k : Nat, k ≤ n ∧ t = .int .i64 k ∧ Hid (inR (l.take k) c = false) ∧ w = wr) (fun t _ => n - (intOf t).toNat)
  case atStart => exact ⟨0, Nat.zero_le _, rfl, rfl, rfl⟩
  case round =>
    obtain ⟨k, hk, rfl, HF, rfl⟩ := hrel
    by_cases hlt : k < n
    · obtain ⟨c1, c2⟩ := HC.out k (by rw [← HN.out]; exact hlt)
      have HT := inR_take l c k (by rw [← HN.out]; exact hlt)
      have HI := inR_hit l c k (by rw [← HN.out]; exact hlt)
      rw [HF.out, Bool.false_or] at HT
      have HT2 : Hid _ := HT
      have HI2 : Hid _ := HI
      clear HT HI HF
      generalize (l.getD k (0, 0)).1 = x1 at c1 HT2 HI2
      generalize (l.getD k (0, 0)).2 = x2 at c2 HT2 HI2
      by_cases g1 : x1 ≤ c
      · by_cases g2 : c ≤ x2
        · go_wp2
          go_ret
          exact ⟨ret_b (HI2.out g1 g2).symm, rfl⟩
        · go_wp2
          exact ⟨⟨k + 1, by omega, by go_num, by show _ = false; rw [HT2.out]; simp; omega, trivial⟩, by simp [intOf]; omega⟩
      · go_wp2
        exact ⟨⟨k + 1, by omega, by go_num, by show _ = false; rw [HT2.out]; simp; omega, trivial⟩, by simp [intOf]; omega⟩
    · have HE : Hid (inR l c = false) := by
        have h2 := HF.out
        rw [List.take_of_length_le (by rw [← HN.out]; omega)] at h2
        exact h2
      clear HF
      go_wp2
      go_ret
      exact ⟨ret_b HE.out.symm, rfl⟩
set_option maxRecDepth 100000 in
set_option maxHeartbeats 1000000 in
theorem within_none (a : Option Addr) (c : Int) (cap : Nat) (w : World) : Calls Tryz.prog 109 #[.slice a 0 cap, .int .i32 c] w fun e w' => e = .returned (.bool false) ∧ w = w' := by
  go_enter Tryz.func109, Tryz.ntmps109
  go_wp2
  go_loopw [5] (fun t wr => t = .int .i64 0 ∧ w = wr) (fun _ _ => 0)
  case atStart => exact ⟨rfl, rfl⟩
  case round =>
    obtain ⟨rfl, rfl⟩ := hrel
    go_wp2
    go_ret
    exact ⟨rfl, rfl⟩
theorem within_list (l : List (Int × Int)) (c : Int) (v : Value) (w : World) (hl : l.length ≤ 1000) (h : Rg w v l) : Calls Tryz.prog 109 #[v, .int .i32 c] w fun e w' => e = .returned (.bool (inR l c)) ∧ w = w' := by
  obtain ⟨a, cap, rfl, hr⟩ := h
  by_cases h0 : l.length = 0
  · rw [List.length_eq_zero_iff.1 h0]; exact within_none a c cap w
  · obtain ⟨b, rfl, hc⟩ := hr h0
    exact within_core l c b cap l.length w rfl hl hc

/-- what is known of the tables' texts -/
theorem mk_ne : mk ≠ [] := by decide
theorem wd_ne : wd ≠ [] := by decide

set_option maxHeartbeats 4000000 in
set_option maxRecDepth 100000 in
theorem rclass_high (c : Int) (hv : ¬ bad c) (h0 : 768 ≤ c) (w : World) :
    Calls Tryz.prog 93 #[.int .i32 c] w fun e w' => e = .returned (.int .i64 (if inR mk c = true then 3 else if inR wd c = true then 4 else 0)) ∧ Below w.heap.size w w' := by
  have n0 : ¬ c < 0 := by omega
  have n6 : ¬ 1114111 < c := by unfold bad at hv; omega
  have n7 : c < 55296 ∨ 57343 < c := by unfold bad at hv; omega
  have n1 : ¬ c = 10 := by omega
  have n2 : ¬ c ≤ 31 := by omega
  have n3 : ¬ c ≤ 159 := by omega
  have n4 : ¬ c < 768 := by omega
  have n5 : 127 ≤ c := by omega
  have AM : Hid (∀ (W : World) (v : Value), Rg W v mk → Calls Tryz.prog 109 #[v, .int .i32 c] W fun e w' => e = .returned (.bool (inR mk c)) ∧ W = w') := fun W v h => within_list mk c v W (by decide) h
  have AW : Hid (∀ (W : World) (v : Value), Rg W v wd → Calls Tryz.prog 109 #[v, .int .i32 c] W fun e w' => e = .returned (.bool (inR wd c)) ∧ W = w') := fun W v h => within_list wd c v W (by decide) h
  generalize inR mk c = bm at AM
  generalize inR wd c = bw at AW
  clear hv h0
  rcases n7 with n7 | n7
  · have n8 : ¬ 55296 ≤ c := by omega
    have T1 : True := trivial
    have T2 : True := trivial
    cases bm with
    | true =>
      go_enter Tryz.func93, Tryz.ntmps93
      go_wp2_with (first | (go_at_call 110; have hq := T1; clear hq T1; refine (table_any _ mk (by decide +kernel) mk_ne (by decide) (by kernel_rfl) (by kernel_rfl) _).mono ?_; rintro e w1 ⟨v1, rfl, hrow1, hb1⟩) | (go_at_call 109; have hq := T2; clear hq T2; refine (AM.out _ _ (Rg.of_own hrow1)).mono ?_; rintro e w2 ⟨rfl, rfl⟩))
      all_goals go_ret
      all_goals exact ⟨rfl, hb1⟩
    | false =>
      cases bw with
      | true =>
        go_enter Tryz.func93, Tryz.ntmps93
        go_wp2_with (first | (go_at_call 110; have hq := T1; clear hq T1; refine (table_any _ mk (by decide +kernel) mk_ne (by decide) (by kernel_rfl) (by kernel_rfl) _).mono ?_; rintro e w1 ⟨v1, rfl, hrow1, hb1⟩) | (go_at_call 109; have hq := T2; clear hq T2; refine (AM.out _ _ (Rg.of_own hrow1)).mono ?_; rintro e w2 ⟨rfl, rfl⟩) | (go_at_call 110; refine (table_any _ wd (by decide +kernel) wd_ne (by decide) (by kernel_rfl) (by kernel_rfl) _).mono ?_; rintro e w3 ⟨v3, rfl, hrow3, hb3⟩) | (go_at_call 109; refine (AW.out _ _ (Rg.of_own hrow3)).mono ?_; rintro e w4 ⟨rfl, rfl⟩))
        all_goals go_ret
        all_goals exact ⟨rfl, hb1.trans (hb3.mono hb1.size)⟩
      | false =>
        go_enter Tryz.func93, Tryz.ntmps93
        go_wp2_with (first | (go_at_call 110; have hq := T1; clear hq T1; refine (table_any _ mk (by decide +kernel) mk_ne (by decide) (by kernel_rfl) (by kernel_rfl) _).mono ?_; rintro e w1 ⟨v1, rfl, hrow1, hb1⟩) | (go_at_call 109; have hq := T2; clear hq T2; refine (AM.out _ _ (Rg.of_own hrow1)).mono ?_; rintro e w2 ⟨rfl, rfl⟩) | (go_at_call 110; refine (table_any _ wd (by decide +kernel) wd_ne (by decide) (by kernel_rfl) (by kernel_rfl) _).mono ?_; rintro e w3 ⟨v3, rfl, hrow3, hb3⟩) | (go_at_call 109; refine (AW.out _ _ (Rg.of_own hrow3)).mono ?_; rintro e w4 ⟨rfl, rfl⟩))
        all_goals go_ret
        all_goals exact ⟨rfl, hb1.trans (hb3.mono hb1.size)⟩
  · have n8 : ¬ c ≤ 57343 := by omega
    have T1 : True := trivial
    have T2 : True := trivial
    cases bm with
    | true =>
      go_enter Tryz.func93, Tryz.ntmps93
      go_wp2_with (first | (go_at_call 110; have hq := T1; clear hq T1; refine (table_any _ mk (by decide +kernel) mk_ne (by decide) (by kernel_rfl) (by kernel_rfl) _).mono ?_; rintro e w1 ⟨v1, rfl, hrow1, hb1⟩) | (go_at_call 109; have hq := T2; clear hq T2; refine (AM.out _ _ (Rg.of_own hrow1)).mono ?_; rintro e w2 ⟨rfl, rfl⟩))
      all_goals go_ret
      all_goals exact ⟨rfl, hb1⟩
    | false =>
      cases bw with
      | true =>
        go_enter Tryz.func93, Tryz.ntmps93
        go_wp2_with (first | (go_at_call 110; have hq := T1; clear hq T1; refine (table_any _ mk (by decide +kernel) mk_ne (by decide) (by kernel_rfl) (by kernel_rfl) _).mono ?_; rintro e w1 ⟨v1, rfl, hrow1, hb1⟩) | (go_at_call 109; have hq := T2; clear hq T2; refine (AM.out _ _ (Rg.of_own hrow1)).mono ?_; rintro e w2 ⟨rfl, rfl⟩) | (go_at_call 110; refine (table_any _ wd (by decide +kernel) wd_ne (by decide) (by kernel_rfl) (by kernel_rfl) _).mono ?_; rintro e w3 ⟨v3, rfl, hrow3, hb3⟩) | (go_at_call 109; refine (AW.out _ _ (Rg.of_own hrow3)).mono ?_; rintro e w4 ⟨rfl, rfl⟩))
        all_goals go_ret
        all_goals exact ⟨rfl, hb1.trans (hb3.mono hb1.size)⟩
      | false =>
        go_enter Tryz.func93, Tryz.ntmps93
        go_wp2_with (first | (go_at_call 110; have hq := T1; clear hq T1; refine (table_any _ mk (by decide +kernel) mk_ne (by decide) (by kernel_rfl) (by kernel_rfl) _).mono ?_; rintro e w1 ⟨v1, rfl, hrow1, hb1⟩) | (go_at_call 109; have hq := T2; clear hq T2; refine (AM.out _ _ (Rg.of_own hrow1)).mono ?_; rintro e w2 ⟨rfl, rfl⟩) | (go_at_call 110; refine (table_any _ wd (by decide +kernel) wd_ne (by decide) (by kernel_rfl) (by kernel_rfl) _).mono ?_; rintro e w3 ⟨v3, rfl, hrow3, hb3⟩) | (go_at_call 109; refine (AW.out _ _ (Rg.of_own hrow3)).mono ?_; rintro e w4 ⟨rfl, rfl⟩))
        all_goals go_ret
        all_goals exact ⟨rfl, hb1.trans (hb3.mono hb1.size)⟩
theorem ten_ne : [((10 : Int), (10 : Int))] ≠ [] := by decide
theorem ctl_ne : [((0 : Int), (9 : Int)), (11, 31), (127, 159)] ≠ [] := by decide
set_option maxHeartbeats 2000000 in
set_option maxRecDepth 100000 in
theorem rclass_bad (c : Int) (hv : bad c) (w : World) : Calls Tryz.prog 93 #[.int .i32 c] w fun e w' => e = .returned (.int .i64 5) ∧ w = w' := by
  unfold bad at hv
  by_cases h1 : c < 0
  · clear hv
    go_enter Tryz.func93, Tryz.ntmps93
    go_wp2
    go_ret
    exact ⟨rfl, rfl⟩
  · by_cases h2 : 1114111 < c
    · clear hv
      go_enter Tryz.func93, Tryz.ntmps93
      go_wp2
      go_ret
      exact ⟨rfl, rfl⟩
    · have h3 : 55296 ≤ c := by omega
      have h4 : c ≤ 57343 := by omega
      clear hv
      go_enter Tryz.func93, Tryz.ntmps93
      go_wp2
      go_ret
      exact ⟨rfl, rfl⟩
set_option maxHeartbeats 2000000 in
set_option maxRecDepth 100000 in
theorem rclass_low (c : Int) (hv : ¬ bad c) (h0 : c < 768) (w : World) : Calls Tryz.prog 93 #[.int .i32 c] w fun e w' => e = .returned (.int .i64 (if c = 10 then 1 else if c ≤ 31 ∨ (127 ≤ c ∧ c ≤ 159) then 2 else 0)) ∧ w = w' := by
  have n0 : ¬ c < 0 := by unfold bad at hv; omega
  have n6 : ¬ 1114111 < c := by omega
  have n7 : ¬ 55296 ≤ c := by omega
  clear hv
  have W : ∀ n : Int, c ≠ 10 → (c ≤ 31 ∧ n = 2 ∨ 32 ≤ c ∧ c < 127 ∧ n = 0 ∨ 127 ≤ c ∧ c ≤ 159 ∧ n = 2 ∨ 159 < c ∧ n = 0) → Calls Tryz.prog 93 #[.int .i32 c] w fun e w' => e = .returned (.int .i64 n) ∧ w = w' := by
    rintro n g0 (⟨g1, rfl⟩ | ⟨g1, g2, rfl⟩ | ⟨g1, g2, rfl⟩ | ⟨g1, rfl⟩)
    · go_enter Tryz.func93, Tryz.ntmps93
      go_wp2
      go_ret
      exact ⟨rfl, rfl⟩
    · have g3 : ¬ c ≤ 31 := by omega
      have g4 : ¬ 127 ≤ c := by omega
      go_enter Tryz.func93, Tryz.ntmps93
      go_wp2
      go_ret
      exact ⟨rfl, rfl⟩
    · have g3 : ¬ c ≤ 31 := by omega
      go_enter Tryz.func93, Tryz.ntmps93
      go_wp2
      go_ret
      exact ⟨rfl, rfl⟩
    · have g3 : ¬ c ≤ 31 := by omega
      have g4 : 127 ≤ c := by omega
      have g5 : ¬ c ≤ 159 := by omega
      go_enter Tryz.func93, Tryz.ntmps93
      go_wp2
      go_ret
      exact ⟨rfl, rfl⟩
  by_cases h1 : c = 10
  · subst h1
    clear W
    rw [if_pos rfl]
    go_enter Tryz.func93, Tryz.ntmps93
    go_wp2
    go_ret
    exact ⟨rfl, rfl⟩
  · rw [if_neg h1]
    refine W _ h1 ?_
    split <;> omega
/-- the reference's Class answers the class, whatever the number is -/
theorem rclass_any (c : Int) (w : World) : Calls Tryz.prog 93 #[.int .i32 c] w fun e w' => e = .returned (.int .i64 (cls c)) ∧ Below w.heap.size w w' := by
  by_cases hv : bad c
  · rw [show cls c = 5 from if_pos hv]
    exact (rclass_bad c hv w).mono fun e w' ⟨h1, h2⟩ => ⟨h1, h2 ▸ Below.refl _ _⟩
  · by_cases h0 : c < 768
    · rw [show cls c = (if c = 10 then 1 else if c ≤ 31 ∨ (127 ≤ c ∧ c ≤ 159) then 2 else 0) by unfold cls; rw [if_neg hv, if_pos h0]]
      exact (rclass_low c hv h0 w).mono fun e w' ⟨h1, h2⟩ => ⟨h1, h2 ▸ Below.refl _ _⟩
    · rw [show cls c = (if inR mk c = true then 3 else if inR wd c = true then 4 else 0) by unfold cls; rw [if_neg hv, if_neg (by omega), if_neg (by omega), if_neg h0]]
      exact rclass_high c hv (by omega) w
set_option maxHeartbeats 2000000 in
set_option maxRecDepth 100000 in
/-- the reference's Cells answers the cells, whatever the number is -/
theorem rcells_any (c : Int) (w : World) : Calls Tryz.prog 94 #[.int .i32 c] w fun e w' => e = .returned (.int .i64 (cel c)) ∧ Below w.heap.size w w' := by
  have cC := rclass_any c w
  unfold cel
  have hr := cls_range c
  generalize cls c = k at cC hr
  rcases hr with rfl | rfl | rfl | rfl | rfl | rfl
  case inr.inr.inl =>
    by_cases h : c ≤ 127
    · rw [if_neg (by decide), if_neg (by decide), if_pos ⟨rfl, h⟩]
      go_enter Tryz.func94, Tryz.ntmps94
      go_wp2_with (go_at_call 93; refine cC.mono ?_; clear cC; rintro e w' ⟨rfl, hb⟩)
      go_ret
      exact ⟨rfl, hb⟩
    · rw [if_neg (by decide), if_neg (by decide), if_neg (fun q => h q.2)]
      go_enter Tryz.func94, Tryz.ntmps94
      go_wp2_with (go_at_call 93; refine cC.mono ?_; clear cC; rintro e w' ⟨rfl, hb⟩)
      go_ret
      exact ⟨rfl, hb⟩
  all_goals
    go_enter Tryz.func94, Tryz.ntmps94
    go_wp2_with (go_at_call 93; refine cC.mono ?_; clear cC; rintro e w' ⟨rfl, hb⟩)
    go_ret
    exact ⟨rfl, hb⟩

end Go.Proofs.YtgagpmeknpjkpaaGreatDoor
