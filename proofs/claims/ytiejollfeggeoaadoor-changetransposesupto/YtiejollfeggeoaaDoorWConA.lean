/-
  The walks of package word's leftOuts, leftOut and IsWord: for every number what WMath tells. No conditions.
-/
import Derived.Test.YtiejollfeggeoaaDoorVWalkB
import Derived.Test.YtiejollfeggeoaaDoorPkC
import Derived.Test.YtiejollfeggeoaaDoorKBase
namespace Go.Proofs.YtiejollfeggeoaaDoor
open Go.RowKit Go.Great Wid

def rgl (l : List (Int × Int)) : Array Value := (l.flatMap fun p => [Value.int .i32 p.1, .int .i32 p.2]).toArray

set_option maxRecDepth 100000 in
set_option maxHeartbeats 2000000 in
theorem outs_any (w : World) : Calls Tryd.prog 86 #[] w fun e w' => e = .returned (.agg (rgl butR)) ∧ Below w.heap.size w w' := by
  refine calls_of_wp Tryd.func86 rfl ?_
  apply wp_seq_k; intro K0 hK0
  apply wp_region_lit
  refine wpList_allocTo rfl (some 0) rfl (.pointer (some ⟨w.heap.size, 0, none⟩)) (.cells (Array.replicate 28 (.int .i32 0)) 123) (by as_aux_lemma => kernel_rfl) ?_
  apply wpList_nil
  refine hK0 _ _ ?_
  clear hK0
  apply wp_seq_k; intro K1 hK1
  apply wp_region_lit
  refine wpList_buildTo rfl 122 _ rfl (some 1) rfl #[.int .i32 171, .int .i32 180] (by as_aux_lemma => kernel_rfl) ?_
  refine wpList_buildTo rfl 122 _ rfl (some 2) rfl #[.int .i32 182, .int .i32 185] (by as_aux_lemma => kernel_rfl) ?_
  refine wpList_buildTo rfl 122 _ rfl (some 3) rfl #[.int .i32 187, .int .i32 191] (by as_aux_lemma => kernel_rfl) ?_
  refine wpList_buildTo rfl 122 _ rfl (some 4) rfl #[.int .i32 215, .int .i32 215] (by as_aux_lemma => kernel_rfl) ?_
  refine wpList_buildTo rfl 122 _ rfl (some 5) rfl #[.int .i32 247, .int .i32 247] (by as_aux_lemma => kernel_rfl) ?_
  refine wpList_buildTo rfl 122 _ rfl (some 6) rfl #[.int .i32 8192, .int .i32 8203] (by as_aux_lemma => kernel_rfl) ?_
  refine wpList_buildTo rfl 122 _ rfl (some 7) rfl #[.int .i32 8206, .int .i32 8303] (by as_aux_lemma => kernel_rfl) ?_
  refine wpList_buildTo rfl 122 _ rfl (some 8) rfl #[.int .i32 11776, .int .i32 11903] (by as_aux_lemma => kernel_rfl) ?_
  refine wpList_buildTo rfl 122 _ rfl (some 9) rfl #[.int .i32 12288, .int .i32 12292] (by as_aux_lemma => kernel_rfl) ?_
  refine wpList_buildTo rfl 122 _ rfl (some 10) rfl #[.int .i32 12296, .int .i32 12320] (by as_aux_lemma => kernel_rfl) ?_
  refine wpList_buildTo rfl 122 _ rfl (some 11) rfl #[.int .i32 12336, .int .i32 12336] (by as_aux_lemma => kernel_rfl) ?_
  refine wpList_buildTo rfl 122 _ rfl (some 12) rfl #[.int .i32 65072, .int .i32 65135] (by as_aux_lemma => kernel_rfl) ?_
  refine wpList_buildTo rfl 122 _ rfl (some 13) rfl #[.int .i32 65281, .int .i32 65295] (by as_aux_lemma => kernel_rfl) ?_
  refine wpList_buildTo rfl 122 _ rfl (some 14) rfl #[.int .i32 65306, .int .i32 65312] (by as_aux_lemma => kernel_rfl) ?_
  refine wpList_buildTo rfl 123 _ rfl (some 15) rfl (rgl butR) (by as_aux_lemma => kernel_rfl) ?_
  refine wpList_store_rowTo rfl 123 _ _ rfl rfl w.heap.size (rgl butR) (by as_aux_lemma => kernel_rfl) (by as_aux_lemma => kernel_rfl) 123 (Array.replicate 28 (.int .i32 0)) Array.getElem?_push_size (by as_aux_lemma => kernel_rfl) (by as_aux_lemma => kernel_rfl) (by as_aux_lemma => kernel_rfl) ?_
  apply wpList_nil
  refine hK1 _ _ ?_
  clear hK1
  rw [setRow_alloc]
  refine wp_ret (bodyPost_ret (res_arr (t := 123) (e := 122) (n := 14) (d := 0) (i := ((Tryd.prog.info? 123).getD default)) (by as_aux_lemma => kernel_rfl) (by as_aux_lemma => kernel_rfl) (by as_aux_lemma => kernel_rfl) _ w _ (by as_aux_lemma => kernel_rfl) (by as_aux_lemma => kernel_rfl)) (by as_aux_lemma => kernel_rfl) ⟨rfl, (Below.refl _ w).alloc (Nat.le_refl _) _⟩)

theorem ix14 (w : World) : ∀ (i : Nat) (p : Int × Int), butR[i]? = some p → (Instr.index 123 (.agg (rgl butR)) (.int .i64 i)).run Tryd.prog w = .ok (.agg #[.int .i32 p.1, .int .i32 p.2]) w := by
  intro i p h
  have hi : i < 14 := (List.getElem?_eq_some_iff.1 h).1
  by_cases h0 : i = 0
  · have e : ∀ w : World, (Instr.index 123 (.agg (rgl butR)) (.int .i64 0)).run Tryd.prog w = .ok (.agg #[.int .i32 171, .int .i32 180]) w := fun w => by kernel_rfl
    subst h0
    rw [← (Option.some.inj h : ((171 : Int), (180 : Int)) = p)]
    exact e w
  by_cases h1 : i = 1
  · have e : ∀ w : World, (Instr.index 123 (.agg (rgl butR)) (.int .i64 1)).run Tryd.prog w = .ok (.agg #[.int .i32 182, .int .i32 185]) w := fun w => by kernel_rfl
    subst h1
    rw [← (Option.some.inj h : ((182 : Int), (185 : Int)) = p)]
    exact e w
  by_cases h2 : i = 2
  · have e : ∀ w : World, (Instr.index 123 (.agg (rgl butR)) (.int .i64 2)).run Tryd.prog w = .ok (.agg #[.int .i32 187, .int .i32 191]) w := fun w => by kernel_rfl
    subst h2
    rw [← (Option.some.inj h : ((187 : Int), (191 : Int)) = p)]
    exact e w
  by_cases h3 : i = 3
  · have e : ∀ w : World, (Instr.index 123 (.agg (rgl butR)) (.int .i64 3)).run Tryd.prog w = .ok (.agg #[.int .i32 215, .int .i32 215]) w := fun w => by kernel_rfl
    subst h3
    rw [← (Option.some.inj h : ((215 : Int), (215 : Int)) = p)]
    exact e w
  by_cases h4 : i = 4
  · have e : ∀ w : World, (Instr.index 123 (.agg (rgl butR)) (.int .i64 4)).run Tryd.prog w = .ok (.agg #[.int .i32 247, .int .i32 247]) w := fun w => by kernel_rfl
    subst h4
    rw [← (Option.some.inj h : ((247 : Int), (247 : Int)) = p)]
    exact e w
  by_cases h5 : i = 5
  · have e : ∀ w : World, (Instr.index 123 (.agg (rgl butR)) (.int .i64 5)).run Tryd.prog w = .ok (.agg #[.int .i32 8192, .int .i32 8203]) w := fun w => by kernel_rfl
    subst h5
    rw [← (Option.some.inj h : ((8192 : Int), (8203 : Int)) = p)]
    exact e w
  by_cases h6 : i = 6
  · have e : ∀ w : World, (Instr.index 123 (.agg (rgl butR)) (.int .i64 6)).run Tryd.prog w = .ok (.agg #[.int .i32 8206, .int .i32 8303]) w := fun w => by kernel_rfl
    subst h6
    rw [← (Option.some.inj h : ((8206 : Int), (8303 : Int)) = p)]
    exact e w
  by_cases h7 : i = 7
  · have e : ∀ w : World, (Instr.index 123 (.agg (rgl butR)) (.int .i64 7)).run Tryd.prog w = .ok (.agg #[.int .i32 11776, .int .i32 11903]) w := fun w => by kernel_rfl
    subst h7
    rw [← (Option.some.inj h : ((11776 : Int), (11903 : Int)) = p)]
    exact e w
  by_cases h8 : i = 8
  · have e : ∀ w : World, (Instr.index 123 (.agg (rgl butR)) (.int .i64 8)).run Tryd.prog w = .ok (.agg #[.int .i32 12288, .int .i32 12292]) w := fun w => by kernel_rfl
    subst h8
    rw [← (Option.some.inj h : ((12288 : Int), (12292 : Int)) = p)]
    exact e w
  by_cases h9 : i = 9
  · have e : ∀ w : World, (Instr.index 123 (.agg (rgl butR)) (.int .i64 9)).run Tryd.prog w = .ok (.agg #[.int .i32 12296, .int .i32 12320]) w := fun w => by kernel_rfl
    subst h9
    rw [← (Option.some.inj h : ((12296 : Int), (12320 : Int)) = p)]
    exact e w
  by_cases h10 : i = 10
  · have e : ∀ w : World, (Instr.index 123 (.agg (rgl butR)) (.int .i64 10)).run Tryd.prog w = .ok (.agg #[.int .i32 12336, .int .i32 12336]) w := fun w => by kernel_rfl
    subst h10
    rw [← (Option.some.inj h : ((12336 : Int), (12336 : Int)) = p)]
    exact e w
  by_cases h11 : i = 11
  · have e : ∀ w : World, (Instr.index 123 (.agg (rgl butR)) (.int .i64 11)).run Tryd.prog w = .ok (.agg #[.int .i32 65072, .int .i32 65135]) w := fun w => by kernel_rfl
    subst h11
    rw [← (Option.some.inj h : ((65072 : Int), (65135 : Int)) = p)]
    exact e w
  by_cases h12 : i = 12
  · have e : ∀ w : World, (Instr.index 123 (.agg (rgl butR)) (.int .i64 12)).run Tryd.prog w = .ok (.agg #[.int .i32 65281, .int .i32 65295]) w := fun w => by kernel_rfl
    subst h12
    rw [← (Option.some.inj h : ((65281 : Int), (65295 : Int)) = p)]
    exact e w
  by_cases h13 : i = 13
  · have e : ∀ w : World, (Instr.index 123 (.agg (rgl butR)) (.int .i64 13)).run Tryd.prog w = .ok (.agg #[.int .i32 65306, .int .i32 65312]) w := fun w => by kernel_rfl
    subst h13
    rw [← (Option.some.inj h : ((65306 : Int), (65312 : Int)) = p)]
    exact e w
  omega

set_option maxRecDepth 100000 in
set_option maxHeartbeats 1000000 in
theorem out_any (c : Int) (w : World) : Calls Tryd.prog 66 #[.int .i32 c] w fun e w' => e = .returned (.bool (inR butR c)) ∧ Below w.heap.size w w' := by
  have cO := outs_any w
  have hI := ix14
  generalize rgl butR = A at cO hI
  go_enter Tryd.func66, Tryd.ntmps66
  go_wp2_with (go_at_call 86; refine cO.mono ?_; clear cO; rintro e w0 ⟨rfl, hb0⟩)
  go_loopw [6] (fun t wr => ∃ i : Nat, t = .int .i64 i ∧ i ≤ 14 ∧ (∀ j p, j < i → butR[j]? = some p → ¬ (p.1 ≤ c ∧ c ≤ p.2)) ∧ Below w.heap.size w wr) (fun t _ => 14 - (intOf t).toNat)
  case atStart => exact ⟨0, rfl, Nat.zero_le _, fun j p h => by omega, hb0⟩
  case round =>
    clear hb0
    obtain ⟨i, rfl, hi, hno, hB⟩ := hrel
    by_cases hlt : i < 14
    · obtain ⟨p, hp⟩ : ∃ p, butR[i]? = some p := ⟨butR[i]'hlt, List.getElem?_eq_getElem hlt⟩
      have hJ := hI wr i p hp
      have HB : Hid (Below w.heap.size w wr) := hB
      have HN : Hid (∀ j p, j < i → butR[j]? = some p → ¬ (p.1 ≤ c ∧ c ≤ p.2)) := hno
      have HP : Hid (butR[i]? = some p) := hp
      clear hI hB hno hp
      by_cases h1 : p.1 ≤ c
      · by_cases h2 : c ≤ p.2
        · go_wp2
          go_ret
          refine ⟨?_, HB.out.alloc HB.out.size _⟩
          refine ret_bool ?_
          symm
          unfold inR
          rw [List.any_eq_true]
          exact ⟨p, List.mem_of_getElem? HP.out, by simp [h1, h2]⟩
        · go_wp2
          exact ⟨⟨i + 1, by first | rfl | simp, by omega, fun j q hj hq => by
            by_cases e : j = i
            · subst e; rw [HP.out] at hq; cases hq; omega
            · exact HN.out j q (by omega) hq, HB.out.alloc HB.out.size _⟩, by simp [intOf]; omega⟩
      · go_wp2
        exact ⟨⟨i + 1, by first | rfl | simp, by omega, fun j q hj hq => by
          by_cases e : j = i
          · subst e; rw [HP.out] at hq; cases hq; omega
          · exact HN.out j q (by omega) hq, HB.out.alloc HB.out.size _⟩, by simp [intOf]; omega⟩
    · have : i = 14 := by omega
      subst this
      clear hI
      go_wp2
      go_ret
      refine ⟨ret_bool ?_, hB⟩
      symm
      unfold inR
      rw [List.any_eq_false]
      intro p hp
      obtain ⟨j, hj⟩ := List.mem_iff_getElem?.1 hp
      have := hno j p (List.getElem?_eq_some_iff.1 hj).1 hj
      simp only [Bool.and_eq_true, decide_eq_true_eq]
      exact this

theorem wch_lo9 {c : Int} (h : c < 170) : wch c = decide ((48 ≤ c ∧ c ≤ 57) ∨ (65 ≤ c ∧ c ≤ 90) ∨ (97 ≤ c ∧ c ≤ 122) ∨ c = 95) := by
  unfold wch
  rw [decide_eq_false (show ¬ 170 ≤ c by omega)]
  simp
theorem wch_hi9 {c : Int} (h : ¬ c < 170) : wch c = (!inR butR c && decide (cls c = 3 ∨ cls c = 4 ∨ cls c = 0)) := by
  unfold wch
  rw [decide_eq_false (show ¬ ((48 ≤ c ∧ c ≤ 57) ∨ (65 ≤ c ∧ c ≤ 90) ∨ (97 ≤ c ∧ c ≤ 122) ∨ c = 95) by omega), decide_eq_true (show 170 ≤ c by omega)]
  simp
set_option maxRecDepth 100000 in
set_option maxHeartbeats 2000000 in
theorem isword_low (c : Int) (h : c < 170) (w : World) : Calls Tryd.prog 40 #[.int .i32 c] w fun e w' => e = .returned (.bool (wch c)) ∧ Below w.heap.size w w' := by
  rw [wch_lo9 h]
  by_cases a1 : 48 ≤ c
  · by_cases a2 : c ≤ 57
    · rw [decide_eq_true (show _ by omega)]
      go_enter Tryd.func40, Tryd.ntmps40
      go_wp2
      go_ret
      exact ⟨rfl, Below.refl _ _⟩
    · by_cases a3 : 65 ≤ c
      · by_cases a4 : c ≤ 90
        · rw [decide_eq_true (show _ by omega)]
          go_enter Tryd.func40, Tryd.ntmps40
          go_wp2
          go_ret
          exact ⟨rfl, Below.refl _ _⟩
        · by_cases a5 : 97 ≤ c
          · by_cases a6 : c ≤ 122
            · rw [decide_eq_true (show _ by omega)]
              go_enter Tryd.func40, Tryd.ntmps40
              go_wp2
              go_ret
              exact ⟨rfl, Below.refl _ _⟩
            · rw [decide_eq_false (show ¬ _ by omega)]
              have a7 : (c == 95) = false := beq_eq_false_iff_ne.2 (by omega)
              go_enter Tryd.func40, Tryd.ntmps40
              go_wp2
              go_ret
              exact ⟨rfl, Below.refl _ _⟩
          · by_cases a6 : c = 95
            · subst a6
              go_enter Tryd.func40, Tryd.ntmps40
              go_wp2
              go_ret
              exact ⟨rfl, Below.refl _ _⟩
            · rw [decide_eq_false (show ¬ _ by omega)]
              have a7 : (c == 95) = false := beq_eq_false_iff_ne.2 a6
              clear a6
              go_enter Tryd.func40, Tryd.ntmps40
              go_wp2
              go_ret
              exact ⟨rfl, Below.refl _ _⟩
      · rw [decide_eq_false (show ¬ _ by omega)]
        have a5 : ¬ 97 ≤ c := by omega
        have a7 : (c == 95) = false := beq_eq_false_iff_ne.2 (by omega)
        go_enter Tryd.func40, Tryd.ntmps40
        go_wp2
        go_ret
        exact ⟨rfl, Below.refl _ _⟩
  · rw [decide_eq_false (show ¬ _ by omega)]
    have a3 : ¬ 65 ≤ c := by omega
    have a5 : ¬ 97 ≤ c := by omega
    have a7 : (c == 95) = false := beq_eq_false_iff_ne.2 (by omega)
    go_enter Tryd.func40, Tryd.ntmps40
    go_wp2
    go_ret
    exact ⟨rfl, Below.refl _ _⟩
set_option maxRecDepth 100000 in
set_option maxHeartbeats 2000000 in
theorem isword_any (c : Int) (w : World) : Calls Tryd.prog 40 #[.int .i32 c] w fun e w' => e = .returned (.bool (wch c)) ∧ Below w.heap.size w w' := by
  by_cases h : c < 170
  · exact isword_low c h w
  rw [wch_hi9 h]
  have cC := class_any c w
  have CO : Hid (∀ W, Below w.heap.size w W → Calls Tryd.prog 66 #[.int .i32 c] W fun e w' => e = .returned (.bool (inR butR c)) ∧ Below w.heap.size w w') := fun W hW => (out_any c W).mono fun e w' ⟨h1, h2⟩ => ⟨h1, hW.trans (h2.mono hW.size)⟩
  generalize inR butR c = z at CO
  generalize cls c = k at cC
  by_cases k3 : k = 3
  · subst k3
    rw [decide_eq_true (.inl rfl), Bool.and_true]
    go_enter Tryd.func40, Tryd.ntmps40
    go_wp2_with (first | (go_at_call 35; refine cC.mono ?_; clear cC; rintro e w1 ⟨rfl, hb1⟩) | (go_at_call 66; refine (CO.out _ hb1).mono ?_; clear CO; rintro e w2 ⟨rfl, hb2⟩))
    go_ret
    exact ⟨rfl, hb2⟩
  · have k3' : (k == 3) = false := beq_eq_false_iff_ne.2 k3
    by_cases k4 : k = 4
    · subst k4
      rw [decide_eq_true (.inr (.inl rfl)), Bool.and_true]
      clear k3 k3'
      go_enter Tryd.func40, Tryd.ntmps40
      go_wp2_with (first | (go_at_call 35; refine cC.mono ?_; clear cC; rintro e w1 ⟨rfl, hb1⟩) | (go_at_call 66; refine (CO.out _ hb1).mono ?_; clear CO; rintro e w2 ⟨rfl, hb2⟩))
      go_ret
      exact ⟨rfl, hb2⟩
    · have k4' : (k == 4) = false := beq_eq_false_iff_ne.2 k4
      by_cases k0 : k = 0
      · subst k0
        rw [decide_eq_true (.inr (.inr rfl)), Bool.and_true]
        clear k3 k3' k4 k4'
        go_enter Tryd.func40, Tryd.ntmps40
        go_wp2_with (first | (go_at_call 35; refine cC.mono ?_; clear cC; rintro e w1 ⟨rfl, hb1⟩) | (go_at_call 66; refine (CO.out _ hb1).mono ?_; clear CO; rintro e w2 ⟨rfl, hb2⟩))
        go_ret
        exact ⟨rfl, hb2⟩
      · have k0' : (k == 0) = false := beq_eq_false_iff_ne.2 k0
        rw [decide_eq_false (by omega), Bool.and_false]
        clear k3 k4 k0
        go_enter Tryd.func40, Tryd.ntmps40
        go_wp2_with (go_at_call 35; refine cC.mono ?_; clear cC; rintro e w1 ⟨rfl, hb1⟩)
        go_ret
        exact ⟨rfl, hb1⟩
end Go.Proofs.YtiejollfeggeoaaDoor
