/-
  Package word: letters, words ahead and behind. Conditions: those of each theorem.
-/
import Derived.Test.YtdggbnkhbmffoaaGreatDoorUWalk
import Derived.Test.YtdggbnkhbmffoaaGreatDoorPkA
import Derived.Test.YtdggbnkhbmffoaaGreatDoorPkVW
import Derived.Test.YtdggbnkhbmffoaaGreatDoorPkC
import Derived.Test.YtdggbnkhbmffoaaGreatDoorKBase
import Derived.Test.YtdggbnkhbmffoaaGreatDoorCPlaces
namespace Go.Proofs.YtdggbnkhbmffoaaGreatDoor
open Go.RowKit Bod

set_option maxRecDepth 100000 in
set_option maxHeartbeats 1000000 in
theorem at_any (s : ByteArray) (i : Int) (hs : s.size ≤ maxLen) (w : World) (hT : Lib.Utf8Tabs 1 2 w) :
    Calls Tryz.prog 53 #[.string s, .int .i64 i] w fun e w' => e = .returned (.tuple #[.agg #[.int .i32 (atC s i), .int .i64 (atS s i)], .bool (atB s i)]) ∧ Below w.heap.size w w' := by
  have hs' := hs
  unfold maxLen at hs
  have hT1 : ∀ o, Lib.Utf8Tabs 1 2 (w.alloc o) := fun o => tabs_below hT ((Below.refl _ w).alloc (Nat.le_refl _) o)
  have fin : ∀ (w' : World) (a b : Value), Below (w.heap.size + 1) (w.alloc (.cells #[.int .i32 0, .int .i64 0] 83)) w' → Below w.heap.size w ((w'.setCell ⟨w.heap.size, 0, none⟩ a).setCell ⟨w.heap.size, 1, none⟩ b) := fun w' a b hb =>
    ((((Below.refl _ w).alloc (Nat.le_refl _) _).trans (hb.mono (by omega))).setCell (Nat.le_refl _) _).setCell (Nat.le_refl _) _
  by_cases h1 : (s.size : Int) ≤ i
  · have hB1 : atB s i = false := by unfold atB; rw [decide_eq_false (by omega), Bool.and_false]
    have e1 : atC s i = 0 := by unfold atC; rw [hB1]; rfl
    have e2 : atS s i = 0 := by unfold atS; rw [hB1]; rfl
    rw [hB1, e1, e2]
    clear hB1 e1 e2
    go_enter Tryz.func53, Tryz.ntmps53
    go_wp2
    exact bodyPost_ret (v := .tuple #[.agg #[.int .i32 0, .int .i64 0], .bool false]) (by simp [results, Tryz.results53, go_sem]) rfl ⟨rfl, (Below.refl _ w).alloc (Nat.le_refl _) _⟩
  · have cB : ∀ o, Calls Tryz.prog 52 #[.string s, .int .i64 i] (w.alloc o) fun e w' => e = .returned (.bool (bdZ s i)) ∧ Below (w.alloc o).heap.size (w.alloc o) w' := fun o => bound_any s i hs' (w.alloc o) (hT1 o)
    have hB0 : atB s i = bdZ s i := by unfold atB; rw [decide_eq_true (by omega), Bool.and_true]
    cases hb : bdZ s i with
    | false =>
      rw [hb] at hB0 cB
      have e1 : atC s i = 0 := by unfold atC; rw [hB0]; rfl
      have e2 : atS s i = 0 := by unfold atS; rw [hB0]; rfl
      rw [hB0, e1, e2]
      clear hB0 e1 e2
      go_enter Tryz.func53, Tryz.ntmps53
      go_wp2_with (go_at_call 52; refine (cB _).mono ?_; clear cB; rintro e w' ⟨rfl, hb⟩; obtain ⟨hc, hf⟩ := bcell hb; have hz : w.heap.size < w'.heap.size := by have := hb.size; simp at this; omega)
      exact bodyPost_ret (v := .tuple #[.agg #[.int .i32 0, .int .i64 0], .bool false]) (by simp [results, Tryz.results53, go_sem, hc]) rfl ⟨rfl, fin _ _ _ (by simpa using hb)⟩
    | true =>
      have h0 : 0 ≤ i := by
        by_cases c : i < 0
        · rw [bdZ_out s i (.inl c)] at hb; cases hb
        · omega
      obtain ⟨k, rfl⟩ := Int.eq_ofNat_of_zero_le h0
      rw [hb] at hB0 cB
      have e1 : atC s k = ch s k := by unfold atC; rw [if_pos hB0]; rfl
      have e2 : atS s k = sz s k := by unfold atS; rw [if_pos hB0]; rfl
      rw [hB0, e1, e2]
      clear hB0 e1 e2
      have cR : ∀ W : World, Below (w.alloc (.cells #[.int .i32 0, .int .i64 0] 83)).heap.size (w.alloc (.cells #[.int .i32 0, .int .i64 0] 83)) W → Calls Tryz.prog 91 #[.string s, .int .i64 k] W fun e w' => e = .returned (.agg #[.int .i32 (ch s k), .int .i64 (sz s k)]) ∧ Below W.heap.size W w' := fun W h => read_any s k hs' (by omega) W (tabs_below (hT1 _) h)
      go_enter Tryz.func53, Tryz.ntmps53
      go_wp2_with (first | (go_at_call 52; refine (cB _).mono ?_; clear cB; rintro e w1 ⟨rfl, hb1⟩; have HB : Hid (Below (w.alloc (.cells #[.int .i32 0, .int .i64 0] 83)).heap.size (w.alloc (.cells #[.int .i32 0, .int .i64 0] 83)) w1) := hb1; clear hb1) | (go_at_call 91; refine (cR _ HB.out).mono ?_; clear cR; rintro e w2 ⟨rfl, hb2⟩; have hb := HB.out.trans (hb2.mono HB.out.size); clear hb2; obtain ⟨hc, hf⟩ := bcell hb; have hz : w.heap.size < w2.heap.size := by have := hb.size; simp at this; omega))
      exact bodyPost_ret (v := .tuple #[.agg #[.int .i32 (ch s k), .int .i64 (sz s k)], .bool true]) (by simp [results, Tryz.results53, go_sem, hc]) rfl ⟨rfl, fin _ _ _ (by simpa using hb)⟩
end Go.Proofs.YtdggbnkhbmffoaaGreatDoor
namespace Go.Proofs.YtdggbnkhbmffoaaGreatDoor
open Go.RowKit Go.Great Wid

def rgl (l : List (Int × Int)) : Array Value := (l.flatMap fun p => [Value.int .i32 p.1, .int .i32 p.2]).toArray

set_option maxRecDepth 100000 in
set_option maxHeartbeats 2000000 in
theorem outs_any (w : World) : Calls Tryz.prog 140 #[] w fun e w' => e = .returned (.agg (rgl butR)) ∧ Below w.heap.size w w' := by
  refine calls_of_wp Tryz.func140 rfl ?_
  apply wp_seq_k; intro K0 hK0
  apply wp_region_lit
  refine wpList_allocTo rfl (some 0) rfl (.pointer (some ⟨w.heap.size, 0, none⟩)) (.cells (Array.replicate 28 (.int .i32 0)) 162) (by as_aux_lemma => kernel_rfl) ?_
  apply wpList_nil
  refine hK0 _ _ ?_
  clear hK0
  apply wp_seq_k; intro K1 hK1
  apply wp_region_lit
  refine wpList_buildTo rfl 145 _ rfl (some 1) rfl #[.int .i32 171, .int .i32 180] (by as_aux_lemma => kernel_rfl) ?_
  refine wpList_buildTo rfl 145 _ rfl (some 2) rfl #[.int .i32 182, .int .i32 185] (by as_aux_lemma => kernel_rfl) ?_
  refine wpList_buildTo rfl 145 _ rfl (some 3) rfl #[.int .i32 187, .int .i32 191] (by as_aux_lemma => kernel_rfl) ?_
  refine wpList_buildTo rfl 145 _ rfl (some 4) rfl #[.int .i32 215, .int .i32 215] (by as_aux_lemma => kernel_rfl) ?_
  refine wpList_buildTo rfl 145 _ rfl (some 5) rfl #[.int .i32 247, .int .i32 247] (by as_aux_lemma => kernel_rfl) ?_
  refine wpList_buildTo rfl 145 _ rfl (some 6) rfl #[.int .i32 8192, .int .i32 8203] (by as_aux_lemma => kernel_rfl) ?_
  refine wpList_buildTo rfl 145 _ rfl (some 7) rfl #[.int .i32 8206, .int .i32 8303] (by as_aux_lemma => kernel_rfl) ?_
  refine wpList_buildTo rfl 145 _ rfl (some 8) rfl #[.int .i32 11776, .int .i32 11903] (by as_aux_lemma => kernel_rfl) ?_
  refine wpList_buildTo rfl 145 _ rfl (some 9) rfl #[.int .i32 12288, .int .i32 12292] (by as_aux_lemma => kernel_rfl) ?_
  refine wpList_buildTo rfl 145 _ rfl (some 10) rfl #[.int .i32 12296, .int .i32 12320] (by as_aux_lemma => kernel_rfl) ?_
  refine wpList_buildTo rfl 145 _ rfl (some 11) rfl #[.int .i32 12336, .int .i32 12336] (by as_aux_lemma => kernel_rfl) ?_
  refine wpList_buildTo rfl 145 _ rfl (some 12) rfl #[.int .i32 65072, .int .i32 65135] (by as_aux_lemma => kernel_rfl) ?_
  refine wpList_buildTo rfl 145 _ rfl (some 13) rfl #[.int .i32 65281, .int .i32 65295] (by as_aux_lemma => kernel_rfl) ?_
  refine wpList_buildTo rfl 145 _ rfl (some 14) rfl #[.int .i32 65306, .int .i32 65312] (by as_aux_lemma => kernel_rfl) ?_
  refine wpList_buildTo rfl 162 _ rfl (some 15) rfl (rgl butR) (by as_aux_lemma => kernel_rfl) ?_
  refine wpList_store_rowTo rfl 162 _ _ rfl rfl w.heap.size (rgl butR) (by as_aux_lemma => kernel_rfl) (by as_aux_lemma => kernel_rfl) 162 (Array.replicate 28 (.int .i32 0)) Array.getElem?_push_size (by as_aux_lemma => kernel_rfl) (by as_aux_lemma => kernel_rfl) (by as_aux_lemma => kernel_rfl) ?_
  apply wpList_nil
  refine hK1 _ _ ?_
  clear hK1
  rw [setRow_alloc]
  refine wp_ret (bodyPost_ret (res_arr (t := 162) (e := 145) (n := 14) (d := 0) (i := ((Tryz.prog.info? 162).getD default)) (by as_aux_lemma => kernel_rfl) (by as_aux_lemma => kernel_rfl) (by as_aux_lemma => kernel_rfl) _ w _ (by as_aux_lemma => kernel_rfl) (by as_aux_lemma => kernel_rfl)) (by as_aux_lemma => kernel_rfl) ⟨rfl, (Below.refl _ w).alloc (Nat.le_refl _) _⟩)

theorem ix14 (w : World) : ∀ (i : Nat) (p : Int × Int), butR[i]? = some p → (Instr.index 162 (.agg (rgl butR)) (.int .i64 i)).run Tryz.prog w = .ok (.agg #[.int .i32 p.1, .int .i32 p.2]) w := by
  intro i p h
  have hi : i < 14 := (List.getElem?_eq_some_iff.1 h).1
  by_cases h0 : i = 0
  · have e : ∀ w : World, (Instr.index 162 (.agg (rgl butR)) (.int .i64 0)).run Tryz.prog w = .ok (.agg #[.int .i32 171, .int .i32 180]) w := fun w => by kernel_rfl
    subst h0
    rw [← (Option.some.inj h : ((171 : Int), (180 : Int)) = p)]
    exact e w
  by_cases h1 : i = 1
  · have e : ∀ w : World, (Instr.index 162 (.agg (rgl butR)) (.int .i64 1)).run Tryz.prog w = .ok (.agg #[.int .i32 182, .int .i32 185]) w := fun w => by kernel_rfl
    subst h1
    rw [← (Option.some.inj h : ((182 : Int), (185 : Int)) = p)]
    exact e w
  by_cases h2 : i = 2
  · have e : ∀ w : World, (Instr.index 162 (.agg (rgl butR)) (.int .i64 2)).run Tryz.prog w = .ok (.agg #[.int .i32 187, .int .i32 191]) w := fun w => by kernel_rfl
    subst h2
    rw [← (Option.some.inj h : ((187 : Int), (191 : Int)) = p)]
    exact e w
  by_cases h3 : i = 3
  · have e : ∀ w : World, (Instr.index 162 (.agg (rgl butR)) (.int .i64 3)).run Tryz.prog w = .ok (.agg #[.int .i32 215, .int .i32 215]) w := fun w => by kernel_rfl
    subst h3
    rw [← (Option.some.inj h : ((215 : Int), (215 : Int)) = p)]
    exact e w
  by_cases h4 : i = 4
  · have e : ∀ w : World, (Instr.index 162 (.agg (rgl butR)) (.int .i64 4)).run Tryz.prog w = .ok (.agg #[.int .i32 247, .int .i32 247]) w := fun w => by kernel_rfl
    subst h4
    rw [← (Option.some.inj h : ((247 : Int), (247 : Int)) = p)]
    exact e w
  by_cases h5 : i = 5
  · have e : ∀ w : World, (Instr.index 162 (.agg (rgl butR)) (.int .i64 5)).run Tryz.prog w = .ok (.agg #[.int .i32 8192, .int .i32 8203]) w := fun w => by kernel_rfl
    subst h5
    rw [← (Option.some.inj h : ((8192 : Int), (8203 : Int)) = p)]
    exact e w
  by_cases h6 : i = 6
  · have e : ∀ w : World, (Instr.index 162 (.agg (rgl butR)) (.int .i64 6)).run Tryz.prog w = .ok (.agg #[.int .i32 8206, .int .i32 8303]) w := fun w => by kernel_rfl
    subst h6
    rw [← (Option.some.inj h : ((8206 : Int), (8303 : Int)) = p)]
    exact e w
  by_cases h7 : i = 7
  · have e : ∀ w : World, (Instr.index 162 (.agg (rgl butR)) (.int .i64 7)).run Tryz.prog w = .ok (.agg #[.int .i32 11776, .int .i32 11903]) w := fun w => by kernel_rfl
    subst h7
    rw [← (Option.some.inj h : ((11776 : Int), (11903 : Int)) = p)]
    exact e w
  by_cases h8 : i = 8
  · have e : ∀ w : World, (Instr.index 162 (.agg (rgl butR)) (.int .i64 8)).run Tryz.prog w = .ok (.agg #[.int .i32 12288, .int .i32 12292]) w := fun w => by kernel_rfl
    subst h8
    rw [← (Option.some.inj h : ((12288 : Int), (12292 : Int)) = p)]
    exact e w
  by_cases h9 : i = 9
  · have e : ∀ w : World, (Instr.index 162 (.agg (rgl butR)) (.int .i64 9)).run Tryz.prog w = .ok (.agg #[.int .i32 12296, .int .i32 12320]) w := fun w => by kernel_rfl
    subst h9
    rw [← (Option.some.inj h : ((12296 : Int), (12320 : Int)) = p)]
    exact e w
  by_cases h10 : i = 10
  · have e : ∀ w : World, (Instr.index 162 (.agg (rgl butR)) (.int .i64 10)).run Tryz.prog w = .ok (.agg #[.int .i32 12336, .int .i32 12336]) w := fun w => by kernel_rfl
    subst h10
    rw [← (Option.some.inj h : ((12336 : Int), (12336 : Int)) = p)]
    exact e w
  by_cases h11 : i = 11
  · have e : ∀ w : World, (Instr.index 162 (.agg (rgl butR)) (.int .i64 11)).run Tryz.prog w = .ok (.agg #[.int .i32 65072, .int .i32 65135]) w := fun w => by kernel_rfl
    subst h11
    rw [← (Option.some.inj h : ((65072 : Int), (65135 : Int)) = p)]
    exact e w
  by_cases h12 : i = 12
  · have e : ∀ w : World, (Instr.index 162 (.agg (rgl butR)) (.int .i64 12)).run Tryz.prog w = .ok (.agg #[.int .i32 65281, .int .i32 65295]) w := fun w => by kernel_rfl
    subst h12
    rw [← (Option.some.inj h : ((65281 : Int), (65295 : Int)) = p)]
    exact e w
  by_cases h13 : i = 13
  · have e : ∀ w : World, (Instr.index 162 (.agg (rgl butR)) (.int .i64 13)).run Tryz.prog w = .ok (.agg #[.int .i32 65306, .int .i32 65312]) w := fun w => by kernel_rfl
    subst h13
    rw [← (Option.some.inj h : ((65306 : Int), (65312 : Int)) = p)]
    exact e w
  omega

set_option maxRecDepth 100000 in
set_option maxHeartbeats 1000000 in
theorem out_any (c : Int) (w : World) : Calls Tryz.prog 127 #[.int .i32 c] w fun e w' => e = .returned (.bool (inR butR c)) ∧ Below w.heap.size w w' := by
  have cO := outs_any w
  have hI := ix14
  generalize rgl butR = A at cO hI
  go_enter Tryz.func127, Tryz.ntmps127
  go_wp2_with (go_at_call 140; refine cO.mono ?_; clear cO; rintro e w0 ⟨rfl, hb0⟩)
  go_loopw [6] (fun t wr => ∃ i : Nat, t = .int .i64 i ∧ i ≤ 14 ∧ (∀ j p, j < i → butR[j]? = some p → ¬ (p.1 ≤ c ∧ c ≤ p.2)) ∧ Below w.heap.size w wr) (fun t _ => 14 - (intOf t).toNat)
  case atStart => exact ⟨0, rfl, Nat.zero_le _, fun j p h => by omega, hb0⟩
  case round =>
    clear hb0
    obtain ⟨i, rfl, hi, hno, hB⟩ := hrel
    by_cases hlt : i < 14
    · obtain ⟨p, hp⟩ : ∃ p, butR[i]? = some p := ⟨butR[i]'hlt, List.getElem?_eq_getElem hlt⟩
      have hJ := hI wr i p hp
      have HB : Hid (Below w.heap.size w wr) := hB
      have HN : Hid (∀ j p, j < i → butR[j]? = some p → ¬ (p.1 ≤ c ∧ c ≤ p.2)) := hno
      have HP : Hid (butR[i]? = some p) := hp
      clear hI hB hno hp
      by_cases h1 : p.1 ≤ c
      · by_cases h2 : c ≤ p.2
        · go_wp2
          go_ret
          refine ⟨?_, HB.out.alloc HB.out.size _⟩
          refine ret_bool ?_
          symm
          unfold inR
          rw [List.any_eq_true]
          exact ⟨p, List.mem_of_getElem? HP.out, by simp [h1, h2]⟩
        · go_wp2
          exact ⟨⟨i + 1, by first | rfl | simp, by omega, fun j q hj hq => by
            by_cases e : j = i
            · subst e; rw [HP.out] at hq; cases hq; omega
            · exact HN.out j q (by omega) hq, HB.out.alloc HB.out.size _⟩, by simp [intOf]; omega⟩
      · go_wp2
        exact ⟨⟨i + 1, by first | rfl | simp, by omega, fun j q hj hq => by
          by_cases e : j = i
          · subst e; rw [HP.out] at hq; cases hq; omega
          · exact HN.out j q (by omega) hq, HB.out.alloc HB.out.size _⟩, by simp [intOf]; omega⟩
    · have : i = 14 := by omega
      subst this
      clear hI
      go_wp2
      go_ret
      refine ⟨ret_bool ?_, hB⟩
      symm
      unfold inR
      rw [List.any_eq_false]
      intro p hp
      obtain ⟨j, hj⟩ := List.mem_iff_getElem?.1 hp
      have := hno j p (List.getElem?_eq_some_iff.1 hj).1 hj
      simp only [Bool.and_eq_true, decide_eq_true_eq]
      exact this

theorem wch_lo9 {c : Int} (h : c < 170) : wch c = decide ((48 ≤ c ∧ c ≤ 57) ∨ (65 ≤ c ∧ c ≤ 90) ∨ (97 ≤ c ∧ c ≤ 122) ∨ c = 95) := by
  unfold wch
  rw [decide_eq_false (show ¬ 170 ≤ c by omega)]
  simp
theorem wch_hi9 {c : Int} (h : ¬ c < 170) : wch c = (!inR butR c && decide (cls c = 3 ∨ cls c = 4 ∨ cls c = 0)) := by
  unfold wch
  rw [decide_eq_false (show ¬ ((48 ≤ c ∧ c ≤ 57) ∨ (65 ≤ c ∧ c ≤ 90) ∨ (97 ≤ c ∧ c ≤ 122) ∨ c = 95) by omega), decide_eq_true (show 170 ≤ c by omega)]
  simp
set_option maxRecDepth 100000 in
set_option maxHeartbeats 2000000 in
theorem isword_low (c : Int) (h : c < 170) (w : World) : Calls Tryz.prog 104 #[.int .i32 c] w fun e w' => e = .returned (.bool (wch c)) ∧ Below w.heap.size w w' := by
  rw [wch_lo9 h]
  by_cases a1 : 48 ≤ c
  · by_cases a2 : c ≤ 57
    · rw [decide_eq_true (show _ by omega)]
      go_enter Tryz.func104, Tryz.ntmps104
      go_wp2
      go_ret
      exact ⟨rfl, Below.refl _ _⟩
    · by_cases a3 : 65 ≤ c
      · by_cases a4 : c ≤ 90
        · rw [decide_eq_true (show _ by omega)]
          go_enter Tryz.func104, Tryz.ntmps104
          go_wp2
          go_ret
          exact ⟨rfl, Below.refl _ _⟩
        · by_cases a5 : 97 ≤ c
          · by_cases a6 : c ≤ 122
            · rw [decide_eq_true (show _ by omega)]
              go_enter Tryz.func104, Tryz.ntmps104
              go_wp2
              go_ret
              exact ⟨rfl, Below.refl _ _⟩
            · rw [decide_eq_false (show ¬ _ by omega)]
              have a7 : (c == 95) = false := beq_eq_false_iff_ne.2 (by omega)
              go_enter Tryz.func104, Tryz.ntmps104
              go_wp2
              go_ret
              exact ⟨rfl, Below.refl _ _⟩
          · by_cases a6 : c = 95
            · subst a6
              go_enter Tryz.func104, Tryz.ntmps104
              go_wp2
              go_ret
              exact ⟨rfl, Below.refl _ _⟩
            · rw [decide_eq_false (show ¬ _ by omega)]
              have a7 : (c == 95) = false := beq_eq_false_iff_ne.2 a6
              clear a6
              go_enter Tryz.func104, Tryz.ntmps104
              go_wp2
              go_ret
              exact ⟨rfl, Below.refl _ _⟩
      · rw [decide_eq_false (show ¬ _ by omega)]
        have a5 : ¬ 97 ≤ c := by omega
        have a7 : (c == 95) = false := beq_eq_false_iff_ne.2 (by omega)
        go_enter Tryz.func104, Tryz.ntmps104
        go_wp2
        go_ret
        exact ⟨rfl, Below.refl _ _⟩
  · rw [decide_eq_false (show ¬ _ by omega)]
    have a3 : ¬ 65 ≤ c := by omega
    have a5 : ¬ 97 ≤ c := by omega
    have a7 : (c == 95) = false := beq_eq_false_iff_ne.2 (by omega)
    go_enter Tryz.func104, Tryz.ntmps104
    go_wp2
    go_ret
    exact ⟨rfl, Below.refl _ _⟩
set_option maxRecDepth 100000 in
set_option maxHeartbeats 2000000 in
theorem isword_any (c : Int) (w : World) : Calls Tryz.prog 104 #[.int .i32 c] w fun e w' => e = .returned (.bool (wch c)) ∧ Below w.heap.size w w' := by
  by_cases h : c < 170
  · exact isword_low c h w
  rw [wch_hi9 h]
  have cC := class_any c w
  have CO : Hid (∀ W, Below w.heap.size w W → Calls Tryz.prog 127 #[.int .i32 c] W fun e w' => e = .returned (.bool (inR butR c)) ∧ Below w.heap.size w w') := fun W hW => (out_any c W).mono fun e w' ⟨h1, h2⟩ => ⟨h1, hW.trans (h2.mono hW.size)⟩
  generalize inR butR c = z at CO
  generalize cls c = k at cC
  by_cases k3 : k = 3
  · subst k3
    rw [decide_eq_true (.inl rfl), Bool.and_true]
    go_enter Tryz.func104, Tryz.ntmps104
    go_wp2_with (first | (go_at_call 92; refine cC.mono ?_; clear cC; rintro e w1 ⟨rfl, hb1⟩) | (go_at_call 127; refine (CO.out _ hb1).mono ?_; clear CO; rintro e w2 ⟨rfl, hb2⟩))
    go_ret
    exact ⟨rfl, hb2⟩
  · have k3' : (k == 3) = false := beq_eq_false_iff_ne.2 k3
    by_cases k4 : k = 4
    · subst k4
      rw [decide_eq_true (.inr (.inl rfl)), Bool.and_true]
      clear k3 k3'
      go_enter Tryz.func104, Tryz.ntmps104
      go_wp2_with (first | (go_at_call 92; refine cC.mono ?_; clear cC; rintro e w1 ⟨rfl, hb1⟩) | (go_at_call 127; refine (CO.out _ hb1).mono ?_; clear CO; rintro e w2 ⟨rfl, hb2⟩))
      go_ret
      exact ⟨rfl, hb2⟩
    · have k4' : (k == 4) = false := beq_eq_false_iff_ne.2 k4
      by_cases k0 : k = 0
      · subst k0
        rw [decide_eq_true (.inr (.inr rfl)), Bool.and_true]
        clear k3 k3' k4 k4'
        go_enter Tryz.func104, Tryz.ntmps104
        go_wp2_with (first | (go_at_call 92; refine cC.mono ?_; clear cC; rintro e w1 ⟨rfl, hb1⟩) | (go_at_call 127; refine (CO.out _ hb1).mono ?_; clear CO; rintro e w2 ⟨rfl, hb2⟩))
        go_ret
        exact ⟨rfl, hb2⟩
      · have k0' : (k == 0) = false := beq_eq_false_iff_ne.2 k0
        rw [decide_eq_false (by omega), Bool.and_false]
        clear k3 k4 k0
        go_enter Tryz.func104, Tryz.ntmps104
        go_wp2_with (go_at_call 92; refine cC.mono ?_; clear cC; rintro e w1 ⟨rfl, hb1⟩)
        go_ret
        exact ⟨rfl, hb1⟩
end Go.Proofs.YtdggbnkhbmffoaaGreatDoor
namespace Go.Proofs.YtdggbnkhbmffoaaGreatDoor
open Go.RowKit Bod Wid

set_option maxRecDepth 100000 in
set_option maxHeartbeats 1000000 in
theorem wbegins_all (s : ByteArray) (i : Int) (hs : s.size ≤ maxLen) (w : World) (hT : Lib.Utf8Tabs 1 2 w) :
    Calls Tryz.prog 77 #[.string s, .int .i64 i] w fun e w' => e = .returned (.bool (atB s i && wch (atC s i))) ∧ Below w.heap.size w w' := by
  have cA := at_any s i hs w hT
  have CW : Hid (∀ c W, Below w.heap.size w W → Calls Tryz.prog 104 #[.int .i32 c] W fun e w' => e = .returned (.bool (wch c)) ∧ Below w.heap.size w w') := fun c W hW => (isword_any c W).mono fun e w' ⟨h1, h2⟩ => ⟨h1, hW.trans (h2.mono hW.size)⟩
  generalize atC s i = c at cA ⊢
  generalize atS s i = z at cA
  cases hb : atB s i with
  | true =>
    rw [hb] at cA
    rw [Bool.true_and]
    go_enter Tryz.func77, Tryz.ntmps77
    go_wp2_with (first | (go_at_call 53; refine cA.mono ?_; clear cA; rintro e w1 ⟨rfl, hb1⟩; have HA : Hid (Below w.heap.size w (w1.alloc (.cells #[.int .i32 c, .int .i64 z] 83))) := hb1.alloc hb1.size _) | (go_at_call 104; refine (CW.out _ _ HA.out).mono ?_; clear CW; rintro e w2 ⟨rfl, hb2⟩))
    go_ret
    exact ⟨rfl, hb2⟩
  | false =>
    rw [hb] at cA
    rw [Bool.false_and]
    go_enter Tryz.func77, Tryz.ntmps77
    go_wp2_with (go_at_call 53; refine cA.mono ?_; clear cA; rintro e w1 ⟨rfl, hb1⟩)
    go_ret
    exact ⟨rfl, hb1.alloc hb1.size _⟩
theorem atB_B {s : ByteArray} {a : Nat} (h : B s a) : (atB s a && wch (atC s a)) = wat s a := by
  unfold atC atB wat
  rw [bd_B h]
  by_cases ha : a < s.size
  · rw [decide_eq_true ha, decide_eq_true (show (a : Int) < s.size by omega)]; rfl
  · rw [decide_eq_false ha, decide_eq_false (show ¬ (a : Int) < s.size by omega)]; rfl
theorem wbegins_any (s : ByteArray) (a : Nat) (hs : s.size ≤ maxLen) (hc : cbZ s a = true) (w : World) (hT : Lib.Utf8Tabs 1 2 w) :
    Calls Tryz.prog 77 #[.string s, .int .i64 a] w fun e w' => e = .returned (.bool (wat s a)) ∧ Below w.heap.size w w' := by
  obtain ⟨m, e, hB⟩ := cb_B hc
  have : a = m := by omega
  subst this
  have := wbegins_all s a hs w hT
  rwa [atB_B hB] at this
/-- an offset as it counts -/
def heldN (s : ByteArray) (i : Int) : Nat := (min (max i 0) s.size).toNat
theorem held_eq (s : ByteArray) (i : Int) : ((heldN s i : Nat) : Int) = min (max i 0) s.size := by unfold heldN; omega
theorem held_le (s : ByteArray) (i : Int) : heldN s i ≤ s.size := by have := held_eq s i; omega
set_option maxRecDepth 100000 in
set_option maxHeartbeats 1000000 in
theorem wheld_any (s : ByteArray) (i : Int) (w : World) : Calls Tryz.prog 76 #[.string s, .int .i64 i] w fun e w' => e = .returned (.int .i64 (heldN s i)) ∧ w = w' := by
  rw [held_eq]
  go_enter Tryz.func76, Tryz.ntmps76
  go_wp2
  go_ret
  exact ⟨rfl, rfl⟩

set_option maxRecDepth 100000 in
set_option maxHeartbeats 2000000 in
/-- the two loops of Ahead, from a boundary on -/
theorem ahead_any (s : ByteArray) (i : Int) (hs : s.size ≤ maxLen) (w : World) (hT : Lib.Utf8Tabs 1 2 w) :
    Calls Tryz.prog 40 #[.string s, .int .i64 i] w fun e w' => e = .returned (.int .i64 (aheadW (words s) s.size (heldN s i))) ∧ Below w.heap.size w w' := by
  have hs' := hs
  unfold maxLen at hs
  have cH := wheld_any s i w
  have hle := held_le s i
  generalize heldN s i = a0 at cH hle ⊢
  have CB : Hid (∀ W, Below w.heap.size w W → Calls Tryz.prog 25 #[.string s, .int .i64 a0] W fun e w' => e = .returned (.bool (cbZ s a0)) ∧ Below w.heap.size w w') := fun W hW => (cbound_any s a0 hs' W (tabs_below hT hW) (by omega)).mono fun e w' ⟨h1, h2⟩ => ⟨h1, hW.trans (h2.mono hW.size)⟩
  have CP : Hid (∀ W, Below w.heap.size w W → Calls Tryz.prog 38 #[.string s, .int .i64 a0] W fun e w' => ∃ m : Nat, e = .returned (.int .i64 m) ∧ IsPrev s a0 m ∧ Below w.heap.size w w') := fun W hW => (cprev_any s a0 hs' W (tabs_below hT hW) (by omega)).mono fun e w' ⟨m, h1, h3, h2⟩ => ⟨m, h1, h3, hW.trans (h2.mono hW.size)⟩
  have CE : Hid (∀ (a : Nat) W, cbZ s a = true → Below w.heap.size w W → Calls Tryz.prog 77 #[.string s, .int .i64 a] W fun e w' => e = .returned (.bool (wat s a)) ∧ Below w.heap.size w w') := fun a W hc hW => (wbegins_any s a hs' hc W (tabs_below hT hW)).mono fun e w' ⟨h1, h2⟩ => ⟨h1, hW.trans (h2.mono hW.size)⟩
  have CN : Hid (∀ (a m : Nat) W, IsNext s a m → Below w.heap.size w W → Calls Tryz.prog 26 #[.string s, .int .i64 a] W fun e w' => e = .returned (.int .i64 m) ∧ Below w.heap.size w w') := fun a m W hn hW => (cnext_any s a hs' W (tabs_below hT hW)).mono fun e w' ⟨m', h1, h3, h2⟩ => ⟨by rw [h1, h3.uniq hn], hW.trans (h2.mono hW.size)⟩
  have HS : Hid (cbZ s a0 = true → ∃ pre post, Fr s a0 pre post ∧ firstW s post = aheadW (words s) s.size a0) := fun hc => by
    obtain ⟨pre, post, hf⟩ := fr_of hc
    exact ⟨pre, post, hf, (ahead_first hf).symm⟩
  have HP : Hid (∀ m : Nat, cbZ s a0 = false → IsPrev s a0 m → ∃ pre post, Fr s m pre post ∧ firstW s post = aheadW (words s) s.size a0) := fun m hc hp => by
    obtain ⟨pre, post, hf⟩ := fr_of hp.cb
    exact ⟨pre, post, hf, by rw [ahead_in hc hp]; exact (ahead_first hf).symm⟩
  generalize aheadW (words s) s.size a0 = V at HS HP ⊢
  cases hc : cbZ s a0 with
  | true =>
    rw [hc] at CB
    obtain ⟨pre0, post0, hf0, hv0⟩ := HS.out hc
    have HF0 : Hid (Fr s a0 pre0 post0) := hf0
    have HV0 : Hid (firstW s post0 = V) := hv0
    clear HS HP CP hc hf0 hv0
    go_enter Tryz.func40, Tryz.ntmps40
    go_wp2_with (first | (go_at_call 76; refine cH.mono ?_; clear cH; rintro e w0 ⟨rfl, rfl⟩) | (go_at_call 25; refine (CB.out _ (Below.refl _ _)).mono ?_; clear CB; rintro e w1 ⟨rfl, hb1⟩))
    go_loopw [1] (fun t wr => ∃ (a : Nat) (pre post : List Clu), t = .int .i64 a ∧ Fr s a pre post ∧ firstW s post = V ∧ Below w.heap.size w wr) (fun t _ => s.size - (intOf t).toNat)
    case atStart => exact ⟨a0, pre0, post0, rfl, HF0.out, HV0.out, hb1⟩
    case round =>
      obtain ⟨a, pre, post, rfl, hf, hv, hB⟩ := hrel
      have hcb := hf.cb
      cases post with
      | nil =>
          have hge : ¬ ((a : Int) < s.size) := by have := hf.done.1; omega
          have HF : Hid (Fr s a pre []) := hf
          have HV2 : Hid (lastTo (wcl s) a [] = V) := by rw [← hv]; exact (first_nil s a hf.done.1).symm
          clear hf hv
          go_wp2
          go_loopw [1] (fun t wr => ∃ (a : Nat) (pre post : List Clu), t = .int .i64 a ∧ Fr s a pre post ∧ lastTo (wcl s) a post = V ∧ Below w.heap.size w wr) (fun t _ => s.size - (intOf t).toNat)
          case atStart => exact ⟨a, pre, [], rfl, HF.out, HV2.out, hB⟩
          case round =>
            clear HF HV2
            obtain ⟨b, pre2, post2, rfl, hf2, hv2, hB2⟩ := hrel
            have hcb2 := hf2.cb
            cases post2 with
            | nil =>
              have cE := CE.out b wr hcb2.1 hB2
              rw [hf2.done.2] at cE
              have HU : Hid (b = V) := hv2
              clear hf2 hv2 CE CN
              go_wp2_with (go_at_call 77; refine cE.mono ?_; clear cE; rintro e w2 ⟨rfl, hb2⟩)
              go_ret
              exact ⟨ret_int (by rw [HU.out]), hb2⟩
            | cons d r2 =>
              obtain ⟨n1, n2, n3, n4, n5⟩ := hf2.next
              have cE := CE.out b wr hcb2.1 hB2
              rw [n5] at cE
              cases hw2 : wcl s d with
              | false =>
                rw [hw2] at cE
                have HU : Hid (b = V) := by show b = V; rw [← hv2]; simp [lastTo, hw2]
                clear hf2 hv2 CE CN n1 n2
                go_wp2_with (go_at_call 77; refine cE.mono ?_; clear cE; rintro e w2 ⟨rfl, hb2⟩)
                go_ret
                exact ⟨ret_int (by rw [HU.out]), hb2⟩
              | true =>
                rw [hw2] at cE
                have HF2 : Hid (Fr s d.to (pre2 ++ [d]) r2) := n2
                have HU : Hid (lastTo (wcl s) d.to r2 = V) := by show _ = V; rw [← hv2]; simp [lastTo, hw2]
                have CM : Hid (∀ W, Below w.heap.size w W → Calls Tryz.prog 26 #[.string s, .int .i64 b] W fun e w' => e = .returned (.int .i64 d.to) ∧ Below w.heap.size w w') := fun W hW => CN.out b d.to W n1 hW
                clear hf2 hv2 CE CN n1 n2 hw2
                go_wp2_with (first | (go_at_call 77; refine cE.mono ?_; clear cE; rintro e w2 ⟨rfl, hb2⟩) | (go_at_call 26; refine (CM.out _ hb2).mono ?_; clear CM; rintro e w3 ⟨rfl, hb3⟩))
                exact ⟨⟨d.to, pre2 ++ [d], r2, rfl, HF2.out, HU.out, hb3⟩, by simp [intOf]; omega⟩
      | cons c r =>
          obtain ⟨n1, n2, n3, n4, n5⟩ := hf.next
          have hlt : (a : Int) < s.size := by omega
          have cE := CE.out a wr hcb.1 hB
          rw [n5] at cE
          cases hw : wcl s c with
          | false =>
            rw [hw] at cE
            have HF : Hid (Fr s c.to (pre ++ [c]) r) := n2
            have HU : Hid (firstW s r = V) := by rw [← hv]; exact (first_not hw).symm
            have CM : Hid (∀ W, Below w.heap.size w W → Calls Tryz.prog 26 #[.string s, .int .i64 a] W fun e w' => e = .returned (.int .i64 c.to) ∧ Below w.heap.size w w') := fun W hW => CN.out a c.to W n1 hW
            clear hf hv CE CN n1 n2 hw
            go_wp2_with (first | (go_at_call 77; refine cE.mono ?_; clear cE; rintro e w1 ⟨rfl, hb1⟩) | (go_at_call 26; refine (CM.out _ hb1).mono ?_; clear CM; rintro e w2 ⟨rfl, hb2⟩))
            exact ⟨⟨c.to, pre ++ [c], r, rfl, HF.out, HU.out, hb2⟩, by simp [intOf]; omega⟩
          | true =>
            rw [hw] at cE
            have HF : Hid (Fr s a pre (c :: r)) := hf
            have HV2 : Hid (lastTo (wcl s) a (c :: r) = V) := by rw [← hv]; exact (first_in a hw).symm
            clear hf hv n1 n2 hw
            go_wp2_with (go_at_call 77; refine cE.mono ?_; clear cE; rintro e w1 ⟨rfl, hb1⟩)
            go_loopw [1] (fun t wr => ∃ (a : Nat) (pre post : List Clu), t = .int .i64 a ∧ Fr s a pre post ∧ lastTo (wcl s) a post = V ∧ Below w.heap.size w wr) (fun t _ => s.size - (intOf t).toNat)
            case atStart => exact ⟨a, pre, (c :: r), rfl, HF.out, HV2.out, hb1⟩
            case round =>
              clear HF HV2
              obtain ⟨b, pre2, post2, rfl, hf2, hv2, hB2⟩ := hrel
              have hcb2 := hf2.cb
              cases post2 with
              | nil =>
                have cE := CE.out b wr hcb2.1 hB2
                rw [hf2.done.2] at cE
                have HU : Hid (b = V) := hv2
                clear hf2 hv2 CE CN
                go_wp2_with (go_at_call 77; refine cE.mono ?_; clear cE; rintro e w2 ⟨rfl, hb2⟩)
                go_ret
                exact ⟨ret_int (by rw [HU.out]), hb2⟩
              | cons d r2 =>
                obtain ⟨n1, n2, n3, n4, n5⟩ := hf2.next
                have cE := CE.out b wr hcb2.1 hB2
                rw [n5] at cE
                cases hw2 : wcl s d with
                | false =>
                  rw [hw2] at cE
                  have HU : Hid (b = V) := by show b = V; rw [← hv2]; simp [lastTo, hw2]
                  clear hf2 hv2 CE CN n1 n2
                  go_wp2_with (go_at_call 77; refine cE.mono ?_; clear cE; rintro e w2 ⟨rfl, hb2⟩)
                  go_ret
                  exact ⟨ret_int (by rw [HU.out]), hb2⟩
                | true =>
                  rw [hw2] at cE
                  have HF2 : Hid (Fr s d.to (pre2 ++ [d]) r2) := n2
                  have HU : Hid (lastTo (wcl s) d.to r2 = V) := by show _ = V; rw [← hv2]; simp [lastTo, hw2]
                  have CM : Hid (∀ W, Below w.heap.size w W → Calls Tryz.prog 26 #[.string s, .int .i64 b] W fun e w' => e = .returned (.int .i64 d.to) ∧ Below w.heap.size w w') := fun W hW => CN.out b d.to W n1 hW
                  clear hf2 hv2 CE CN n1 n2 hw2
                  go_wp2_with (first | (go_at_call 77; refine cE.mono ?_; clear cE; rintro e w2 ⟨rfl, hb2⟩) | (go_at_call 26; refine (CM.out _ hb2).mono ?_; clear CM; rintro e w3 ⟨rfl, hb3⟩))
                  exact ⟨⟨d.to, pre2 ++ [d], r2, rfl, HF2.out, HU.out, hb3⟩, by simp [intOf]; omega⟩

  | false =>
    rw [hc] at CB
    have HP' : Hid (∀ m : Nat, IsPrev s a0 m → ∃ pre post, Fr s m pre post ∧ firstW s post = V) := fun m hp => HP.out m hc hp
    clear HS HP hc
    go_enter Tryz.func40, Tryz.ntmps40
    go_wp2_with (first | (go_at_call 76; refine cH.mono ?_; clear cH; rintro e w0 ⟨rfl, rfl⟩) | (go_at_call 25; refine (CB.out _ (Below.refl _ _)).mono ?_; clear CB; rintro e w1 ⟨rfl, hb1⟩) | (go_at_call 38; refine (CP.out _ hb1).mono ?_; clear CP; rintro e w2 ⟨a1, rfl, hp1, hb2⟩; obtain ⟨pre0, post0, hf0, hv0⟩ := HP'.out a1 hp1; have HF0 : Hid (Fr s a1 pre0 post0) := hf0; have HV0 : Hid (firstW s post0 = V) := hv0; clear HP' hf0 hv0 hp1))
    go_loopw [1] (fun t wr => ∃ (a : Nat) (pre post : List Clu), t = .int .i64 a ∧ Fr s a pre post ∧ firstW s post = V ∧ Below w.heap.size w wr) (fun t _ => s.size - (intOf t).toNat)
    case atStart => exact ⟨a1, pre0, post0, rfl, HF0.out, HV0.out, hb2⟩
    case round =>
      obtain ⟨a, pre, post, rfl, hf, hv, hB⟩ := hrel
      have hcb := hf.cb
      cases post with
      | nil =>
          have hge : ¬ ((a : Int) < s.size) := by have := hf.done.1; omega
          have HF : Hid (Fr s a pre []) := hf
          have HV2 : Hid (lastTo (wcl s) a [] = V) := by rw [← hv]; exact (first_nil s a hf.done.1).symm
          clear hf hv
          go_wp2
          go_loopw [1] (fun t wr => ∃ (a : Nat) (pre post : List Clu), t = .int .i64 a ∧ Fr s a pre post ∧ lastTo (wcl s) a post = V ∧ Below w.heap.size w wr) (fun t _ => s.size - (intOf t).toNat)
          case atStart => exact ⟨a, pre, [], rfl, HF.out, HV2.out, hB⟩
          case round =>
            clear HF HV2
            obtain ⟨b, pre2, post2, rfl, hf2, hv2, hB2⟩ := hrel
            have hcb2 := hf2.cb
            cases post2 with
            | nil =>
              have cE := CE.out b wr hcb2.1 hB2
              rw [hf2.done.2] at cE
              have HU : Hid (b = V) := hv2
              clear hf2 hv2 CE CN
              go_wp2_with (go_at_call 77; refine cE.mono ?_; clear cE; rintro e w2 ⟨rfl, hb2⟩)
              go_ret
              exact ⟨ret_int (by rw [HU.out]), hb2⟩
            | cons d r2 =>
              obtain ⟨n1, n2, n3, n4, n5⟩ := hf2.next
              have cE := CE.out b wr hcb2.1 hB2
              rw [n5] at cE
              cases hw2 : wcl s d with
              | false =>
                rw [hw2] at cE
                have HU : Hid (b = V) := by show b = V; rw [← hv2]; simp [lastTo, hw2]
                clear hf2 hv2 CE CN n1 n2
                go_wp2_with (go_at_call 77; refine cE.mono ?_; clear cE; rintro e w2 ⟨rfl, hb2⟩)
                go_ret
                exact ⟨ret_int (by rw [HU.out]), hb2⟩
              | true =>
                rw [hw2] at cE
                have HF2 : Hid (Fr s d.to (pre2 ++ [d]) r2) := n2
                have HU : Hid (lastTo (wcl s) d.to r2 = V) := by show _ = V; rw [← hv2]; simp [lastTo, hw2]
                have CM : Hid (∀ W, Below w.heap.size w W → Calls Tryz.prog 26 #[.string s, .int .i64 b] W fun e w' => e = .returned (.int .i64 d.to) ∧ Below w.heap.size w w') := fun W hW => CN.out b d.to W n1 hW
                clear hf2 hv2 CE CN n1 n2 hw2
                go_wp2_with (first | (go_at_call 77; refine cE.mono ?_; clear cE; rintro e w2 ⟨rfl, hb2⟩) | (go_at_call 26; refine (CM.out _ hb2).mono ?_; clear CM; rintro e w3 ⟨rfl, hb3⟩))
                exact ⟨⟨d.to, pre2 ++ [d], r2, rfl, HF2.out, HU.out, hb3⟩, by simp [intOf]; omega⟩
      | cons c r =>
          obtain ⟨n1, n2, n3, n4, n5⟩ := hf.next
          have hlt : (a : Int) < s.size := by omega
          have cE := CE.out a wr hcb.1 hB
          rw [n5] at cE
          cases hw : wcl s c with
          | false =>
            rw [hw] at cE
            have HF : Hid (Fr s c.to (pre ++ [c]) r) := n2
            have HU : Hid (firstW s r = V) := by rw [← hv]; exact (first_not hw).symm
            have CM : Hid (∀ W, Below w.heap.size w W → Calls Tryz.prog 26 #[.string s, .int .i64 a] W fun e w' => e = .returned (.int .i64 c.to) ∧ Below w.heap.size w w') := fun W hW => CN.out a c.to W n1 hW
            clear hf hv CE CN n1 n2 hw
            go_wp2_with (first | (go_at_call 77; refine cE.mono ?_; clear cE; rintro e w1 ⟨rfl, hb1⟩) | (go_at_call 26; refine (CM.out _ hb1).mono ?_; clear CM; rintro e w2 ⟨rfl, hb2⟩))
            exact ⟨⟨c.to, pre ++ [c], r, rfl, HF.out, HU.out, hb2⟩, by simp [intOf]; omega⟩
          | true =>
            rw [hw] at cE
            have HF : Hid (Fr s a pre (c :: r)) := hf
            have HV2 : Hid (lastTo (wcl s) a (c :: r) = V) := by rw [← hv]; exact (first_in a hw).symm
            clear hf hv n1 n2 hw
            go_wp2_with (go_at_call 77; refine cE.mono ?_; clear cE; rintro e w1 ⟨rfl, hb1⟩)
            go_loopw [1] (fun t wr => ∃ (a : Nat) (pre post : List Clu), t = .int .i64 a ∧ Fr s a pre post ∧ lastTo (wcl s) a post = V ∧ Below w.heap.size w wr) (fun t _ => s.size - (intOf t).toNat)
            case atStart => exact ⟨a, pre, (c :: r), rfl, HF.out, HV2.out, hb1⟩
            case round =>
              clear HF HV2
              obtain ⟨b, pre2, post2, rfl, hf2, hv2, hB2⟩ := hrel
              have hcb2 := hf2.cb
              cases post2 with
              | nil =>
                have cE := CE.out b wr hcb2.1 hB2
                rw [hf2.done.2] at cE
                have HU : Hid (b = V) := hv2
                clear hf2 hv2 CE CN
                go_wp2_with (go_at_call 77; refine cE.mono ?_; clear cE; rintro e w2 ⟨rfl, hb2⟩)
                go_ret
                exact ⟨ret_int (by rw [HU.out]), hb2⟩
              | cons d r2 =>
                obtain ⟨n1, n2, n3, n4, n5⟩ := hf2.next
                have cE := CE.out b wr hcb2.1 hB2
                rw [n5] at cE
                cases hw2 : wcl s d with
                | false =>
                  rw [hw2] at cE
                  have HU : Hid (b = V) := by show b = V; rw [← hv2]; simp [lastTo, hw2]
                  clear hf2 hv2 CE CN n1 n2
                  go_wp2_with (go_at_call 77; refine cE.mono ?_; clear cE; rintro e w2 ⟨rfl, hb2⟩)
                  go_ret
                  exact ⟨ret_int (by rw [HU.out]), hb2⟩
                | true =>
                  rw [hw2] at cE
                  have HF2 : Hid (Fr s d.to (pre2 ++ [d]) r2) := n2
                  have HU : Hid (lastTo (wcl s) d.to r2 = V) := by show _ = V; rw [← hv2]; simp [lastTo, hw2]
                  have CM : Hid (∀ W, Below w.heap.size w W → Calls Tryz.prog 26 #[.string s, .int .i64 b] W fun e w' => e = .returned (.int .i64 d.to) ∧ Below w.heap.size w w') := fun W hW => CN.out b d.to W n1 hW
                  clear hf2 hv2 CE CN n1 n2 hw2
                  go_wp2_with (first | (go_at_call 77; refine cE.mono ?_; clear cE; rintro e w2 ⟨rfl, hb2⟩) | (go_at_call 26; refine (CM.out _ hb2).mono ?_; clear CM; rintro e w3 ⟨rfl, hb3⟩))
                  exact ⟨⟨d.to, pre2 ++ [d], r2, rfl, HF2.out, HU.out, hb3⟩, by simp [intOf]; omega⟩

/-- where the run of word clusters at the end of pre begins; a, if there is none -/
def runW (s : ByteArray) (a : Nat) (pre : List Clu) : Nat := match pre.getLast? with
  | some c => if wcl s c then lastW s pre else a
  | none => a
theorem run_stop {s : ByteArray} {a : Nat} {q : List Clu} {d : Clu} (h : wcl s d = false) : runW s a (q ++ [d]) = a := by simp [runW, h]
theorem Bh.le {s : ByteArray} {a : Nat} {pre : List Clu} (h : Bh s a pre) : a ≤ s.size := by
  obtain ⟨⟨m, post, hf, hm⟩, _, _⟩ := h
  have := hf.cb.2
  omega
theorem run_last {s : ByteArray} {a : Nat} {q : List Clu} {d : Clu} (h : wcl s d = true) : runW s a (q ++ [d]) = lastW s (q ++ [d]) := by simp [runW, h]
theorem run_go {s : ByteArray} {a : Nat} {q : List Clu} {d : Clu} (hb : Bh s a (q ++ [d])) (h : wcl s d = true) : runW s a (q ++ [d]) = runW s d.fr q := by
  obtain ⟨⟨m, post, hf, hm⟩, _, _⟩ := hb
  rw [run_last h]
  rcases List.eq_nil_or_concat q with e | ⟨p, c, e⟩
  · subst e
    rw [last_new hf.l h (.inl rfl)]
    rfl
  · rw [List.concat_eq_append] at e
    subst e
    cases hc : wcl s c with
    | true => rw [last_on hf.l h hc, run_last hc]
    | false => rw [last_new hf.l h (.inr ⟨p, c, rfl, hc⟩), run_stop hc]

set_option maxRecDepth 100000 in
set_option maxHeartbeats 2000000 in
theorem behind_any (s : ByteArray) (i : Int) (hs : s.size ≤ maxLen) (w : World) (hT : Lib.Utf8Tabs 1 2 w) :
    Calls Tryz.prog 41 #[.string s, .int .i64 i] w fun e w' => e = .returned (.int .i64 (behindW (words s) (heldN s i))) ∧ Below w.heap.size w w' := by
  have hs' := hs
  unfold maxLen at hs
  have cH := wheld_any s i w
  have hle := held_le s i
  generalize heldN s i = a0 at cH hle ⊢
  have CE : Hid (∀ (a : Nat) W, cbZ s a = true → Below w.heap.size w W → Calls Tryz.prog 77 #[.string s, .int .i64 a] W fun e w' => e = .returned (.bool (wat s a)) ∧ Below w.heap.size w w') := fun a W hc hW => (wbegins_any s a hs' hc W (tabs_below hT hW)).mono fun e w' ⟨h1, h2⟩ => ⟨h1, hW.trans (h2.mono hW.size)⟩
  have CP : Hid (∀ (a m : Nat) W, a ≤ s.size → IsPrev s a m → Below w.heap.size w W → Calls Tryz.prog 38 #[.string s, .int .i64 a] W fun e w' => e = .returned (.int .i64 m) ∧ Below w.heap.size w w') := fun a m W ha hn hW => (cprev_any s a hs' W (tabs_below hT hW) (by omega)).mono fun e w' ⟨m', h1, h3, h2⟩ => ⟨by rw [h1, h3.uniq hn], hW.trans (h2.mono hW.size)⟩
  obtain ⟨pre0, hb0⟩ := bh_of hle
  have HV0 : Hid (lastW s pre0 = behindW (words s) a0) := (behind_last hb0).symm
  have HF0 : Hid (Bh s a0 pre0) := hb0
  generalize behindW (words s) a0 = V at HV0 ⊢
  clear hb0
  go_enter Tryz.func41, Tryz.ntmps41
  go_wp2_with (go_at_call 76; refine cH.mono ?_; clear cH; rintro e w0 ⟨rfl, rfl⟩)
  go_loopw [1] (fun t wr => ∃ (a : Nat) (pre : List Clu), t = .int .i64 a ∧ Bh s a pre ∧ lastW s pre = V ∧ Below w.heap.size w wr) (fun t _ => (intOf t).toNat)
  case atStart => exact ⟨a0, pre0, rfl, HF0.out, HV0.out, Below.refl _ _⟩
  case round =>
    obtain ⟨a, pre, rfl, hf, hv, hB⟩ := hrel
    rcases List.eq_nil_or_concat pre with e1 | ⟨q, c, e1⟩
    · subst e1
      have h0 := hf.none rfl
      subst h0
      have HU : Hid ((0 : Nat) = V) := hv
      clear hf hv CE CP
      go_wp2
      go_loopw [1] (fun t wr => t = .int .i64 0 ∧ Below w.heap.size w wr) (fun _ _ => 0)
      case atStart => exact ⟨rfl, hB⟩
      case round =>
        obtain ⟨rfl, hB2⟩ := hrel
        go_wp2
        go_ret
        exact ⟨ret_int (by rw [← HU.out]; rfl), hB2⟩
    · rw [List.concat_eq_append] at e1
      subst e1
      obtain ⟨m1, ⟨post, m2⟩, m3, m4, m5⟩ := hf.prev
      have hale := hf.le
      have hpos : (0 : Int) < a := by omega
      have cP := CP.out a c.fr wr (by omega) m1 hB
      have CEd : Hid (∀ W, Below w.heap.size w W → Calls Tryz.prog 77 #[.string s, .int .i64 c.fr] W fun e w' => e = .returned (.bool (wcl s c)) ∧ Below w.heap.size w w') := fun W hW => by
        have := CE.out c.fr W m1.cb hW
        rwa [m5] at this
      cases hw : wcl s c with
      | false =>
        rw [hw] at CEd
        have HF : Hid (Bh s c.fr q) := bh_fr m2
        have HU : Hid (lastW s q = V) := by
          show _ = V
          rw [← hv]
          obtain ⟨⟨m, post, hff, hm⟩, _, _⟩ := hf
          exact (last_not hff.l hw).symm
        have CQ : Hid (∀ W, Below w.heap.size w W → Calls Tryz.prog 38 #[.string s, .int .i64 a] W fun e w' => e = .returned (.int .i64 c.fr) ∧ Below w.heap.size w w') := fun W hW => CP.out a c.fr W (by omega) m1 hW
        clear hf hv CE CP m1 m2 hw
        go_wp2_with (first | (go_at_call 38; refine cP.mono ?_; clear cP; rintro e w2 ⟨rfl, hb2⟩) | (go_at_call 77; refine (CEd.out _ hb2).mono ?_; clear CEd; rintro e w3 ⟨rfl, hb3⟩) | (go_at_call 38; refine (CQ.out _ hb3).mono ?_; clear CQ; rintro e w4 ⟨rfl, hb4⟩))
        exact ⟨⟨c.fr, q, rfl, HF.out, HU.out, hb4⟩, by simp [intOf]; omega⟩
      | true =>
        rw [hw] at CEd
        have HF : Hid (Bh s a (q ++ [c])) := hf
        have HV2 : Hid (runW s a (q ++ [c]) = V) := by show _ = V; rw [← hv]; exact run_last hw
        clear hf hv m1 m2 hw
        go_wp2_with (first | (go_at_call 38; refine cP.mono ?_; clear cP; rintro e w2 ⟨rfl, hb2⟩) | (go_at_call 77; refine (CEd.out _ hb2).mono ?_; clear CEd; rintro e w3 ⟨rfl, hb3⟩))
        go_loopw [1] (fun t wr => ∃ (a : Nat) (pre : List Clu), t = .int .i64 a ∧ Bh s a pre ∧ runW s a pre = V ∧ Below w.heap.size w wr) (fun t _ => (intOf t).toNat)
        case atStart => exact ⟨a, q ++ [c], rfl, HF.out, HV2.out, hb3⟩
        case round =>
          clear HF HV2
          obtain ⟨b, pre2, rfl, hf2, hv2, hB2⟩ := hrel
          rcases List.eq_nil_or_concat pre2 with e2 | ⟨q2, d, e2⟩
          · subst e2
            have h0 := hf2.none rfl
            subst h0
            have HU : Hid ((0 : Nat) = V) := hv2
            clear hf2 hv2 CE CP
            go_wp2
            go_ret
            exact ⟨ret_int (by rw [HU.out]), hB2⟩
          · rw [List.concat_eq_append] at e2
            subst e2
            obtain ⟨m1, ⟨post2, m2⟩, m3, m4, m5⟩ := hf2.prev
            have hble := hf2.le
            have hpos : (0 : Int) < b := by omega
            have cP := CP.out b d.fr wr (by omega) m1 hB2
            have CEd : Hid (∀ W, Below w.heap.size w W → Calls Tryz.prog 77 #[.string s, .int .i64 d.fr] W fun e w' => e = .returned (.bool (wcl s d)) ∧ Below w.heap.size w w') := fun W hW => by
              have := CE.out d.fr W m1.cb hW
              rwa [m5] at this
            cases hw2 : wcl s d with
            | false =>
              rw [hw2] at CEd
              have HU : Hid (b = V) := by show b = V; rw [← hv2]; exact (run_stop hw2).symm
              clear hf2 hv2 CE CP m1 m2 hw2
              go_wp2_with (first | (go_at_call 38; refine cP.mono ?_; clear cP; rintro e w2 ⟨rfl, hb2⟩) | (go_at_call 77; refine (CEd.out _ hb2).mono ?_; clear CEd; rintro e w3 ⟨rfl, hb3⟩))
              go_ret
              exact ⟨ret_int (by rw [HU.out]), hb3⟩
            | true =>
              rw [hw2] at CEd
              have HF2 : Hid (Bh s d.fr q2) := bh_fr m2
              have HU : Hid (runW s d.fr q2 = V) := by show _ = V; rw [← hv2]; exact (run_go hf2 hw2).symm
              have CQ : Hid (∀ W, Below w.heap.size w W → Calls Tryz.prog 38 #[.string s, .int .i64 b] W fun e w' => e = .returned (.int .i64 d.fr) ∧ Below w.heap.size w w') := fun W hW => CP.out b d.fr W (by omega) m1 hW
              clear hf2 hv2 CE CP m1 m2 hw2
              go_wp2_with (first | (go_at_call 38; refine cP.mono ?_; clear cP; rintro e w2 ⟨rfl, hb2⟩) | (go_at_call 77; refine (CEd.out _ hb2).mono ?_; clear CEd; rintro e w3 ⟨rfl, hb3⟩) | (go_at_call 38; refine (CQ.out _ hb3).mono ?_; clear CQ; rintro e w4 ⟨rfl, hb4⟩))
              exact ⟨⟨d.fr, q2, rfl, HF2.out, HU.out, hb4⟩, by simp [intOf]; omega⟩

end Go.Proofs.YtdggbnkhbmffoaaGreatDoor
