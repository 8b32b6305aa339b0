/-
  The walks of package word's smallLetters, has, large, UpperOf and LowerOf: for every number what WMath tells. No conditions.
-/
import Derived.Test.YtiejollfeggeoaaDoorVWalkB
import Derived.Test.YtiejollfeggeoaaDoorPkC
import Derived.Test.YtiejollfeggeoaaDoorKBase
namespace Go.Proofs.YtiejollfeggeoaaDoor
open Go.RowKit Go.Great Wid

/-- the runs of small letters: the first, the last, the step, how far down the large ones are -/
def sml : List (Int × Int × Int × Int) := [(97, 122, 1, 32), (224, 246, 1, 32), (248, 254, 1, 32), (255, 255, 1, -121), (257, 303, 2, 1), (307, 311, 2, 1), (331, 375, 2, 1), (945, 961, 1, 32), (963, 969, 1, 32), (1072, 1103, 1, 32), (1104, 1119, 1, 80), (1121, 1153, 2, 1)]
def smc : Array Value := (sml.flatMap fun p => [Value.int .i32 p.1, .int .i32 p.2.1, .int .i32 p.2.2.1, .int .i32 p.2.2.2]).toArray

set_option maxRecDepth 100000 in
set_option maxHeartbeats 2000000 in
theorem small_any (w : World) : Calls Tryd.prog 93 #[] w fun e w' => e = .returned (.agg smc) ∧ Below w.heap.size w w' := by
  refine calls_of_wp Tryd.func93 rfl ?_
  apply wp_seq_k; intro K0 hK0
  apply wp_region_lit
  refine wpList_allocTo rfl (some 0) rfl (.pointer (some ⟨w.heap.size, 0, none⟩)) (.cells (Array.replicate 48 (.int .i32 0)) 129) (by as_aux_lemma => kernel_rfl) ?_
  apply wpList_nil
  refine hK0 _ _ ?_
  clear hK0
  apply wp_seq_k; intro K1 hK1
  apply wp_region_lit
  refine wpList_buildTo rfl 128 _ rfl (some 1) rfl #[.int .i32 97, .int .i32 122, .int .i32 1, .int .i32 32] (by as_aux_lemma => kernel_rfl) ?_
  refine wpList_buildTo rfl 128 _ rfl (some 2) rfl #[.int .i32 224, .int .i32 246, .int .i32 1, .int .i32 32] (by as_aux_lemma => kernel_rfl) ?_
  refine wpList_buildTo rfl 128 _ rfl (some 3) rfl #[.int .i32 248, .int .i32 254, .int .i32 1, .int .i32 32] (by as_aux_lemma => kernel_rfl) ?_
  refine wpList_buildTo rfl 128 _ rfl (some 4) rfl #[.int .i32 255, .int .i32 255, .int .i32 1, .int .i32 (-121)] (by as_aux_lemma => kernel_rfl) ?_
  refine wpList_buildTo rfl 128 _ rfl (some 5) rfl #[.int .i32 257, .int .i32 303, .int .i32 2, .int .i32 1] (by as_aux_lemma => kernel_rfl) ?_
  refine wpList_buildTo rfl 128 _ rfl (some 6) rfl #[.int .i32 307, .int .i32 311, .int .i32 2, .int .i32 1] (by as_aux_lemma => kernel_rfl) ?_
  refine wpList_buildTo rfl 128 _ rfl (some 7) rfl #[.int .i32 331, .int .i32 375, .int .i32 2, .int .i32 1] (by as_aux_lemma => kernel_rfl) ?_
  refine wpList_buildTo rfl 128 _ rfl (some 8) rfl #[.int .i32 945, .int .i32 961, .int .i32 1, .int .i32 32] (by as_aux_lemma => kernel_rfl) ?_
  refine wpList_buildTo rfl 128 _ rfl (some 9) rfl #[.int .i32 963, .int .i32 969, .int .i32 1, .int .i32 32] (by as_aux_lemma => kernel_rfl) ?_
  refine wpList_buildTo rfl 128 _ rfl (some 10) rfl #[.int .i32 1072, .int .i32 1103, .int .i32 1, .int .i32 32] (by as_aux_lemma => kernel_rfl) ?_
  refine wpList_buildTo rfl 128 _ rfl (some 11) rfl #[.int .i32 1104, .int .i32 1119, .int .i32 1, .int .i32 80] (by as_aux_lemma => kernel_rfl) ?_
  refine wpList_buildTo rfl 128 _ rfl (some 12) rfl #[.int .i32 1121, .int .i32 1153, .int .i32 2, .int .i32 1] (by as_aux_lemma => kernel_rfl) ?_
  refine wpList_buildTo rfl 129 _ rfl (some 13) rfl (smc) (by as_aux_lemma => kernel_rfl) ?_
  refine wpList_store_rowTo rfl 129 _ _ rfl rfl w.heap.size (smc) (by as_aux_lemma => kernel_rfl) (by as_aux_lemma => kernel_rfl) 129 (Array.replicate 48 (.int .i32 0)) Array.getElem?_push_size (by as_aux_lemma => kernel_rfl) (by as_aux_lemma => kernel_rfl) (by as_aux_lemma => kernel_rfl) ?_
  apply wpList_nil
  refine hK1 _ _ ?_
  clear hK1
  rw [setRow_alloc]
  refine wp_ret (bodyPost_ret (res_arr (t := 129) (e := 128) (n := 12) (d := 0) (i := ((Tryd.prog.info? 129).getD default)) (by as_aux_lemma => kernel_rfl) (by as_aux_lemma => kernel_rfl) (by as_aux_lemma => kernel_rfl) _ w _ (by as_aux_lemma => kernel_rfl) (by as_aux_lemma => kernel_rfl)) (by as_aux_lemma => kernel_rfl) ⟨rfl, (Below.refl _ w).alloc (Nat.le_refl _) _⟩)

theorem ix12 (w : World) : ∀ (i : Nat) (p : Int × Int × Int × Int), sml[i]? = some p → (Instr.index 129 (.agg smc) (.int .i64 i)).run Tryd.prog w = .ok (.agg #[.int .i32 p.1, .int .i32 p.2.1, .int .i32 p.2.2.1, .int .i32 p.2.2.2]) w := by
  intro i p h
  have hi : i < 12 := (List.getElem?_eq_some_iff.1 h).1
  by_cases h0 : i = 0
  · have e : ∀ w : World, (Instr.index 129 (.agg (smc)) (.int .i64 0)).run Tryd.prog w = .ok (.agg #[.int .i32 97, .int .i32 122, .int .i32 1, .int .i32 32]) w := fun w => by kernel_rfl
    subst h0
    rw [← (Option.some.inj h : ((97 : Int), (122 : Int), (1 : Int), (32 : Int)) = p)]
    exact e w
  by_cases h1 : i = 1
  · have e : ∀ w : World, (Instr.index 129 (.agg (smc)) (.int .i64 1)).run Tryd.prog w = .ok (.agg #[.int .i32 224, .int .i32 246, .int .i32 1, .int .i32 32]) w := fun w => by kernel_rfl
    subst h1
    rw [← (Option.some.inj h : ((224 : Int), (246 : Int), (1 : Int), (32 : Int)) = p)]
    exact e w
  by_cases h2 : i = 2
  · have e : ∀ w : World, (Instr.index 129 (.agg (smc)) (.int .i64 2)).run Tryd.prog w = .ok (.agg #[.int .i32 248, .int .i32 254, .int .i32 1, .int .i32 32]) w := fun w => by kernel_rfl
    subst h2
    rw [← (Option.some.inj h : ((248 : Int), (254 : Int), (1 : Int), (32 : Int)) = p)]
    exact e w
  by_cases h3 : i = 3
  · have e : ∀ w : World, (Instr.index 129 (.agg (smc)) (.int .i64 3)).run Tryd.prog w = .ok (.agg #[.int .i32 255, .int .i32 255, .int .i32 1, .int .i32 (-121)]) w := fun w => by kernel_rfl
    subst h3
    rw [← (Option.some.inj h : ((255 : Int), (255 : Int), (1 : Int), (-121 : Int)) = p)]
    exact e w
  by_cases h4 : i = 4
  · have e : ∀ w : World, (Instr.index 129 (.agg (smc)) (.int .i64 4)).run Tryd.prog w = .ok (.agg #[.int .i32 257, .int .i32 303, .int .i32 2, .int .i32 1]) w := fun w => by kernel_rfl
    subst h4
    rw [← (Option.some.inj h : ((257 : Int), (303 : Int), (2 : Int), (1 : Int)) = p)]
    exact e w
  by_cases h5 : i = 5
  · have e : ∀ w : World, (Instr.index 129 (.agg (smc)) (.int .i64 5)).run Tryd.prog w = .ok (.agg #[.int .i32 307, .int .i32 311, .int .i32 2, .int .i32 1]) w := fun w => by kernel_rfl
    subst h5
    rw [← (Option.some.inj h : ((307 : Int), (311 : Int), (2 : Int), (1 : Int)) = p)]
    exact e w
  by_cases h6 : i = 6
  · have e : ∀ w : World, (Instr.index 129 (.agg (smc)) (.int .i64 6)).run Tryd.prog w = .ok (.agg #[.int .i32 331, .int .i32 375, .int .i32 2, .int .i32 1]) w := fun w => by kernel_rfl
    subst h6
    rw [← (Option.some.inj h : ((331 : Int), (375 : Int), (2 : Int), (1 : Int)) = p)]
    exact e w
  by_cases h7 : i = 7
  · have e : ∀ w : World, (Instr.index 129 (.agg (smc)) (.int .i64 7)).run Tryd.prog w = .ok (.agg #[.int .i32 945, .int .i32 961, .int .i32 1, .int .i32 32]) w := fun w => by kernel_rfl
    subst h7
    rw [← (Option.some.inj h : ((945 : Int), (961 : Int), (1 : Int), (32 : Int)) = p)]
    exact e w
  by_cases h8 : i = 8
  · have e : ∀ w : World, (Instr.index 129 (.agg (smc)) (.int .i64 8)).run Tryd.prog w = .ok (.agg #[.int .i32 963, .int .i32 969, .int .i32 1, .int .i32 32]) w := fun w => by kernel_rfl
    subst h8
    rw [← (Option.some.inj h : ((963 : Int), (969 : Int), (1 : Int), (32 : Int)) = p)]
    exact e w
  by_cases h9 : i = 9
  · have e : ∀ w : World, (Instr.index 129 (.agg (smc)) (.int .i64 9)).run Tryd.prog w = .ok (.agg #[.int .i32 1072, .int .i32 1103, .int .i32 1, .int .i32 32]) w := fun w => by kernel_rfl
    subst h9
    rw [← (Option.some.inj h : ((1072 : Int), (1103 : Int), (1 : Int), (32 : Int)) = p)]
    exact e w
  by_cases h10 : i = 10
  · have e : ∀ w : World, (Instr.index 129 (.agg (smc)) (.int .i64 10)).run Tryd.prog w = .ok (.agg #[.int .i32 1104, .int .i32 1119, .int .i32 1, .int .i32 80]) w := fun w => by kernel_rfl
    subst h10
    rw [← (Option.some.inj h : ((1104 : Int), (1119 : Int), (1 : Int), (80 : Int)) = p)]
    exact e w
  by_cases h11 : i = 11
  · have e : ∀ w : World, (Instr.index 129 (.agg (smc)) (.int .i64 11)).run Tryd.prog w = .ok (.agg #[.int .i32 1121, .int .i32 1153, .int .i32 2, .int .i32 1]) w := fun w => by kernel_rfl
    subst h11
    rw [← (Option.some.inj h : ((1121 : Int), (1153 : Int), (2 : Int), (1 : Int)) = p)]
    exact e w
  omega
/-- a letter of a run -/
def hasR (p : Int × Int × Int × Int) (c : Int) : Bool := decide (p.1 ≤ c) && decide (c ≤ p.2.1) && decide ((c - p.1) % p.2.2.1 = 0)
/-- what the runs keep to -/
def okR (p : Int × Int × Int × Int) : Prop := -200 ≤ p.1 ∧ p.1 ≤ 2000 ∧ p.2.1 ≤ 2000 ∧ -200 ≤ p.2.1 ∧ 1 ≤ p.2.2.1 ∧ p.2.2.1 ≤ 2 ∧ -200 ≤ p.2.2.2 ∧ p.2.2.2 ≤ 200
theorem sml_ok : ∀ p ∈ sml, okR p ∧ okR (p.1 - p.2.2.2, p.2.1 - p.2.2.2, p.2.2.1, p.2.2.2) := by
  unfold okR
  decide
theorem rem_pos {a b : Int} (ha : 0 ≤ a) : a.tmod b = a % b := Int.tmod_eq_emod_of_nonneg ha

set_option maxRecDepth 100000 in
set_option maxHeartbeats 1000000 in
theorem has_any (p : Int × Int × Int × Int) (hp : okR p) (c : Int) (w : World) : Calls Tryd.prog 94 #[.agg #[.int .i32 p.1, .int .i32 p.2.1, .int .i32 p.2.2.1, .int .i32 p.2.2.2], .int .i32 c] w fun e w' => e = .returned (.bool (hasR p c)) ∧ Below w.heap.size w w' := by
  obtain ⟨a, b, st, d⟩ := p
  obtain ⟨g1, g2, g3, g4, g5, g6, g7, g8⟩ := hp
  unfold hasR
  dsimp only at g1 g2 g3 g4 g5 g6 g7 g8 ⊢
  by_cases h1 : a ≤ c
  · by_cases h2 : c ≤ b
    · have h3 : IntKind.i32.wrap (c - a) = c - a := by rw [IntKind.wrap_i32]; omega
      have h4 : (c - a).tmod st = (c - a) % st := rem_pos (by omega)
      have h5 : ¬ st = 0 := by omega
      rw [decide_eq_true h1, decide_eq_true h2]
      go_enter Tryd.func94, Tryd.ntmps94
      go_wp2
      go_ret
      exact ⟨ret_bool (by rw [Bool.true_and, Bool.true_and]; rfl), (Below.refl _ w).alloc (Nat.le_refl _) _⟩
    · rw [decide_eq_false h2]
      go_enter Tryd.func94, Tryd.ntmps94
      go_wp2
      go_ret
      exact ⟨by simp, (Below.refl _ w).alloc (Nat.le_refl _) _⟩
  · rw [decide_eq_false h1]
    go_enter Tryd.func94, Tryd.ntmps94
    go_wp2
    go_ret
    exact ⟨by simp, (Below.refl _ w).alloc (Nat.le_refl _) _⟩

theorem sml_up : (sml.all fun p => (List.range 60).all fun k => !(hasR p (p.1 + (k : Nat))) || (decide (upc (p.1 + (k : Nat)) = p.1 + (k : Nat) - p.2.2.2))) = true := by decide +kernel
theorem sml_low : (sml.all fun p => (List.range 60).all fun k => !(hasR (p.1 - p.2.2.2, p.2.1 - p.2.2.2, p.2.2.1, p.2.2.2) (p.1 - p.2.2.2 + (k : Nat))) || (decide (lowc (p.1 - p.2.2.2 + (k : Nat)) = p.1 - p.2.2.2 + (k : Nat) + p.2.2.2))) = true := by decide +kernel
theorem sml_len : ∀ p ∈ sml, p.2.1 - p.1 < 60 := by decide
theorem prs_sml : (prs.all fun q => (sml.any fun p => hasR p q.1) && (sml.any fun p => hasR (p.1 - p.2.2.2, p.2.1 - p.2.2.2, p.2.2.1, p.2.2.2) q.2)) = true := by decide +kernel
theorem up_has {p : Int × Int × Int × Int} {c : Int} (hp : p ∈ sml) (h : hasR p c = true) : upc c = c - p.2.2.2 := by
  have h1 := List.all_eq_true.1 sml_up p hp
  have hl := sml_len p hp
  have hr : p.1 ≤ c ∧ c ≤ p.2.1 := by
    unfold hasR at h
    simp only [Bool.and_eq_true, decide_eq_true_eq] at h
    exact h.1
  have h2 := List.all_eq_true.1 h1 (c - p.1).toNat (by rw [List.mem_range]; omega)
  have e : p.1 + ((c - p.1).toNat : Int) = c := by omega
  rw [e, h] at h2
  simpa using h2
theorem low_has {p : Int × Int × Int × Int} {c : Int} (hp : p ∈ sml) (h : hasR (p.1 - p.2.2.2, p.2.1 - p.2.2.2, p.2.2.1, p.2.2.2) c = true) : lowc c = c + p.2.2.2 := by
  have h1 := List.all_eq_true.1 sml_low p hp
  have hl := sml_len p hp
  have hr : p.1 - p.2.2.2 ≤ c ∧ c ≤ p.2.1 - p.2.2.2 := by
    unfold hasR at h
    simp only [Bool.and_eq_true, decide_eq_true_eq] at h
    exact h.1
  have h2 := List.all_eq_true.1 h1 (c - (p.1 - p.2.2.2)).toNat (by rw [List.mem_range]; omega)
  have e : p.1 - p.2.2.2 + ((c - (p.1 - p.2.2.2)).toNat : Int) = c := by omega
  rw [e, h] at h2
  simpa using h2
theorem up_none {c : Int} (h : ∀ p ∈ sml, hasR p c = false) : upc c = c := by
  rcases up_cases c with h1 | h1
  · exact h1.1
  · have h2 := List.all_eq_true.1 prs_sml _ h1
    simp only [Bool.and_eq_true, List.any_eq_true] at h2
    obtain ⟨⟨p, hp, hq⟩, _⟩ := h2
    rw [h p hp] at hq
    cases hq
theorem low_none {c : Int} (h : ∀ p ∈ sml, hasR (p.1 - p.2.2.2, p.2.1 - p.2.2.2, p.2.2.1, p.2.2.2) c = false) : lowc c = c := by
  rcases low_cases c with h1 | h1
  · exact h1.1
  · have h2 := List.all_eq_true.1 prs_sml _ h1
    simp only [Bool.and_eq_true, List.any_eq_true] at h2
    obtain ⟨_, ⟨p, hp, hq⟩⟩ := h2
    rw [h p hp] at hq
    cases hq

set_option maxRecDepth 100000 in
set_option maxHeartbeats 1000000 in
theorem large_any (p : Int × Int × Int × Int) (hp : okR p) (w : World) : Calls Tryd.prog 95 #[.agg #[.int .i32 p.1, .int .i32 p.2.1, .int .i32 p.2.2.1, .int .i32 p.2.2.2]] w fun e w' => e = .returned (.agg #[.int .i32 (p.1 - p.2.2.2), .int .i32 (p.2.1 - p.2.2.2), .int .i32 p.2.2.1, .int .i32 p.2.2.2]) ∧ Below w.heap.size w w' := by
  obtain ⟨a, b, st, d⟩ := p
  obtain ⟨g1, g2, g3, g4, g5, g6, g7, g8⟩ := hp
  dsimp only at g1 g2 g3 g4 g5 g6 g7 g8 ⊢
  have h1 : IntKind.i32.wrap (a - d) = a - d := by rw [IntKind.wrap_i32]; omega
  have h2 : IntKind.i32.wrap (b - d) = b - d := by rw [IntKind.wrap_i32]; omega
  go_enter Tryd.func95, Tryd.ntmps95
  go_wp2
  exact bodyPost_ret (v := .agg #[.int .i32 (a - d), .int .i32 (b - d), .int .i32 st, .int .i32 d]) (by simp [results, Tryd.results95, go_sem]) rfl ⟨rfl, ((Below.refl _ w).alloc (Nat.le_refl _) _).alloc (by simp) _⟩

set_option maxRecDepth 100000 in
set_option maxHeartbeats 1000000 in
theorem upof_any (c : Int) (w : World) : Calls Tryd.prog 82 #[.int .i32 c] w fun e w' => e = .returned (.int .i32 (upc c)) ∧ Below w.heap.size w w' := by
  have cO := small_any w
  have hI := ix12
  generalize smc = A at cO hI
  go_enter Tryd.func82, Tryd.ntmps82
  go_wp2_with (go_at_call 93; refine cO.mono ?_; clear cO; rintro e w0 ⟨rfl, hb0⟩)
  go_loopw [6] (fun t wr => ∃ i : Nat, t = .int .i64 i ∧ i ≤ 12 ∧ (∀ j p, j < i → sml[j]? = some p → hasR p c = false) ∧ Below w.heap.size w wr) (fun t _ => 12 - (intOf t).toNat)
  case atStart => exact ⟨0, rfl, Nat.zero_le _, fun j p h => by omega, hb0⟩
  case round =>
    clear hb0
    obtain ⟨i, rfl, hi, hno, hB⟩ := hrel
    by_cases hlt : i < 12
    · obtain ⟨p, hp⟩ : ∃ p, sml[i]? = some p := ⟨sml[i]'hlt, List.getElem?_eq_getElem hlt⟩
      have hm : p ∈ sml := List.mem_of_getElem? hp
      have hJ := hI wr i p hp
      have CH : Hid (∀ W, Below w.heap.size w W → Calls Tryd.prog 94 #[.agg #[.int .i32 p.1, .int .i32 p.2.1, .int .i32 p.2.2.1, .int .i32 p.2.2.2], .int .i32 c] W fun e w' => e = .returned (.bool (hasR p c)) ∧ Below W.heap.size W w') := fun W _ => has_any p (sml_ok p hm).1 c W
      have HB : Hid (Below w.heap.size w wr) := hB
      have HN : Hid (∀ j p, j < i → sml[j]? = some p → hasR p c = false) := hno
      have HP : Hid (sml[i]? = some p) := hp
      have HA : Hid (Below w.heap.size w (wr.alloc (.cells #[.int .i32 p.1, .int .i32 p.2.1, .int .i32 p.2.2.1, .int .i32 p.2.2.2] 128))) := hB.alloc hB.size _
      clear hI hB hno hp
      cases hh : hasR p c with
      | true =>
        have hup := up_has hm hh
        have hok := (sml_ok p hm).1
        have hr : p.1 ≤ c ∧ c ≤ p.2.1 := by
          unfold hasR at hh
          simp only [Bool.and_eq_true, decide_eq_true_eq] at hh
          exact hh.1
        have hw : IntKind.i32.wrap (c - p.2.2.2) = c - p.2.2.2 := by
          obtain ⟨g1, g2, g3, g4, g5, g6, g7, g8⟩ := hok
          rw [IntKind.wrap_i32]; omega
        have HU : Hid (_ = _) := hup
        rw [hh] at CH
        clear hh hup hok hr hm
        go_wp2_with (go_at_call 94; refine (CH.out _ HA.out).mono ?_; clear CH; rintro e w1 ⟨rfl, hb1⟩; have d3 : w1.cell? ⟨wr.heap.size, 3, none⟩ = some (.int .i32 p.2.2.2) := (by rw [hb1.cell (p := ⟨wr.heap.size, 3, none⟩) (by simp)]; simp))
        go_ret
        exact ⟨ret_int HU.out.symm, HA.out.trans (hb1.mono HA.out.size)⟩
      | false =>
        rw [hh] at CH
        have HH : Hid (hasR p c = false) := hh
        clear hh hm
        go_wp2_with (go_at_call 94; refine (CH.out _ HA.out).mono ?_; clear CH; rintro e w1 ⟨rfl, hb1⟩)
        exact ⟨⟨i + 1, by first | rfl | simp, by omega, fun j q hj hq => by
          by_cases e : j = i
          · subst e; rw [HP.out] at hq; cases hq; exact HH.out
          · exact HN.out j q (by omega) hq, HA.out.trans (hb1.mono HA.out.size)⟩, by simp [intOf]; omega⟩
    · have : i = 12 := by omega
      subst this
      have hn : upc c = c := up_none fun p hp => by
        obtain ⟨j, hj⟩ := List.mem_iff_getElem?.1 hp
        exact hno j p (List.getElem?_eq_some_iff.1 hj).1 hj
      have HU : Hid (_ = _) := hn
      clear hI hn hno
      go_wp2
      go_ret
      exact ⟨ret_int HU.out.symm, hB⟩

set_option maxRecDepth 100000 in
set_option maxHeartbeats 1000000 in
theorem lowof_any (c : Int) (w : World) : Calls Tryd.prog 83 #[.int .i32 c] w fun e w' => e = .returned (.int .i32 (lowc c)) ∧ Below w.heap.size w w' := by
  have cO := small_any w
  have hI := ix12
  generalize smc = A at cO hI
  go_enter Tryd.func83, Tryd.ntmps83
  go_wp2_with (go_at_call 93; refine cO.mono ?_; clear cO; rintro e w0 ⟨rfl, hb0⟩)
  go_loopw [6] (fun t wr => ∃ i : Nat, t = .int .i64 i ∧ i ≤ 12 ∧ (∀ j (p : Int × Int × Int × Int), j < i → sml[j]? = some p → hasR (p.1 - p.2.2.2, p.2.1 - p.2.2.2, p.2.2.1, p.2.2.2) c = false) ∧ Below w.heap.size w wr) (fun t _ => 12 - (intOf t).toNat)
  case atStart => exact ⟨0, rfl, Nat.zero_le _, fun j p h => by omega, hb0⟩
  case round =>
    clear hb0
    obtain ⟨i, rfl, hi, hno, hB⟩ := hrel
    by_cases hlt : i < 12
    · obtain ⟨p, hp⟩ : ∃ p, sml[i]? = some p := ⟨sml[i]'hlt, List.getElem?_eq_getElem hlt⟩
      have hm : p ∈ sml := List.mem_of_getElem? hp
      have hJ := hI wr i p hp
      have CL : Hid (∀ W, Below w.heap.size w W → Calls Tryd.prog 95 #[.agg #[.int .i32 p.1, .int .i32 p.2.1, .int .i32 p.2.2.1, .int .i32 p.2.2.2]] W fun e w' => e = .returned (.agg #[.int .i32 (p.1 - p.2.2.2), .int .i32 (p.2.1 - p.2.2.2), .int .i32 p.2.2.1, .int .i32 p.2.2.2]) ∧ Below W.heap.size W w') := fun W _ => large_any p (sml_ok p hm).1 W
      have CH : Hid (∀ W, Below w.heap.size w W → Calls Tryd.prog 94 #[.agg #[.int .i32 (p.1 - p.2.2.2), .int .i32 (p.2.1 - p.2.2.2), .int .i32 p.2.2.1, .int .i32 p.2.2.2], .int .i32 c] W fun e w' => e = .returned (.bool (hasR (p.1 - p.2.2.2, p.2.1 - p.2.2.2, p.2.2.1, p.2.2.2) c)) ∧ Below W.heap.size W w') := fun W _ => has_any (p.1 - p.2.2.2, p.2.1 - p.2.2.2, p.2.2.1, p.2.2.2) (sml_ok p hm).2 c W
      have HB : Hid (Below w.heap.size w wr) := hB
      have HN : Hid (∀ j (p : Int × Int × Int × Int), j < i → sml[j]? = some p → hasR (p.1 - p.2.2.2, p.2.1 - p.2.2.2, p.2.2.1, p.2.2.2) c = false) := hno
      have HP : Hid (sml[i]? = some p) := hp
      have HA : Hid (Below w.heap.size w (wr.alloc (.cells #[.int .i32 p.1, .int .i32 p.2.1, .int .i32 p.2.2.1, .int .i32 p.2.2.2] 128))) := hB.alloc hB.size _
      clear hI hB hno hp
      cases hh : hasR (p.1 - p.2.2.2, p.2.1 - p.2.2.2, p.2.2.1, p.2.2.2) c with
      | true =>
        have hup := low_has hm hh
        have hok := (sml_ok p hm).2
        have hr : p.1 - p.2.2.2 ≤ c ∧ c ≤ p.2.1 - p.2.2.2 := by
          unfold hasR at hh
          simp only [Bool.and_eq_true, decide_eq_true_eq] at hh
          exact hh.1
        have hw : IntKind.i32.wrap (c + p.2.2.2) = c + p.2.2.2 := by
          obtain ⟨g1, g2, g3, g4, g5, g6, g7, g8⟩ := hok
          dsimp only at g1 g2 g3 g4 g5 g6 g7 g8
          rw [IntKind.wrap_i32]; omega
        have HU : Hid (_ = _) := hup
        rw [hh] at CH
        clear hh hup hok hr hm
        go_wp2_with (first | (go_at_call 95; refine (CL.out _ HA.out).mono ?_; clear CL; rintro e w1 ⟨rfl, hb1⟩; have HB1 : Hid (Below w.heap.size w w1) := HA.out.trans (hb1.mono HA.out.size)) | (go_at_call 94; refine (CH.out _ HB1.out).mono ?_; clear CH; rintro e w2 ⟨rfl, hb2⟩; have d3 : w2.cell? ⟨wr.heap.size, 3, none⟩ = some (.int .i32 p.2.2.2) := (by rw [hb2.cell (p := ⟨wr.heap.size, 3, none⟩) (by have := hb1.size; simp at this; show wr.heap.size < _; omega), hb1.cell (p := ⟨wr.heap.size, 3, none⟩) (by simp)]; simp)))
        go_ret
        exact ⟨ret_int HU.out.symm, HB1.out.trans (hb2.mono HB1.out.size)⟩
      | false =>
        rw [hh] at CH
        have HH : Hid (hasR (p.1 - p.2.2.2, p.2.1 - p.2.2.2, p.2.2.1, p.2.2.2) c = false) := hh
        clear hh hm
        go_wp2_with (first | (go_at_call 95; refine (CL.out _ HA.out).mono ?_; clear CL; rintro e w1 ⟨rfl, hb1⟩; have HB1 : Hid (Below w.heap.size w w1) := HA.out.trans (hb1.mono HA.out.size); clear hb1) | (go_at_call 94; refine (CH.out _ HB1.out).mono ?_; clear CH; rintro e w2 ⟨rfl, hb2⟩))
        exact ⟨⟨i + 1, by first | rfl | simp, by omega, fun j q hj hq => by
          by_cases e : j = i
          · subst e; rw [HP.out] at hq; cases hq; exact HH.out
          · exact HN.out j q (by omega) hq, HB1.out.trans (hb2.mono HB1.out.size)⟩, by simp [intOf]; omega⟩
    · have : i = 12 := by omega
      subst this
      have hn : lowc c = c := low_none fun p hp => by
        obtain ⟨j, hj⟩ := List.mem_iff_getElem?.1 hp
        exact hno j p (List.getElem?_eq_some_iff.1 hj).1 hj
      have HU : Hid (_ = _) := hn
      clear hI hn hno
      go_wp2
      go_ret
      exact ⟨ret_int HU.out.symm, hB⟩
end Go.Proofs.YtiejollfeggeoaaDoor
