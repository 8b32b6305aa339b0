/-
  The walks of package width's Class and Cells: for every number the class and the cells that VMath tells. No conditions.
-/
import Derived.Test.YtfjoklbiocniiaaDoorVWalkA
namespace Go.Proofs.YtfjoklbiocniiaaDoor
open Go.RowKit Wid

set_option maxHeartbeats 1000000 in
set_option maxRecDepth 100000 in
theorem valid_any (c : Int) (w : World) : Calls Tryd.prog 75 #[.int .i32 c] w fun e w' => e = .returned (.bool (decide (¬ bad c))) ∧ w = w' := by
  unfold bad
  by_cases h1 : 0 ≤ c ∧ c < 55296
  · obtain ⟨h2, h3⟩ := h1
    rw [decide_eq_true (by omega)]
    go_enter Tryd.func75, Tryd.ntmps75
    go_wp2
    go_ret
    exact ⟨rfl, rfl⟩
  · by_cases h4 : 57343 < c ∧ c ≤ 1114111
    · obtain ⟨h2, h3⟩ := h4
      have h5 : ¬ c < 55296 := by omega
      rw [decide_eq_true (by omega)]
      go_enter Tryd.func75, Tryd.ntmps75
      go_wp2
      go_ret
      exact ⟨rfl, rfl⟩
    · rw [decide_eq_false (by omega)]
      by_cases g1 : 0 ≤ c
      · have g2 : ¬ c < 55296 := by omega
        by_cases g3 : 57343 < c
        · have g4 : ¬ c ≤ 1114111 := by omega
          clear h1 h4
          go_enter Tryd.func75, Tryd.ntmps75
          go_wp2
          go_ret
          exact ⟨rfl, rfl⟩
        · clear h1 h4
          go_enter Tryd.func75, Tryd.ntmps75
          go_wp2
          go_ret
          exact ⟨rfl, rfl⟩
      · have g3 : ¬ 57343 < c := by omega
        clear h1 h4
        go_enter Tryd.func75, Tryd.ntmps75
        go_wp2
        go_ret
        exact ⟨rfl, rfl⟩

theorem arr_cell {w : World} {b : Nat} {zs : List Int} {t : TypeId} (h : w.heap[b]? = some (.cells (arr zs) t (0, 0))) : ∀ j, j < zs.length → w.cell? ⟨b, j, none⟩ = some (.int .i32 (zs.getD j 0)) := by
  intro j hj
  unfold World.cell?
  rw [h]
  simp [arr, hj]
theorem arr_one (zs : List Int) : ∀ v ∈ (arr zs).toList, v.oneCell' = true := by intro v hv; simp [arr] at hv; obtain ⟨z, _, rfl⟩ := hv; rfl
theorem heap_one (w : World) (a : Obj) : (w.alloc a).heap[w.heap.size]? = some a := Array.getElem?_push_size
theorem heap_two (w : World) (a b : Obj) : ((w.alloc a).alloc b).heap[w.heap.size]? = some a := by
  show ((w.heap.push a).push b)[w.heap.size]? = some a
  rw [Array.getElem?_push, if_neg (by simp), Array.getElem?_push_size]
theorem heap_two' (w : World) (a b : Obj) : ((w.alloc a).alloc b).heap[w.heap.size + 1]? = some b := by
  have := heap_one (w.alloc a) b
  rwa [World.size_alloc] at this
theorem heap_drew (w : World) (a b : Obj) (q : Nat) : (((w.alloc a).alloc b).drewN q).heap[w.heap.size + 1]? = some b := heap_two' w a b
theorem setRow_two (w : World) (vs us : Array Value) (t : TypeId) (b : Obj) : ((w.alloc (.cells vs t)).alloc b).setRow w.heap.size us = (w.alloc (.cells us t)).alloc b := by
  have h := setRow_alloc w vs us t
  unfold World.setRow World.alloc at *
  congr 1
  have h' := congrArg World.heap h
  simp only at h'
  rw [← h']
  apply Array.ext
  · simp
  · intro k h1 h2
    simp only [Array.getElem_modify, Array.getElem_push]
    simp at h1
    split
    · rename_i hk; subst hk; simp
    · simp
/-- what a search in a table answers, the table in the block b -/
theorem within_at (b n : Nat) (l : List (Int × Int)) (c : Int) (t : TypeId) (w : World) (h : w.heap[b]? = some (.cells (arr (flat l)) t (0, 0))) (hn : n = (flat l).length) (hb : n < 4611686018427387904) (hl : rising 767 l = true) :
    Calls Tryd.prog 78 #[.slice (some ⟨b, 0, none⟩) n n, .int .i32 c] w fun e w' => e = .returned (.bool (inR l c)) ∧ ∃ q, w' = w.drewN q :=
  within_any b n n l 767 c w hn hb (arr_cell h) hl
theorem fill_one {P : Program} (w : World) (g : Nat) (t : TypeId) (cur M : Array Value) (hg : w.heap[g]? = some (.cells cur t (0, 0))) (hs : M.size = cur.size) (h1 : ∀ v ∈ M.toList, v.oneCell' = true) : (storeCells ⟨g, 0, none⟩ M.toList).run P w = .ok () (w.setRow g M) := by
  have := run_storeCells_from (P := P) g t M.toList 0 cur w hg (by simpa using hs) h1
  simpa using this

theorem below_of {w w2 : World} {a b : Obj} {q : Nat} (h : Below w.heap.size w w2) : Below w.heap.size w (((w2.alloc a).alloc b).drewN q) := by
  have h3 := (h.alloc h.size a).alloc (by have := h.size; simp; omega) b
  exact ⟨h3.os, h3.tape, h3.output, h3.size, h3.block⟩
set_option maxHeartbeats 4000000 in
set_option maxRecDepth 100000 in
theorem class_high (c : Int) (hv : ¬ bad c) (h0 : 768 ≤ c) (w : World) :
    Calls Tryd.prog 65 #[.int .i32 c] w fun e w' => e = .returned (.int .i64 (if inR mk c = true then 3 else if inR wd c = true then 4 else 0)) ∧ Below w.heap.size w w' := by
  have cV := valid_any c w
  rw [decide_eq_true hv] at cV
  clear hv
  have n1 : ¬ c = 10 := by omega
  have n2 : ¬ c < 32 := by omega
  have n3 : ¬ c ≤ 159 := by omega
  have n4 : ¬ c < 768 := by omega
  have n5 : 127 ≤ c := by omega
  have cM : ∀ w, Calls Tryd.prog 76 #[] w fun e w' => e = .returned (.agg (arr (flat mk))) ∧ Below w.heap.size w w' := marks_any
  have cW : ∀ w, Calls Tryd.prog 77 #[] w fun e w' => e = .returned (.agg (arr (flat wd))) ∧ Below w.heap.size w w' := wide_any
  have sM : (arr (flat mk)).size = 52 := by kernel_rfl
  have sW : (arr (flat wd)).size = 54 := by kernel_rfl
  have oM : ∀ v ∈ (arr (flat mk)).toList, v.oneCell' = true := arr_one _
  have oW : ∀ v ∈ (arr (flat wd)).toList, v.oneCell' = true := arr_one _
  have aM : ∀ (w : World), w.heap.size + 1 < w.heap.size + 2 → ∀ b, w.heap[b]? = some (.cells (arr (flat mk)) 121 (0, 0)) → Calls Tryd.prog 78 #[.slice (some ⟨b, 0, none⟩) 52 52, .int .i32 c] w fun e w' => e = .returned (.bool (inR mk c)) ∧ ∃ q, w' = w.drewN q := fun w _ b h =>
    within_at b 52 mk c _ w h (by kernel_rfl) (by decide) mk_rising
  have aW : ∀ (w : World), w.heap.size + 1 < w.heap.size + 2 → ∀ b, w.heap[b]? = some (.cells (arr (flat wd)) 123 (0, 0)) → Calls Tryd.prog 78 #[.slice (some ⟨b, 0, none⟩) 54 54, .int .i32 c] w fun e w' => e = .returned (.bool (inR wd c)) ∧ ∃ q, w' = w.drewN q := fun w _ b h =>
    within_at b 54 wd c _ w h (by kernel_rfl) (by decide) wd_rising
  generalize arr (flat mk) = M at cM sM oM aM
  generalize arr (flat wd) = V at cW sW oW aW
  have fM : ∀ (w : World) (Z : Array Value) (o : Obj), Z.size = 52 → (storeCells ⟨w.heap.size, 0, none⟩ M.toList).run Tryd.prog ((w.alloc (.cells Z 121)).alloc o) = .ok () ((w.alloc (.cells M 121)).alloc o) := fun w Z o hZ => by
    rw [fill_one _ _ 121 Z M (heap_two w _ o) (by rw [sM, hZ]) oM, setRow_two]
  have fW : ∀ (w : World) (Z : Array Value) (o : Obj), Z.size = 54 → (storeCells ⟨w.heap.size + 1, 0, none⟩ V.toList).run Tryd.prog ((w.alloc o).alloc (.cells Z 123)) = .ok () ((w.alloc o).alloc (.cells V 123)) := fun w Z o hZ => by
    rw [fill_one _ _ 123 Z V (heap_two' w o _) (by rw [sW, hZ]) oW]
    have := setRow_alloc (w.alloc o) Z V 123
    rw [World.size_alloc] at this
    rw [this]
  have AM : Hid _ := aM
  have AW : Hid _ := aW
  clear aM aW oM oW
  generalize inR mk c = bm at AM
  generalize inR wd c = bw at AW
  cases bm with
  | true =>
    go_enter Tryd.func65, Tryd.ntmps65
    go_wp2_with (first | (go_at_call 75; refine cV.mono ?_; clear cV; rintro e w' ⟨rfl, rfl⟩) | (go_at_call 76; refine (cM _).mono ?_; clear cM; rintro e w1 ⟨rfl, hb1⟩) | (go_at_call 77; refine (cW _).mono ?_; clear cW; rintro e w2 ⟨rfl, hb2⟩) | (go_at_call 78; refine (AM.out _ (by omega) _ (heap_two _ _ _)).mono ?_; clear AM; rintro e w3 ⟨rfl, q, rfl⟩))
    all_goals go_ret
    all_goals exact ⟨rfl, below_of (hb1.trans (hb2.mono hb1.size))⟩
  | false =>
    cases bw with
    | true =>
      go_enter Tryd.func65, Tryd.ntmps65
      go_wp2_with (first | (go_at_call 75; refine cV.mono ?_; clear cV; rintro e w' ⟨rfl, rfl⟩) | (go_at_call 76; refine (cM _).mono ?_; clear cM; rintro e w1 ⟨rfl, hb1⟩) | (go_at_call 77; refine (cW _).mono ?_; clear cW; rintro e w2 ⟨rfl, hb2⟩) | (go_at_call 78; refine (AM.out _ (by omega) _ (heap_two _ _ _)).mono ?_; clear AM; rintro e w3 ⟨rfl, q, rfl⟩) | (go_at_call 78; refine (AW.out _ (by omega) _ (heap_drew _ _ _ _)).mono ?_; clear AW; rintro e w3 ⟨rfl, q2, rfl⟩))
      all_goals go_ret
      all_goals exact ⟨rfl, below_of (hb1.trans (hb2.mono hb1.size))⟩
    | false =>
      go_enter Tryd.func65, Tryd.ntmps65
      go_wp2_with (first | (go_at_call 75; refine cV.mono ?_; clear cV; rintro e w' ⟨rfl, rfl⟩) | (go_at_call 76; refine (cM _).mono ?_; clear cM; rintro e w1 ⟨rfl, hb1⟩) | (go_at_call 77; refine (cW _).mono ?_; clear cW; rintro e w2 ⟨rfl, hb2⟩) | (go_at_call 78; refine (AM.out _ (by omega) _ (heap_two _ _ _)).mono ?_; clear AM; rintro e w3 ⟨rfl, q, rfl⟩) | (go_at_call 78; refine (AW.out _ (by omega) _ (heap_drew _ _ _ _)).mono ?_; clear AW; rintro e w3 ⟨rfl, q2, rfl⟩))
      all_goals go_ret
      all_goals exact ⟨rfl, below_of (hb1.trans (hb2.mono hb1.size))⟩

set_option maxHeartbeats 2000000 in
set_option maxRecDepth 100000 in
theorem class_bad (c : Int) (hv : bad c) (w : World) : Calls Tryd.prog 65 #[.int .i32 c] w fun e w' => e = .returned (.int .i64 5) ∧ w = w' := by
  have cV := valid_any c w
  rw [decide_eq_false (fun h => h hv)] at cV
  clear hv
  go_enter Tryd.func65, Tryd.ntmps65
  go_wp2_with (go_at_call 75; refine cV.mono ?_; clear cV; rintro e w' ⟨rfl, rfl⟩)
  go_ret
  exact ⟨rfl, rfl⟩
set_option maxHeartbeats 2000000 in
set_option maxRecDepth 100000 in
theorem class_low (c : Int) (hv : ¬ bad c) (h0 : c < 768) (w : World) : Calls Tryd.prog 65 #[.int .i32 c] w fun e w' => e = .returned (.int .i64 (if c = 10 then 1 else if c ≤ 31 ∨ (127 ≤ c ∧ c ≤ 159) then 2 else 0)) ∧ w = w' := by
  have cV := valid_any c w
  rw [decide_eq_true hv] at cV
  have hc : 0 ≤ c := by unfold bad at hv; omega
  clear hv
  have W : ∀ n : Int, c ≠ 10 → (c < 32 ∧ n = 2 ∨ 32 ≤ c ∧ c < 127 ∧ n = 0 ∨ 127 ≤ c ∧ c ≤ 159 ∧ n = 2 ∨ 159 < c ∧ n = 0) → Calls Tryd.prog 65 #[.int .i32 c] w fun e w' => e = .returned (.int .i64 n) ∧ w = w' := by
    rintro n g0 (⟨g1, rfl⟩ | ⟨g1, g2, rfl⟩ | ⟨g1, g2, rfl⟩ | ⟨g1, rfl⟩)
    · go_enter Tryd.func65, Tryd.ntmps65
      go_wp2_with (go_at_call 75; refine cV.mono ?_; clear cV; rintro e w' ⟨rfl, rfl⟩)
      go_ret
      exact ⟨rfl, rfl⟩
    · have g3 : ¬ c < 32 := by omega
      have g4 : ¬ 127 ≤ c := by omega
      go_enter Tryd.func65, Tryd.ntmps65
      go_wp2_with (go_at_call 75; refine cV.mono ?_; clear cV; rintro e w' ⟨rfl, rfl⟩)
      go_ret
      exact ⟨rfl, rfl⟩
    · have g3 : ¬ c < 32 := by omega
      go_enter Tryd.func65, Tryd.ntmps65
      go_wp2_with (go_at_call 75; refine cV.mono ?_; clear cV; rintro e w' ⟨rfl, rfl⟩)
      go_ret
      exact ⟨rfl, rfl⟩
    · have g3 : ¬ c < 32 := by omega
      have g4 : 127 ≤ c := by omega
      have g5 : ¬ c ≤ 159 := by omega
      go_enter Tryd.func65, Tryd.ntmps65
      go_wp2_with (go_at_call 75; refine cV.mono ?_; clear cV; rintro e w' ⟨rfl, rfl⟩)
      go_ret
      exact ⟨rfl, rfl⟩
  by_cases h1 : c = 10
  · subst h1
    clear W
    rw [if_pos rfl]
    go_enter Tryd.func65, Tryd.ntmps65
    go_wp2_with (go_at_call 75; refine cV.mono ?_; clear cV; rintro e w' ⟨rfl, rfl⟩)
    go_ret
    exact ⟨rfl, rfl⟩
  · rw [if_neg h1]
    refine W _ h1 ?_
    split <;> omega

/-- Class answers the class, whatever the number is -/
theorem class_any (c : Int) (w : World) : Calls Tryd.prog 65 #[.int .i32 c] w fun e w' => e = .returned (.int .i64 (cls c)) ∧ Below w.heap.size w w' := by
  by_cases hv : bad c
  · rw [show cls c = 5 from if_pos hv]
    exact (class_bad c hv w).mono fun e w' ⟨h1, h2⟩ => ⟨h1, h2 ▸ Below.refl _ _⟩
  · by_cases h0 : c < 768
    · rw [show cls c = (if c = 10 then 1 else if c ≤ 31 ∨ (127 ≤ c ∧ c ≤ 159) then 2 else 0) by unfold cls; rw [if_neg hv, if_pos h0]]
      exact (class_low c hv h0 w).mono fun e w' ⟨h1, h2⟩ => ⟨h1, h2 ▸ Below.refl _ _⟩
    · rw [show cls c = (if inR mk c = true then 3 else if inR wd c = true then 4 else 0) by unfold cls; rw [if_neg hv, if_neg (by omega), if_neg (by omega), if_neg h0]]
      exact class_high c hv (by omega) w

theorem cls_range (c : Int) : cls c = 0 ∨ cls c = 1 ∨ cls c = 2 ∨ cls c = 3 ∨ cls c = 4 ∨ cls c = 5 := by
  unfold cls
  repeat' split
  all_goals simp

set_option maxHeartbeats 2000000 in
set_option maxRecDepth 100000 in
/-- Cells answers the cells, whatever the number is -/
theorem cells_any (c : Int) (w : World) : Calls Tryd.prog 66 #[.int .i32 c] w fun e w' => e = .returned (.int .i64 (cel c)) ∧ Below w.heap.size w w' := by
  have cC := class_any c w
  unfold cel
  have hr := cls_range c
  generalize cls c = k at cC hr
  rcases hr with rfl | rfl | rfl | rfl | rfl | rfl
  case inr.inr.inl =>
    by_cases h : c ≤ 127
    · rw [if_neg (by decide), if_neg (by decide), if_pos ⟨rfl, h⟩]
      go_enter Tryd.func66, Tryd.ntmps66
      go_wp2_with (go_at_call 65; refine cC.mono ?_; clear cC; rintro e w' ⟨rfl, hb⟩)
      go_ret
      exact ⟨rfl, hb⟩
    · rw [if_neg (by decide), if_neg (by decide), if_neg (fun q => h q.2)]
      go_enter Tryd.func66, Tryd.ntmps66
      go_wp2_with (go_at_call 65; refine cC.mono ?_; clear cC; rintro e w' ⟨rfl, hb⟩)
      go_ret
      exact ⟨rfl, hb⟩
  all_goals
    go_enter Tryd.func66, Tryd.ntmps66
    go_wp2_with (go_at_call 65; refine cC.mono ?_; clear cC; rintro e w' ⟨rfl, hb⟩)
    go_ret
    exact ⟨rfl, hb⟩
end Go.Proofs.YtfjoklbiocniiaaDoor
