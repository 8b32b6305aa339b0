/-
  The walks of package width's tables and of the search in them: marks, wide, slices.BinarySearch at []rune, within. Conditions: the searched list is rising.
-/
import Derived.Test.YtfjoklbiocniiaaDoorPkB
import Derived.WalkKit
import Derived.WalkLawsBesides
import Derived.WalkSpells
import Derived.Great.Walk
import Derived.Great.BuildSlice
namespace Go.Proofs.YtfjoklbiocniiaaDoor
open Go.RowKit Go.Great Wid

def arr (zs : List Int) : Array Value := (zs.map (Value.int .i32)).toArray

theorem setRow_alloc (w : World) (vs us : Array Value) (t : TypeId) : (w.alloc (.cells vs t)).setRow w.heap.size us = w.alloc (.cells us t) := by
  unfold World.setRow World.alloc
  congr 1
  apply Array.ext
  · simp
  · intro k h1 h2
    simp only [Array.getElem_modify, Array.getElem_push]
    split
    · rename_i hk; subst hk; simp
    · rename_i hk
      have : k < w.heap.size := by simp at h2; omega
      simp [this]

theorem alloc_at (w : World) (vs : Array Value) (t : TypeId) (j : Nat) (v : Value) (h : vs.toList[j]? = some v) : (w.alloc (.cells vs t)).cell? ((⟨w.heap.size, 0, none⟩ : Addr).add j) = some v := by
  rw [Go.WideShapes.add_plain, Nat.zero_add]
  have e : (w.alloc (.cells vs t)).heap[w.heap.size]? = some (.cells vs t) := Array.getElem?_push_size
  unfold World.cell?
  simp only [e]
  simpa using h

/-- a function's one result, an array in a cell -/
theorem res_arr {P : Program} {fn : Func} {t e : TypeId} {n d : Nat} {i : TypeInfo} (hr : fn.results = #[.cell d t]) (hu : P.underlying t = some (.array n e)) (hi : P.info? t = some i) (tmps : Array Value) (w : World) (vs : Array Value) (hs : i.size = vs.size)
    (hp : tmps.getD d undef = .pointer (some ⟨w.heap.size, 0, none⟩)) : (results fn tmps).run P (w.alloc (.cells vs t)) = .ok (.agg vs) (w.alloc (.cells vs t)) := by
  have hl := run_loadCells_list (P := P) (w.alloc (.cells vs t)) ⟨w.heap.size, 0, none⟩ vs.toList (fun j v h => alloc_at w vs t j v h)
  rw [Array.length_toList, Array.toArray_toList] at hl
  rw [Array.getD_eq_getD_getElem?] at hp
  simp only [results, hr]
  simp [hp, asAddr, loadVar, isAgg, run_underlying hu, sizeOf, typeInfo, hi, hs, hl]

set_option maxRecDepth 100000 in
set_option maxHeartbeats 2000000 in
theorem marks_any (w : World) :
    Calls Tryd.prog 76 #[] w fun e w' => e = .returned (.agg (arr (flat mk))) ∧ Below w.heap.size w w' := by
  refine calls_of_wp Tryd.func76 rfl ?_
  refine wp_anyFrame 2 (by as_aux_lemma => kernel_rfl) rfl fun a0 hs0 hd0 => ?_
  apply wp_seq_k; intro K0 hK0
  apply wp_region_lit
  refine wpList_allocTo rfl (some 0) rfl (.pointer (some ⟨w.heap.size, 0, none⟩)) (.cells (Array.replicate 52 (.int .i32 0)) 121) (by as_aux_lemma => kernel_rfl) ?_
  apply wpList_nil
  refine hK0 _ _ ?_
  clear hK0
  apply wp_seq_k; intro K1 hK1
  apply wp_region_lit
  refine wpList_buildFlatArrTo rfl 121 21 52 _ rfl .i32 (flat mk) (some 1) rfl (by as_aux_lemma => kernel_rfl) (by as_aux_lemma => kernel_rfl) (by as_aux_lemma => kernel_rfl) (by as_aux_lemma => kernel_rfl) ?_
  refine wpList_store_rowTo rfl 121 _ _ rfl rfl w.heap.size (arr (flat mk)) ?hx ?hy 121 (Array.replicate 52 (.int .i32 0)) ?hg (by as_aux_lemma => kernel_rfl) (by as_aux_lemma => kernel_rfl) (by as_aux_lemma => kernel_rfl) ?_
  case hx => rw [Act.eval_put_ne _ _ _ _ (by decide), Act.eval_put_same _ _ _ (by omega)]
  case hy => rw [Act.eval_put_same _ _ _ (by rw [Act.size_put]; omega)]; rfl
  case hg => exact Array.getElem?_push_size
  apply wpList_nil
  refine hK1 _ _ ?_
  clear hK1
  rw [setRow_alloc]
  refine wp_ret (bodyPost_ret (res_arr (t := 121) (e := 21) (n := 52) (d := 0) (i := ((Tryd.prog.info? 121).getD default)) (by as_aux_lemma => kernel_rfl) (by as_aux_lemma => kernel_rfl) (by as_aux_lemma => kernel_rfl) _ w _ (by as_aux_lemma => kernel_rfl) ?_) ?_ ⟨rfl, (Below.refl _ w).alloc (Nat.le_refl _) _⟩)
  · have := Act.eval_put_ne (a0.put (some 0) (.pointer (some ⟨w.heap.size, 0, none⟩))) 1 0 (.agg ((flat mk).map (Value.int .i32)).toArray) (by decide)
    rw [Act.eval_put_same _ _ _ (by omega)] at this
    exact this
  · rw [Act.defers_put', Act.defers_put', hd0]
set_option maxRecDepth 100000 in
set_option maxHeartbeats 2000000 in
theorem wide_any (w : World) :
    Calls Tryd.prog 77 #[] w fun e w' => e = .returned (.agg (arr (flat wd))) ∧ Below w.heap.size w w' := by
  refine calls_of_wp Tryd.func77 rfl ?_
  refine wp_anyFrame 2 (by as_aux_lemma => kernel_rfl) rfl fun a0 hs0 hd0 => ?_
  apply wp_seq_k; intro K0 hK0
  apply wp_region_lit
  refine wpList_allocTo rfl (some 0) rfl (.pointer (some ⟨w.heap.size, 0, none⟩)) (.cells (Array.replicate 54 (.int .i32 0)) 123) (by as_aux_lemma => kernel_rfl) ?_
  apply wpList_nil
  refine hK0 _ _ ?_
  clear hK0
  apply wp_seq_k; intro K1 hK1
  apply wp_region_lit
  refine wpList_buildFlatArrTo rfl 123 21 54 _ rfl .i32 (flat wd) (some 1) rfl (by as_aux_lemma => kernel_rfl) (by as_aux_lemma => kernel_rfl) (by as_aux_lemma => kernel_rfl) (by as_aux_lemma => kernel_rfl) ?_
  refine wpList_store_rowTo rfl 123 _ _ rfl rfl w.heap.size (arr (flat wd)) ?hx ?hy 123 (Array.replicate 54 (.int .i32 0)) ?hg (by as_aux_lemma => kernel_rfl) (by as_aux_lemma => kernel_rfl) (by as_aux_lemma => kernel_rfl) ?_
  case hx => rw [Act.eval_put_ne _ _ _ _ (by decide), Act.eval_put_same _ _ _ (by omega)]
  case hy => rw [Act.eval_put_same _ _ _ (by rw [Act.size_put]; omega)]; rfl
  case hg => exact Array.getElem?_push_size
  apply wpList_nil
  refine hK1 _ _ ?_
  clear hK1
  rw [setRow_alloc]
  refine wp_ret (bodyPost_ret (res_arr (t := 123) (e := 21) (n := 54) (d := 0) (i := ((Tryd.prog.info? 123).getD default)) (by as_aux_lemma => kernel_rfl) (by as_aux_lemma => kernel_rfl) (by as_aux_lemma => kernel_rfl) _ w _ (by as_aux_lemma => kernel_rfl) ?_) ?_ ⟨rfl, (Below.refl _ w).alloc (Nat.le_refl _) _⟩)
  · have := Act.eval_put_ne (a0.put (some 0) (.pointer (some ⟨w.heap.size, 0, none⟩))) 1 0 (.agg ((flat wd).map (Value.int .i32)).toArray) (by decide)
    rw [Act.eval_put_same _ _ _ (by omega)] at this
    exact this
  · rw [Act.defers_put', Act.defers_put', hd0]
set_option maxHeartbeats 1000000 in
theorem nanC_any (x : Int) (w : World) : Calls Tryd.prog 84 #[.int .i32 x] w fun e w' => e = .returned (.bool false) ∧ w' = w := by
  go_enter Tryd.func84, Tryd.ntmps84
  go_wp2
  go_ret
  exact ⟨by simp, rfl⟩
set_option maxHeartbeats 1000000 in
theorem nanS_any (x : Int) (w : World) : Calls Tryd.prog 83 #[.int .i32 x] w fun e w' => e = .returned (.bool false) ∧ w' = w := by
  go_enter Tryd.func83, Tryd.ntmps83
  go_wp2
  go_ret
  exact ⟨by simp, rfl⟩
set_option maxHeartbeats 1000000 in
theorem less_any (x y : Int) (w : World) : Calls Tryd.prog 82 #[.int .i32 x, .int .i32 y] w fun e w' => e = .returned (.bool (decide (x < y))) ∧ w' = w := by
  go_enter Tryd.func82, Tryd.ntmps82
  go_wp2_with (go_at_call 84; refine (nanC_any _ _).mono ?_; rintro e w' ⟨rfl, rfl⟩)
  go_ret
  exact ⟨rfl, rfl⟩

theorem ret_two {a b : Bool} {v : Value} (h : a = b) : Ending.returned (.tuple #[v, .bool a]) = Ending.returned (.tuple #[v, .bool b]) := by rw [h]
/-- how many of a list are below x -/
def below (zs : List Int) (x : Int) : Nat := zs.countP fun y => decide (y < x)
/-- in a list that does not fall, those below x stand ahead of all others -/
theorem below_iff (x : Int) : ∀ (zs : List Int), zs.Pairwise (· ≤ ·) → ∀ m, m < zs.length → (zs.getD m 0 < x ↔ m < below zs x)
  | [], _, m, hm => by simp at hm
  | a :: r, h, m, hm => by
    obtain ⟨ha, hr⟩ := List.pairwise_cons.1 h
    unfold below
    rw [List.countP_cons]
    by_cases hax : a < x
    · rw [if_pos (by simpa using hax)]
      cases m with
      | zero => simp [hax]
      | succ m =>
        have := below_iff x r hr m (by simpa using hm)
        unfold below at this
        rw [List.getD_cons_succ, this]
        omega
    · have h0 : r.countP (fun y => decide (y < x)) = 0 := List.countP_eq_zero.2 fun y hy => by have := ha y hy; simp; omega
      rw [if_neg (by simpa using hax), h0]
      cases m with
      | zero => simpa using hax
      | succ m =>
        rw [List.getD_cons_succ]
        have hm' : m < r.length := by simpa using hm
        have := ha (r.getD m 0) (by simp [List.getD, hm'])
        omega
theorem below_mem (x : Int) : ∀ (zs : List Int), zs.Pairwise (· ≤ ·) → zs.contains x = decide (below zs x < zs.length ∧ zs.getD (below zs x) 0 = x)
  | [], _ => by simp
  | a :: r, h => by
    obtain ⟨ha, hr⟩ := List.pairwise_cons.1 h
    have ih := below_mem x r hr
    unfold below at ih ⊢
    rw [List.countP_cons, List.contains_cons]
    by_cases hax : a < x
    · have hne : (x == a) = false := by simp; omega
      rw [if_pos (by simpa using hax), hne, Bool.false_or, ih, List.getD_cons_succ]
      simp
    · have h0 : r.countP (fun y => decide (y < x)) = 0 := List.countP_eq_zero.2 fun y hy => by have := ha y hy; simp; omega
      rw [if_neg (by simpa using hax), h0]
      by_cases hxa : x = a
      · simp [hxa]
      · have hne : (x == a) = false := by simpa using hxa
        have hna : ¬ a = x := fun e => hxa e.symm
        have hnc : r.contains x = false := by
          cases hc : r.contains x with
          | false => rfl
          | true => have := ha x (List.contains_iff_mem.1 hc); omega
        rw [hne, hnc]
        simp [hna]

set_option maxHeartbeats 2000000 in
set_option maxRecDepth 100000 in
/-- the number of those below x, and whether x is among them -/
theorem search_any (b n c : Nat) (zs : List Int) (x : Int) (w : World) (hz : n = zs.length) (hbig : n < 4611686018427387904) (hc : ∀ j, j < zs.length → w.cell? ⟨b, j, none⟩ = some (.int .i32 (zs.getD j 0))) (hs : zs.Pairwise (· ≤ ·)) :
    Calls Tryd.prog 81 #[.slice (some ⟨b, 0, none⟩) n c, .int .i32 x] w fun e w' => e = .returned (.tuple #[.int .i64 (zs.countP (fun y => decide (y < x)) : Nat), .bool (zs.contains x)]) ∧ ∃ q, w' = w.drewN q := by
  have HI : Hid (∀ m, m < n → (zs.getD m 0 < x ↔ m < below zs x)) := fun m hm => below_iff x zs hs m (hz ▸ hm)
  have hmem := below_mem x zs hs
  rw [← hz] at hmem
  have hle : below zs x ≤ n := hz ▸ List.countP_le_length
  have HC : Hid (∀ j, j < n → w.cell? ⟨b, j, none⟩ = some (.int .i32 (zs.getD j 0))) := fun j hj => hc j (hz ▸ hj)
  rw [hmem]
  show Calls _ _ _ _ fun e w' => e = .returned (.tuple #[.int .i64 (below zs x : Nat), _]) ∧ _
  generalize below zs x = t at HI hle
  clear hc hs hz hmem
  go_enter Tryd.func81, Tryd.ntmps81
  go_wp2
  go_loopw [7, 8] (fun s7 s8 wr => ∃ lo hi q : Nat, s7 = .int .i64 lo ∧ s8 = .int .i64 hi ∧ lo ≤ t ∧ t ≤ hi ∧ hi ≤ n ∧ wr = w.drewN q) (fun s7 s8 _ => (intOf s8).toNat - (intOf s7).toNat)
  case atStart => exact ⟨0, n, 0, rfl, rfl, Nat.zero_le _, hle, Nat.le_refl _, rfl⟩
  case round =>
    obtain ⟨lo, hi, q, rfl, rfl, h1, h2, h3, rfl⟩ := hrel
    by_cases hlt : lo < hi
    · have cm := HC.out ((lo + hi) / 2) (by omega)
      have hm := HI.out ((lo + hi) / 2) (by omega)
      have HM : Hid _ := hm
      clear hm
      generalize zs.getD ((lo + hi) / 2) 0 = y at cm HM
      have HG : Hid (¬ y < x → t ≤ (lo + hi) / 2) := fun h => Nat.le_of_not_lt fun q => h (HM.out.2 q)
      by_cases hyx : y < x
      · go_wp2_with (first | (go_at_call 82; refine (less_any _ _ _).mono ?_; rintro e w' ⟨rfl, rfl⟩) | (go_at_call 83; refine (nanS_any _ _).mono ?_; rintro e w' ⟨rfl, rfl⟩))
        go_roundw
        case rel => exact ⟨(lo + hi) / 2 + 1, hi, _, congrArg (Value.int .i64) (by omega), rfl, HM.out.1 hyx, h2, h3, rfl⟩
        case measure => simp [intOf]; omega
      · have HG2 : Hid (t ≤ (lo + hi) / 2) := HG.out hyx
        go_wp2_with (first | (go_at_call 82; refine (less_any _ _ _).mono ?_; rintro e w' ⟨rfl, rfl⟩) | (go_at_call 83; refine (nanS_any _ _).mono ?_; rintro e w' ⟨rfl, rfl⟩))
        go_roundw
        case rel => exact ⟨lo, (lo + hi) / 2, _, rfl, congrArg (Value.int .i64) (by omega), h1, HG2.out, by omega, rfl⟩
        case measure => simp [intOf]; omega
    · obtain rfl : lo = t := by omega
      obtain rfl : hi = lo := by omega
      by_cases hn : hi < n
      · have cl := HC.out hi hn
        obtain ⟨y, hy⟩ : ∃ y, zs.getD hi 0 = y := ⟨_, rfl⟩
        rw [hy] at cl
        by_cases hyx : y = x
        · have HE : Hid (decide (hi < n ∧ zs.getD hi 0 = x) = true) := decide_eq_true ⟨hn, by rw [hy, hyx]⟩
          clear hy
          go_wp2_with (first | (go_at_call 82; refine (less_any _ _ _).mono ?_; rintro e w' ⟨rfl, rfl⟩) | (go_at_call 83; refine (nanS_any _ _).mono ?_; rintro e w' ⟨rfl, rfl⟩))
          go_ret2
          exact ⟨ret_two HE.out.symm, _, rfl⟩
        · have HE : Hid (decide (hi < n ∧ zs.getD hi 0 = x) = (y == x)) := (decide_eq_false (fun q => hyx (by rw [← hy, q.2]))).trans (beq_eq_false_iff_ne.2 hyx).symm
          clear hy
          go_wp2_with (first | (go_at_call 82; refine (less_any _ _ _).mono ?_; rintro e w' ⟨rfl, rfl⟩) | (go_at_call 83; refine (nanS_any _ _).mono ?_; rintro e w' ⟨rfl, rfl⟩))
          go_ret2
          exact ⟨ret_two HE.out.symm, _, rfl⟩
      · have HE : Hid (decide (hi < n ∧ zs.getD hi 0 = x) = false) := by show _ = false; simp [hn]
        go_wp2_with (first | (go_at_call 82; refine (less_any _ _ _).mono ?_; rintro e w' ⟨rfl, rfl⟩) | (go_at_call 83; refine (nanS_any _ _).mono ?_; rintro e w' ⟨rfl, rfl⟩))
        go_ret2
        exact ⟨ret_two HE.out.symm, _, rfl⟩

set_option maxHeartbeats 1000000 in
set_option maxRecDepth 100000 in
theorem within_any (b n c : Nat) (l : List (Int × Int)) (lo x : Int) (w : World) (hz : n = (flat l).length) (hbig : n < 4611686018427387904) (hc : ∀ j, j < (flat l).length → w.cell? ⟨b, j, none⟩ = some (.int .i32 ((flat l).getD j 0))) (hs : rising lo l = true) :
    Calls Tryd.prog 78 #[.slice (some ⟨b, 0, none⟩) n c, .int .i32 x] w fun e w' => e = .returned (.bool (inR l x)) ∧ ∃ q, w' = w.drewN q := by
  have cS := search_any b n c (flat l) x w hz hbig hc (flat_sorted l lo hs)
  have key := within_flat l lo hs x
  clear hc
  generalize (flat l).contains x = f at cS key
  have hle : (flat l).countP (fun y => decide (y < x)) ≤ (flat l).length := List.countP_le_length
  generalize (flat l).countP (fun y => decide (y < x)) = m at cS key hle
  rw [← key]
  clear key
  have hm : m < 4611686018427387904 := by omega
  have hp : ((m : Int) % 2 == 1) = decide (m % 2 = 1) := by rw [Bool.eq_iff_iff]; simp; omega
  have HP : Hid _ := hp
  clear hle hz hp
  cases f with
  | true =>
    go_enter Tryd.func78, Tryd.ntmps78
    go_wp2_with (go_at_call 81; refine cS.mono ?_; rintro e w' ⟨rfl, q, rfl⟩)
    go_ret
    exact ⟨by simp, q, rfl⟩
  | false =>
    go_enter Tryd.func78, Tryd.ntmps78
    go_wp2_with (go_at_call 81; refine cS.mono ?_; rintro e w' ⟨rfl, q, rfl⟩)
    go_ret
    exact ⟨congrArg (fun t => Ending.returned (.bool t)) (HP.out.trans (Bool.false_or _).symm), q, rfl⟩
end Go.Proofs.YtfjoklbiocniiaaDoor
