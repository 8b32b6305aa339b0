/-
  Package width, walked. Conditions: those of each theorem.
-/
import Derived.Test.YtdggbnkhbmffoaaGreatDoorPkB
import Derived.WalkKit
import Derived.WalkLawsBesides
import Derived.WalkSpells
import Derived.Great.Walk
import Derived.Great.BuildSlice
import Derived.OwnWalk
import Derived.ArgAppend
import Derived.Deep.RegionLaw
namespace Go.Proofs.YtdggbnkhbmffoaaGreatDoor
open Go.RowKit Go.Great Wid

def arr (zs : List Int) : Array Value := (zs.map (Value.int .i32)).toArray

theorem setRow_alloc (w : World) (vs us : Array Value) (t : TypeId) : (w.alloc (.cells vs t)).setRow w.heap.size us = w.alloc (.cells us t) := by
  unfold World.setRow World.alloc
  congr 1
  apply Array.ext
  · simp
  · intro k h1 h2
    simp only [Array.getElem_modify, Array.getElem_push]
    split
    · rename_i hk; subst hk; simp
    · rename_i hk
      have : k < w.heap.size := by simp at h2; omega
      simp [this]

theorem alloc_at (w : World) (vs : Array Value) (t : TypeId) (j : Nat) (v : Value) (h : vs.toList[j]? = some v) : (w.alloc (.cells vs t)).cell? ((⟨w.heap.size, 0, none⟩ : Addr).add j) = some v := by
  rw [Go.WideShapes.add_plain, Nat.zero_add]
  have e : (w.alloc (.cells vs t)).heap[w.heap.size]? = some (.cells vs t) := Array.getElem?_push_size
  unfold World.cell?
  simp only [e]
  simpa using h

/-- a function's one result, an array in a cell -/
theorem res_arr {P : Program} {fn : Func} {t e : TypeId} {n d : Nat} {i : TypeInfo} (hr : fn.results = #[.cell d t]) (hu : P.underlying t = some (.array n e)) (hi : P.info? t = some i) (tmps : Array Value) (w : World) (vs : Array Value) (hs : i.size = vs.size)
    (hp : tmps.getD d undef = .pointer (some ⟨w.heap.size, 0, none⟩)) : (results fn tmps).run P (w.alloc (.cells vs t)) = .ok (.agg vs) (w.alloc (.cells vs t)) := by
  have hl := run_loadCells_list (P := P) (w.alloc (.cells vs t)) ⟨w.heap.size, 0, none⟩ vs.toList (fun j v h => alloc_at w vs t j v h)
  rw [Array.length_toList, Array.toArray_toList] at hl
  rw [Array.getD_eq_getD_getElem?] at hp
  simp only [results, hr]
  simp [hp, asAddr, loadVar, isAgg, run_underlying hu, sizeOf, typeInfo, hi, hs, hl]

set_option maxRecDepth 100000 in
set_option maxHeartbeats 2000000 in
theorem marks_any (w : World) :
    Calls Tryz.prog 118 #[] w fun e w' => e = .returned (.agg (arr (flat mk))) ∧ Below w.heap.size w w' := by
  refine calls_of_wp Tryz.func118 rfl ?_
  refine wp_anyFrame 2 (by as_aux_lemma => kernel_rfl) rfl fun a0 hs0 hd0 => ?_
  apply wp_seq_k; intro K0 hK0
  apply wp_region_lit
  refine wpList_allocTo rfl (some 0) rfl (.pointer (some ⟨w.heap.size, 0, none⟩)) (.cells (Array.replicate 52 (.int .i32 0)) 137) (by as_aux_lemma => kernel_rfl) ?_
  apply wpList_nil
  refine hK0 _ _ ?_
  clear hK0
  apply wp_seq_k; intro K1 hK1
  apply wp_region_lit
  refine wpList_buildFlatArrTo rfl 137 21 52 _ rfl .i32 (flat mk) (some 1) rfl (by as_aux_lemma => kernel_rfl) (by as_aux_lemma => kernel_rfl) (by as_aux_lemma => kernel_rfl) (by as_aux_lemma => kernel_rfl) ?_
  refine wpList_store_rowTo rfl 137 _ _ rfl rfl w.heap.size (arr (flat mk)) ?hx ?hy 137 (Array.replicate 52 (.int .i32 0)) ?hg (by as_aux_lemma => kernel_rfl) (by as_aux_lemma => kernel_rfl) (by as_aux_lemma => kernel_rfl) ?_
  case hx => rw [Act.eval_put_ne _ _ _ _ (by decide), Act.eval_put_same _ _ _ (by omega)]
  case hy => rw [Act.eval_put_same _ _ _ (by rw [Act.size_put]; omega)]; rfl
  case hg => exact Array.getElem?_push_size
  apply wpList_nil
  refine hK1 _ _ ?_
  clear hK1
  rw [setRow_alloc]
  refine wp_ret (bodyPost_ret (res_arr (t := 137) (e := 21) (n := 52) (d := 0) (i := ((Tryz.prog.info? 137).getD default)) (by as_aux_lemma => kernel_rfl) (by as_aux_lemma => kernel_rfl) (by as_aux_lemma => kernel_rfl) _ w _ (by as_aux_lemma => kernel_rfl) ?_) ?_ ⟨rfl, (Below.refl _ w).alloc (Nat.le_refl _) _⟩)
  · have := Act.eval_put_ne (a0.put (some 0) (.pointer (some ⟨w.heap.size, 0, none⟩))) 1 0 (.agg ((flat mk).map (Value.int .i32)).toArray) (by decide)
    rw [Act.eval_put_same _ _ _ (by omega)] at this
    exact this
  · rw [Act.defers_put', Act.defers_put', hd0]
set_option maxRecDepth 100000 in
set_option maxHeartbeats 2000000 in
theorem wide_any (w : World) :
    Calls Tryz.prog 119 #[] w fun e w' => e = .returned (.agg (arr (flat wd))) ∧ Below w.heap.size w w' := by
  refine calls_of_wp Tryz.func119 rfl ?_
  refine wp_anyFrame 2 (by as_aux_lemma => kernel_rfl) rfl fun a0 hs0 hd0 => ?_
  apply wp_seq_k; intro K0 hK0
  apply wp_region_lit
  refine wpList_allocTo rfl (some 0) rfl (.pointer (some ⟨w.heap.size, 0, none⟩)) (.cells (Array.replicate 54 (.int .i32 0)) 139) (by as_aux_lemma => kernel_rfl) ?_
  apply wpList_nil
  refine hK0 _ _ ?_
  clear hK0
  apply wp_seq_k; intro K1 hK1
  apply wp_region_lit
  refine wpList_buildFlatArrTo rfl 139 21 54 _ rfl .i32 (flat wd) (some 1) rfl (by as_aux_lemma => kernel_rfl) (by as_aux_lemma => kernel_rfl) (by as_aux_lemma => kernel_rfl) (by as_aux_lemma => kernel_rfl) ?_
  refine wpList_store_rowTo rfl 139 _ _ rfl rfl w.heap.size (arr (flat wd)) ?hx ?hy 139 (Array.replicate 54 (.int .i32 0)) ?hg (by as_aux_lemma => kernel_rfl) (by as_aux_lemma => kernel_rfl) (by as_aux_lemma => kernel_rfl) ?_
  case hx => rw [Act.eval_put_ne _ _ _ _ (by decide), Act.eval_put_same _ _ _ (by omega)]
  case hy => rw [Act.eval_put_same _ _ _ (by rw [Act.size_put]; omega)]; rfl
  case hg => exact Array.getElem?_push_size
  apply wpList_nil
  refine hK1 _ _ ?_
  clear hK1
  rw [setRow_alloc]
  refine wp_ret (bodyPost_ret (res_arr (t := 139) (e := 21) (n := 54) (d := 0) (i := ((Tryz.prog.info? 139).getD default)) (by as_aux_lemma => kernel_rfl) (by as_aux_lemma => kernel_rfl) (by as_aux_lemma => kernel_rfl) _ w _ (by as_aux_lemma => kernel_rfl) ?_) ?_ ⟨rfl, (Below.refl _ w).alloc (Nat.le_refl _) _⟩)
  · have := Act.eval_put_ne (a0.put (some 0) (.pointer (some ⟨w.heap.size, 0, none⟩))) 1 0 (.agg ((flat wd).map (Value.int .i32)).toArray) (by decide)
    rw [Act.eval_put_same _ _ _ (by omega)] at this
    exact this
  · rw [Act.defers_put', Act.defers_put', hd0]
set_option maxHeartbeats 1000000 in
theorem nanC_any (x : Int) (w : World) : Calls Tryz.prog 147 #[.int .i32 x] w fun e w' => e = .returned (.bool false) ∧ w' = w := by
  go_enter Tryz.func147, Tryz.ntmps147
  go_wp2
  go_ret
  exact ⟨by simp, rfl⟩
set_option maxHeartbeats 1000000 in
theorem nanS_any (x : Int) (w : World) : Calls Tryz.prog 146 #[.int .i32 x] w fun e w' => e = .returned (.bool false) ∧ w' = w := by
  go_enter Tryz.func146, Tryz.ntmps146
  go_wp2
  go_ret
  exact ⟨by simp, rfl⟩
set_option maxHeartbeats 1000000 in
theorem less_any (x y : Int) (w : World) : Calls Tryz.prog 145 #[.int .i32 x, .int .i32 y] w fun e w' => e = .returned (.bool (decide (x < y))) ∧ w' = w := by
  go_enter Tryz.func145, Tryz.ntmps145
  go_wp2_with (go_at_call 147; refine (nanC_any _ _).mono ?_; rintro e w' ⟨rfl, rfl⟩)
  go_ret
  exact ⟨rfl, rfl⟩

theorem ret_two {a b : Bool} {v : Value} (h : a = b) : Ending.returned (.tuple #[v, .bool a]) = Ending.returned (.tuple #[v, .bool b]) := by rw [h]
/-- how many of a list are below x -/
def below (zs : List Int) (x : Int) : Nat := zs.countP fun y => decide (y < x)
/-- in a list that does not fall, those below x stand ahead of all others -/
theorem below_iff (x : Int) : ∀ (zs : List Int), zs.Pairwise (· ≤ ·) → ∀ m, m < zs.length → (zs.getD m 0 < x ↔ m < below zs x)
  | [], _, m, hm => by simp at hm
  | a :: r, h, m, hm => by
    obtain ⟨ha, hr⟩ := List.pairwise_cons.1 h
    unfold below
    rw [List.countP_cons]
    by_cases hax : a < x
    · rw [if_pos (by simpa using hax)]
      cases m with
      | zero => simp [hax]
      | succ m =>
        have := below_iff x r hr m (by simpa using hm)
        unfold below at this
        rw [List.getD_cons_succ, this]
        omega
    · have h0 : r.countP (fun y => decide (y < x)) = 0 := List.countP_eq_zero.2 fun y hy => by have := ha y hy; simp; omega
      rw [if_neg (by simpa using hax), h0]
      cases m with
      | zero => simpa using hax
      | succ m =>
        rw [List.getD_cons_succ]
        have hm' : m < r.length := by simpa using hm
        have := ha (r.getD m 0) (by simp [List.getD, hm'])
        omega
theorem below_mem (x : Int) : ∀ (zs : List Int), zs.Pairwise (· ≤ ·) → zs.contains x = decide (below zs x < zs.length ∧ zs.getD (below zs x) 0 = x)
  | [], _ => by simp
  | a :: r, h => by
    obtain ⟨ha, hr⟩ := List.pairwise_cons.1 h
    have ih := below_mem x r hr
    unfold below at ih ⊢
    rw [List.countP_cons, List.contains_cons]
    by_cases hax : a < x
    · have hne : (x == a) = false := by simp; omega
      rw [if_pos (by simpa using hax), hne, Bool.false_or, ih, List.getD_cons_succ]
      simp
    · have h0 : r.countP (fun y => decide (y < x)) = 0 := List.countP_eq_zero.2 fun y hy => by have := ha y hy; simp; omega
      rw [if_neg (by simpa using hax), h0]
      by_cases hxa : x = a
      · simp [hxa]
      · have hne : (x == a) = false := by simpa using hxa
        have hna : ¬ a = x := fun e => hxa e.symm
        have hnc : r.contains x = false := by
          cases hc : r.contains x with
          | false => rfl
          | true => have := ha x (List.contains_iff_mem.1 hc); omega
        rw [hne, hnc]
        simp [hna]

set_option maxHeartbeats 2000000 in
set_option maxRecDepth 100000 in
/-- the number of those below x, and whether x is among them -/
theorem search_any (b n c : Nat) (zs : List Int) (x : Int) (w : World) (hz : n = zs.length) (hbig : n < 4611686018427387904) (hc : ∀ j, j < zs.length → w.cell? ⟨b, j, none⟩ = some (.int .i32 (zs.getD j 0))) (hs : zs.Pairwise (· ≤ ·)) :
    Calls Tryz.prog 138 #[.slice (some ⟨b, 0, none⟩) n c, .int .i32 x] w fun e w' => e = .returned (.tuple #[.int .i64 (zs.countP (fun y => decide (y < x)) : Nat), .bool (zs.contains x)]) ∧ ∃ q, w' = w.drewN q := by
  have HI : Hid (∀ m, m < n → (zs.getD m 0 < x ↔ m < below zs x)) := fun m hm => below_iff x zs hs m (hz ▸ hm)
  have hmem := below_mem x zs hs
  rw [← hz] at hmem
  have hle : below zs x ≤ n := hz ▸ List.countP_le_length
  have HC : Hid (∀ j, j < n → w.cell? ⟨b, j, none⟩ = some (.int .i32 (zs.getD j 0))) := fun j hj => hc j (hz ▸ hj)
  rw [hmem]
  show Calls _ _ _ _ fun e w' => e = .returned (.tuple #[.int .i64 (below zs x : Nat), _]) ∧ _
  generalize below zs x = t at HI hle
  clear hc hs hz hmem
  go_enter Tryz.func138, Tryz.ntmps138
  go_wp2
  go_loopw [7, 8] (fun s7 s8 wr => ∃ lo hi q : Nat, s7 = .int .i64 lo ∧ s8 = .int .i64 hi ∧ lo ≤ t ∧ t ≤ hi ∧ hi ≤ n ∧ wr = w.drewN q) (fun s7 s8 _ => (intOf s8).toNat - (intOf s7).toNat)
  case atStart => exact ⟨0, n, 0, rfl, rfl, Nat.zero_le _, hle, Nat.le_refl _, rfl⟩
  case round =>
    obtain ⟨lo, hi, q, rfl, rfl, h1, h2, h3, rfl⟩ := hrel
    by_cases hlt : lo < hi
    · have cm := HC.out ((lo + hi) / 2) (by omega)
      have hm := HI.out ((lo + hi) / 2) (by omega)
      have HM : Hid _ := hm
      clear hm
      generalize zs.getD ((lo + hi) / 2) 0 = y at cm HM
      have HG : Hid (¬ y < x → t ≤ (lo + hi) / 2) := fun h => Nat.le_of_not_lt fun q => h (HM.out.2 q)
      by_cases hyx : y < x
      · go_wp2_with (first | (go_at_call 145; refine (less_any _ _ _).mono ?_; rintro e w' ⟨rfl, rfl⟩) | (go_at_call 146; refine (nanS_any _ _).mono ?_; rintro e w' ⟨rfl, rfl⟩))
        go_roundw
        case rel => exact ⟨(lo + hi) / 2 + 1, hi, _, congrArg (Value.int .i64) (by omega), rfl, HM.out.1 hyx, h2, h3, rfl⟩
        case measure => simp [intOf]; omega
      · have HG2 : Hid (t ≤ (lo + hi) / 2) := HG.out hyx
        go_wp2_with (first | (go_at_call 145; refine (less_any _ _ _).mono ?_; rintro e w' ⟨rfl, rfl⟩) | (go_at_call 146; refine (nanS_any _ _).mono ?_; rintro e w' ⟨rfl, rfl⟩))
        go_roundw
        case rel => exact ⟨lo, (lo + hi) / 2, _, rfl, congrArg (Value.int .i64) (by omega), h1, HG2.out, by omega, rfl⟩
        case measure => simp [intOf]; omega
    · obtain rfl : lo = t := by omega
      obtain rfl : hi = lo := by omega
      by_cases hn : hi < n
      · have cl := HC.out hi hn
        obtain ⟨y, hy⟩ : ∃ y, zs.getD hi 0 = y := ⟨_, rfl⟩
        rw [hy] at cl
        by_cases hyx : y = x
        · have HE : Hid (decide (hi < n ∧ zs.getD hi 0 = x) = true) := decide_eq_true ⟨hn, by rw [hy, hyx]⟩
          clear hy
          go_wp2_with (first | (go_at_call 145; refine (less_any _ _ _).mono ?_; rintro e w' ⟨rfl, rfl⟩) | (go_at_call 146; refine (nanS_any _ _).mono ?_; rintro e w' ⟨rfl, rfl⟩))
          go_ret2
          exact ⟨ret_two HE.out.symm, _, rfl⟩
        · have HE : Hid (decide (hi < n ∧ zs.getD hi 0 = x) = (y == x)) := (decide_eq_false (fun q => hyx (by rw [← hy, q.2]))).trans (beq_eq_false_iff_ne.2 hyx).symm
          clear hy
          go_wp2_with (first | (go_at_call 145; refine (less_any _ _ _).mono ?_; rintro e w' ⟨rfl, rfl⟩) | (go_at_call 146; refine (nanS_any _ _).mono ?_; rintro e w' ⟨rfl, rfl⟩))
          go_ret2
          exact ⟨ret_two HE.out.symm, _, rfl⟩
      · have HE : Hid (decide (hi < n ∧ zs.getD hi 0 = x) = false) := by show _ = false; simp [hn]
        go_wp2_with (first | (go_at_call 145; refine (less_any _ _ _).mono ?_; rintro e w' ⟨rfl, rfl⟩) | (go_at_call 146; refine (nanS_any _ _).mono ?_; rintro e w' ⟨rfl, rfl⟩))
        go_ret2
        exact ⟨ret_two HE.out.symm, _, rfl⟩

set_option maxHeartbeats 1000000 in
set_option maxRecDepth 100000 in
theorem within_any (b n c : Nat) (l : List (Int × Int)) (lo x : Int) (w : World) (hz : n = (flat l).length) (hbig : n < 4611686018427387904) (hc : ∀ j, j < (flat l).length → w.cell? ⟨b, j, none⟩ = some (.int .i32 ((flat l).getD j 0))) (hs : rising lo l = true) :
    Calls Tryz.prog 120 #[.slice (some ⟨b, 0, none⟩) n c, .int .i32 x] w fun e w' => e = .returned (.bool (inR l x)) ∧ ∃ q, w' = w.drewN q := by
  have cS := search_any b n c (flat l) x w hz hbig hc (flat_sorted l lo hs)
  have key := within_flat l lo hs x
  clear hc
  generalize (flat l).contains x = f at cS key
  have hle : (flat l).countP (fun y => decide (y < x)) ≤ (flat l).length := List.countP_le_length
  generalize (flat l).countP (fun y => decide (y < x)) = m at cS key hle
  rw [← key]
  clear key
  have hm : m < 4611686018427387904 := by omega
  have hp : ((m : Int) % 2 == 1) = decide (m % 2 = 1) := by rw [Bool.eq_iff_iff]; simp; omega
  have HP : Hid _ := hp
  clear hle hz hp
  cases f with
  | true =>
    go_enter Tryz.func120, Tryz.ntmps120
    go_wp2_with (go_at_call 138; refine cS.mono ?_; rintro e w' ⟨rfl, q, rfl⟩)
    go_ret
    exact ⟨by simp, q, rfl⟩
  | false =>
    go_enter Tryz.func120, Tryz.ntmps120
    go_wp2_with (go_at_call 138; refine cS.mono ?_; rintro e w' ⟨rfl, q, rfl⟩)
    go_ret
    exact ⟨congrArg (fun t => Ending.returned (.bool t)) (HP.out.trans (Bool.false_or _).symm), q, rfl⟩
end Go.Proofs.YtdggbnkhbmffoaaGreatDoor
namespace Go.Proofs.YtdggbnkhbmffoaaGreatDoor
open Go.RowKit Wid

set_option maxHeartbeats 1000000 in
set_option maxRecDepth 100000 in
theorem valid_any (c : Int) (w : World) : Calls Tryz.prog 117 #[.int .i32 c] w fun e w' => e = .returned (.bool (decide (¬ bad c))) ∧ w = w' := by
  unfold bad
  by_cases h1 : 0 ≤ c ∧ c < 55296
  · obtain ⟨h2, h3⟩ := h1
    rw [decide_eq_true (by omega)]
    go_enter Tryz.func117, Tryz.ntmps117
    go_wp2
    go_ret
    exact ⟨rfl, rfl⟩
  · by_cases h4 : 57343 < c ∧ c ≤ 1114111
    · obtain ⟨h2, h3⟩ := h4
      have h5 : ¬ c < 55296 := by omega
      rw [decide_eq_true (by omega)]
      go_enter Tryz.func117, Tryz.ntmps117
      go_wp2
      go_ret
      exact ⟨rfl, rfl⟩
    · rw [decide_eq_false (by omega)]
      by_cases g1 : 0 ≤ c
      · have g2 : ¬ c < 55296 := by omega
        by_cases g3 : 57343 < c
        · have g4 : ¬ c ≤ 1114111 := by omega
          clear h1 h4
          go_enter Tryz.func117, Tryz.ntmps117
          go_wp2
          go_ret
          exact ⟨rfl, rfl⟩
        · clear h1 h4
          go_enter Tryz.func117, Tryz.ntmps117
          go_wp2
          go_ret
          exact ⟨rfl, rfl⟩
      · have g3 : ¬ 57343 < c := by omega
        clear h1 h4
        go_enter Tryz.func117, Tryz.ntmps117
        go_wp2
        go_ret
        exact ⟨rfl, rfl⟩

theorem arr_cell {w : World} {b : Nat} {zs : List Int} {t : TypeId} (h : w.heap[b]? = some (.cells (arr zs) t (0, 0))) : ∀ j, j < zs.length → w.cell? ⟨b, j, none⟩ = some (.int .i32 (zs.getD j 0)) := by
  intro j hj
  unfold World.cell?
  rw [h]
  simp [arr, hj]
theorem arr_one (zs : List Int) : ∀ v ∈ (arr zs).toList, v.oneCell' = true := by intro v hv; simp [arr] at hv; obtain ⟨z, _, rfl⟩ := hv; rfl
theorem heap_one (w : World) (a : Obj) : (w.alloc a).heap[w.heap.size]? = some a := Array.getElem?_push_size
theorem heap_two (w : World) (a b : Obj) : ((w.alloc a).alloc b).heap[w.heap.size]? = some a := by
  show ((w.heap.push a).push b)[w.heap.size]? = some a
  rw [Array.getElem?_push, if_neg (by simp), Array.getElem?_push_size]
theorem heap_two' (w : World) (a b : Obj) : ((w.alloc a).alloc b).heap[w.heap.size + 1]? = some b := by
  have := heap_one (w.alloc a) b
  rwa [World.size_alloc] at this
theorem heap_drew (w : World) (a b : Obj) (q : Nat) : (((w.alloc a).alloc b).drewN q).heap[w.heap.size + 1]? = some b := heap_two' w a b
theorem setRow_two (w : World) (vs us : Array Value) (t : TypeId) (b : Obj) : ((w.alloc (.cells vs t)).alloc b).setRow w.heap.size us = (w.alloc (.cells us t)).alloc b := by
  have h := setRow_alloc w vs us t
  unfold World.setRow World.alloc at *
  congr 1
  have h' := congrArg World.heap h
  simp only at h'
  rw [← h']
  apply Array.ext
  · simp
  · intro k h1 h2
    simp only [Array.getElem_modify, Array.getElem_push]
    simp at h1
    split
    · rename_i hk; subst hk; simp
    · simp
/-- what a search in a table answers, the table in the block b -/
theorem within_at (b n : Nat) (l : List (Int × Int)) (c : Int) (t : TypeId) (w : World) (h : w.heap[b]? = some (.cells (arr (flat l)) t (0, 0))) (hn : n = (flat l).length) (hb : n < 4611686018427387904) (hl : rising 767 l = true) :
    Calls Tryz.prog 120 #[.slice (some ⟨b, 0, none⟩) n n, .int .i32 c] w fun e w' => e = .returned (.bool (inR l c)) ∧ ∃ q, w' = w.drewN q :=
  within_any b n n l 767 c w hn hb (arr_cell h) hl
theorem fill_one {P : Program} (w : World) (g : Nat) (t : TypeId) (cur M : Array Value) (hg : w.heap[g]? = some (.cells cur t (0, 0))) (hs : M.size = cur.size) (h1 : ∀ v ∈ M.toList, v.oneCell' = true) : (storeCells ⟨g, 0, none⟩ M.toList).run P w = .ok () (w.setRow g M) := by
  have := run_storeCells_from (P := P) g t M.toList 0 cur w hg (by simpa using hs) h1
  simpa using this

theorem below_of {w w2 : World} {a b : Obj} {q : Nat} (h : Below w.heap.size w w2) : Below w.heap.size w (((w2.alloc a).alloc b).drewN q) := by
  have h3 := (h.alloc h.size a).alloc (by have := h.size; simp; omega) b
  exact ⟨h3.os, h3.tape, h3.output, h3.size, h3.block⟩
set_option maxHeartbeats 4000000 in
set_option maxRecDepth 100000 in
theorem class_high (c : Int) (hv : ¬ bad c) (h0 : 768 ≤ c) (w : World) :
    Calls Tryz.prog 92 #[.int .i32 c] w fun e w' => e = .returned (.int .i64 (if inR mk c = true then 3 else if inR wd c = true then 4 else 0)) ∧ Below w.heap.size w w' := by
  have cV := valid_any c w
  rw [decide_eq_true hv] at cV
  clear hv
  have n1 : ¬ c = 10 := by omega
  have n2 : ¬ c < 32 := by omega
  have n3 : ¬ c ≤ 159 := by omega
  have n4 : ¬ c < 768 := by omega
  have n5 : 127 ≤ c := by omega
  have cM : ∀ w, Calls Tryz.prog 118 #[] w fun e w' => e = .returned (.agg (arr (flat mk))) ∧ Below w.heap.size w w' := marks_any
  have cW : ∀ w, Calls Tryz.prog 119 #[] w fun e w' => e = .returned (.agg (arr (flat wd))) ∧ Below w.heap.size w w' := wide_any
  have sM : (arr (flat mk)).size = 52 := by kernel_rfl
  have sW : (arr (flat wd)).size = 54 := by kernel_rfl
  have oM : ∀ v ∈ (arr (flat mk)).toList, v.oneCell' = true := arr_one _
  have oW : ∀ v ∈ (arr (flat wd)).toList, v.oneCell' = true := arr_one _
  have aM : ∀ (w : World), w.heap.size + 1 < w.heap.size + 2 → ∀ b, w.heap[b]? = some (.cells (arr (flat mk)) 137 (0, 0)) → Calls Tryz.prog 120 #[.slice (some ⟨b, 0, none⟩) 52 52, .int .i32 c] w fun e w' => e = .returned (.bool (inR mk c)) ∧ ∃ q, w' = w.drewN q := fun w _ b h =>
    within_at b 52 mk c _ w h (by kernel_rfl) (by decide) mk_rising
  have aW : ∀ (w : World), w.heap.size + 1 < w.heap.size + 2 → ∀ b, w.heap[b]? = some (.cells (arr (flat wd)) 139 (0, 0)) → Calls Tryz.prog 120 #[.slice (some ⟨b, 0, none⟩) 54 54, .int .i32 c] w fun e w' => e = .returned (.bool (inR wd c)) ∧ ∃ q, w' = w.drewN q := fun w _ b h =>
    within_at b 54 wd c _ w h (by kernel_rfl) (by decide) wd_rising
  generalize arr (flat mk) = M at cM sM oM aM
  generalize arr (flat wd) = V at cW sW oW aW
  have fM : ∀ (w : World) (Z : Array Value) (o : Obj), Z.size = 52 → (storeCells ⟨w.heap.size, 0, none⟩ M.toList).run Tryz.prog ((w.alloc (.cells Z 137)).alloc o) = .ok () ((w.alloc (.cells M 137)).alloc o) := fun w Z o hZ => by
    rw [fill_one _ _ 137 Z M (heap_two w _ o) (by rw [sM, hZ]) oM, setRow_two]
  have fW : ∀ (w : World) (Z : Array Value) (o : Obj), Z.size = 54 → (storeCells ⟨w.heap.size + 1, 0, none⟩ V.toList).run Tryz.prog ((w.alloc o).alloc (.cells Z 139)) = .ok () ((w.alloc o).alloc (.cells V 139)) := fun w Z o hZ => by
    rw [fill_one _ _ 139 Z V (heap_two' w o _) (by rw [sW, hZ]) oW]
    have := setRow_alloc (w.alloc o) Z V 139
    rw [World.size_alloc] at this
    rw [this]
  have AM : Hid _ := aM
  have AW : Hid _ := aW
  clear aM aW oM oW
  generalize inR mk c = bm at AM
  generalize inR wd c = bw at AW
  cases bm with
  | true =>
    go_enter Tryz.func92, Tryz.ntmps92
    go_wp2_with (first | (go_at_call 117; refine cV.mono ?_; clear cV; rintro e w' ⟨rfl, rfl⟩) | (go_at_call 118; refine (cM _).mono ?_; clear cM; rintro e w1 ⟨rfl, hb1⟩) | (go_at_call 119; refine (cW _).mono ?_; clear cW; rintro e w2 ⟨rfl, hb2⟩) | (go_at_call 120; refine (AM.out _ (by omega) _ (heap_two _ _ _)).mono ?_; clear AM; rintro e w3 ⟨rfl, q, rfl⟩))
    all_goals go_ret
    all_goals exact ⟨rfl, below_of (hb1.trans (hb2.mono hb1.size))⟩
  | false =>
    cases bw with
    | true =>
      go_enter Tryz.func92, Tryz.ntmps92
      go_wp2_with (first | (go_at_call 117; refine cV.mono ?_; clear cV; rintro e w' ⟨rfl, rfl⟩) | (go_at_call 118; refine (cM _).mono ?_; clear cM; rintro e w1 ⟨rfl, hb1⟩) | (go_at_call 119; refine (cW _).mono ?_; clear cW; rintro e w2 ⟨rfl, hb2⟩) | (go_at_call 120; refine (AM.out _ (by omega) _ (heap_two _ _ _)).mono ?_; clear AM; rintro e w3 ⟨rfl, q, rfl⟩) | (go_at_call 120; refine (AW.out _ (by omega) _ (heap_drew _ _ _ _)).mono ?_; clear AW; rintro e w3 ⟨rfl, q2, rfl⟩))
      all_goals go_ret
      all_goals exact ⟨rfl, below_of (hb1.trans (hb2.mono hb1.size))⟩
    | false =>
      go_enter Tryz.func92, Tryz.ntmps92
      go_wp2_with (first | (go_at_call 117; refine cV.mono ?_; clear cV; rintro e w' ⟨rfl, rfl⟩) | (go_at_call 118; refine (cM _).mono ?_; clear cM; rintro e w1 ⟨rfl, hb1⟩) | (go_at_call 119; refine (cW _).mono ?_; clear cW; rintro e w2 ⟨rfl, hb2⟩) | (go_at_call 120; refine (AM.out _ (by omega) _ (heap_two _ _ _)).mono ?_; clear AM; rintro e w3 ⟨rfl, q, rfl⟩) | (go_at_call 120; refine (AW.out _ (by omega) _ (heap_drew _ _ _ _)).mono ?_; clear AW; rintro e w3 ⟨rfl, q2, rfl⟩))
      all_goals go_ret
      all_goals exact ⟨rfl, below_of (hb1.trans (hb2.mono hb1.size))⟩

set_option maxHeartbeats 2000000 in
set_option maxRecDepth 100000 in
theorem class_bad (c : Int) (hv : bad c) (w : World) : Calls Tryz.prog 92 #[.int .i32 c] w fun e w' => e = .returned (.int .i64 5) ∧ w = w' := by
  have cV := valid_any c w
  rw [decide_eq_false (fun h => h hv)] at cV
  clear hv
  go_enter Tryz.func92, Tryz.ntmps92
  go_wp2_with (go_at_call 117; refine cV.mono ?_; clear cV; rintro e w' ⟨rfl, rfl⟩)
  go_ret
  exact ⟨rfl, rfl⟩
set_option maxHeartbeats 2000000 in
set_option maxRecDepth 100000 in
theorem class_low (c : Int) (hv : ¬ bad c) (h0 : c < 768) (w : World) : Calls Tryz.prog 92 #[.int .i32 c] w fun e w' => e = .returned (.int .i64 (if c = 10 then 1 else if c ≤ 31 ∨ (127 ≤ c ∧ c ≤ 159) then 2 else 0)) ∧ w = w' := by
  have cV := valid_any c w
  rw [decide_eq_true hv] at cV
  have hc : 0 ≤ c := by unfold bad at hv; omega
  clear hv
  have W : ∀ n : Int, c ≠ 10 → (c < 32 ∧ n = 2 ∨ 32 ≤ c ∧ c < 127 ∧ n = 0 ∨ 127 ≤ c ∧ c ≤ 159 ∧ n = 2 ∨ 159 < c ∧ n = 0) → Calls Tryz.prog 92 #[.int .i32 c] w fun e w' => e = .returned (.int .i64 n) ∧ w = w' := by
    rintro n g0 (⟨g1, rfl⟩ | ⟨g1, g2, rfl⟩ | ⟨g1, g2, rfl⟩ | ⟨g1, rfl⟩)
    · go_enter Tryz.func92, Tryz.ntmps92
      go_wp2_with (go_at_call 117; refine cV.mono ?_; clear cV; rintro e w' ⟨rfl, rfl⟩)
      go_ret
      exact ⟨rfl, rfl⟩
    · have g3 : ¬ c < 32 := by omega
      have g4 : ¬ 127 ≤ c := by omega
      go_enter Tryz.func92, Tryz.ntmps92
      go_wp2_with (go_at_call 117; refine cV.mono ?_; clear cV; rintro e w' ⟨rfl, rfl⟩)
      go_ret
      exact ⟨rfl, rfl⟩
    · have g3 : ¬ c < 32 := by omega
      go_enter Tryz.func92, Tryz.ntmps92
      go_wp2_with (go_at_call 117; refine cV.mono ?_; clear cV; rintro e w' ⟨rfl, rfl⟩)
      go_ret
      exact ⟨rfl, rfl⟩
    · have g3 : ¬ c < 32 := by omega
      have g4 : 127 ≤ c := by omega
      have g5 : ¬ c ≤ 159 := by omega
      go_enter Tryz.func92, Tryz.ntmps92
      go_wp2_with (go_at_call 117; refine cV.mono ?_; clear cV; rintro e w' ⟨rfl, rfl⟩)
      go_ret
      exact ⟨rfl, rfl⟩
  by_cases h1 : c = 10
  · subst h1
    clear W
    rw [if_pos rfl]
    go_enter Tryz.func92, Tryz.ntmps92
    go_wp2_with (go_at_call 117; refine cV.mono ?_; clear cV; rintro e w' ⟨rfl, rfl⟩)
    go_ret
    exact ⟨rfl, rfl⟩
  · rw [if_neg h1]
    refine W _ h1 ?_
    split <;> omega

/-- Class answers the class, whatever the number is -/
theorem class_any (c : Int) (w : World) : Calls Tryz.prog 92 #[.int .i32 c] w fun e w' => e = .returned (.int .i64 (cls c)) ∧ Below w.heap.size w w' := by
  by_cases hv : bad c
  · rw [show cls c = 5 from if_pos hv]
    exact (class_bad c hv w).mono fun e w' ⟨h1, h2⟩ => ⟨h1, h2 ▸ Below.refl _ _⟩
  · by_cases h0 : c < 768
    · rw [show cls c = (if c = 10 then 1 else if c ≤ 31 ∨ (127 ≤ c ∧ c ≤ 159) then 2 else 0) by unfold cls; rw [if_neg hv, if_pos h0]]
      exact (class_low c hv h0 w).mono fun e w' ⟨h1, h2⟩ => ⟨h1, h2 ▸ Below.refl _ _⟩
    · rw [show cls c = (if inR mk c = true then 3 else if inR wd c = true then 4 else 0) by unfold cls; rw [if_neg hv, if_neg (by omega), if_neg (by omega), if_neg h0]]
      exact class_high c hv (by omega) w

theorem cls_range (c : Int) : cls c = 0 ∨ cls c = 1 ∨ cls c = 2 ∨ cls c = 3 ∨ cls c = 4 ∨ cls c = 5 := by
  unfold cls
  repeat' split
  all_goals simp

set_option maxHeartbeats 2000000 in
set_option maxRecDepth 100000 in
/-- Cells answers the cells, whatever the number is -/
theorem cells_any (c : Int) (w : World) : Calls Tryz.prog 144 #[.int .i32 c] w fun e w' => e = .returned (.int .i64 (cel c)) ∧ Below w.heap.size w w' := by
  have cC := class_any c w
  unfold cel
  have hr := cls_range c
  generalize cls c = k at cC hr
  rcases hr with rfl | rfl | rfl | rfl | rfl | rfl
  case inr.inr.inl =>
    by_cases h : c ≤ 127
    · rw [if_neg (by decide), if_neg (by decide), if_pos ⟨rfl, h⟩]
      go_enter Tryz.func144, Tryz.ntmps144
      go_wp2_with (go_at_call 92; refine cC.mono ?_; clear cC; rintro e w' ⟨rfl, hb⟩)
      go_ret
      exact ⟨rfl, hb⟩
    · rw [if_neg (by decide), if_neg (by decide), if_neg (fun q => h q.2)]
      go_enter Tryz.func144, Tryz.ntmps144
      go_wp2_with (go_at_call 92; refine cC.mono ?_; clear cC; rintro e w' ⟨rfl, hb⟩)
      go_ret
      exact ⟨rfl, hb⟩
  all_goals
    go_enter Tryz.func144, Tryz.ntmps144
    go_wp2_with (go_at_call 92; refine cC.mono ?_; clear cC; rintro e w' ⟨rfl, hb⟩)
    go_ret
    exact ⟨rfl, hb⟩
end Go.Proofs.YtdggbnkhbmffoaaGreatDoor
namespace Go.Proofs.YtdggbnkhbmffoaaGreatDoor
open Go.RowKit Wid

theorem step_append_own {P : Program} {ops : Array Oper} {o : Oper} {a : Act} {w : World} {K : Act → World → Prop} {Q : Exit → Act → World → Prop} {E : Prop}
    (hg : o.guard = none) (s x : Operand) (t : TypeId) (ho : o.op = .call { callee := .builtin .append, args := #[s, x], argTypes := #[t, t] })
    (base : Nat) (e : TypeId) (i : TypeInfo) (z : Value) (size bytes : Nat) (ht : P.underlying t = some (.slice e)) (hi : P.info? e = some i) (hz : i.zero = some z)
    (hsize : i.size = size) (hby : i.bytes = bytes) (hzs : z.cells.size = size) (hsz : 0 < size)
    (v : Value) (n : Nat) (xs : List Value) (hs : a.eval s = v) (hown : w.ownsRow base e size v n xs)
    (ad : Addr) (m c : Nat) (news : List Value) (hx : a.eval x = .slice (some ad) m c) (hl : news.length = m * size) (hnews : ∀ j u, news[j]? = some u → w.cell? (ad.add j) = some u) (h1 : ∀ u ∈ news, u.oneCell' = true)
    (h63 : n + m ≤ maxLen) (hbytes : (n + m) * bytes ≤ 140737488355328) (hbase : base ≤ w.heap.size)
    (hK : ∀ v' w', w'.ownsRow base e size v' (n + m) (xs ++ news) → w.grownBy w' v.ownBlock → K (a.put o.dst v') w') :
    if Region.wanted o (yielded ops a.tmps) = true then Oper.wp P o a w K Q else E := by
  have hw : Region.wanted o (yielded ops a.tmps) = true := by simp [Region.wanted, hg]
  rw [if_pos hw]
  exact wp_append_own w s x t ho base e i z size bytes ht hi hz hsize hby hzs hsz v n xs hs hown ad m c news hx hl hnews h1 h63 hbytes hbase fun v' w' h2 h3 _ => hK v' w' h2 h3

/-- the cells of a list of ranges -/
def rcells (l : List (Int × Int)) : List Value := l.flatMap fun p => [Value.int .i32 p.1, Value.int .i32 p.2]
theorem rcells_snoc (l : List (Int × Int)) (p : Int × Int) : rcells (l ++ [p]) = rcells l ++ [.int .i32 p.1, .int .i32 p.2] := by simp [rcells]
theorem rcells_len : ∀ l : List (Int × Int), (rcells l).length = l.length * 2
  | [] => rfl
  | p :: r => by
    have := rcells_len r
    simp only [rcells, List.flatMap_cons, List.length_append, List.length_cons, List.length_nil] at this ⊢
    omega
theorem infoR : (Tryz.prog.info? 145).map (fun i => (i.zero, i.size, i.bytes)) = some (some (.agg #[.int .i32 0, .int .i32 0]), 2, 8) := by kernel_rfl

theorem take_snoc (l : List (Int × Int)) (k : Nat) (h : k < l.length) : l.take (k + 1) = l.take k ++ [l.getD k (0, 0)] := by
  rw [List.take_succ_eq_append_getElem h]; simp [List.getD, h]

theorem below_drew {B : Nat} {w W : World} (h : Below B w W) : Below B w W.drew := ⟨h.os, h.tape, h.output, h.size, h.block⟩

theorem fill_alloc {P : Program} (w : World) (Z M : Array Value) (t : TypeId) (hZ : M.size = Z.size) (h1 : ∀ v ∈ M.toList, v.oneCell' = true) : (storeCells ⟨w.heap.size, 0, none⟩ M.toList).run P (w.alloc (.cells Z t)) = .ok () (w.alloc (.cells M t)) := by
  rw [fill_one _ _ t Z M (heap_one w _) hZ h1, setRow_alloc]
theorem row_mono {base base' e size n : Nat} {v : Value} {xs : List Value} {W : World} (h : W.ownsRow base e size v n xs) (hb : base' ≤ base) : W.ownsRow base' e size v n xs := by
  refine ⟨h.1, ?_⟩
  rcases h.2 with h0 | ⟨g, cap, cur, hv, hbg, rest⟩
  · exact .inl h0
  · exact .inr ⟨g, cap, cur, hv, Nat.le_trans hb hbg, rest⟩
/-- what a call of Ranges leaves: a new list of its own -/
def Made (w : World) (l : List (Int × Int)) (e : Ending) (w' : World) : Prop := ∃ v, e = .returned v ∧ w'.ownsRow w.heap.size 145 2 v l.length (rcells l) ∧ Below w.heap.size w w'
theorem made_of {w w1 : World} {l : List (Int × Int)} {e : Ending} {w' : World} (hb : Below w.heap.size w w1) (h : Made w1 l e w') : Made w l e w' := by
  obtain ⟨v, h1, h2, h3⟩ := h
  exact ⟨v, h1, row_mono h2 hb.size, hb.trans (h3.mono hb.size)⟩
theorem lit_cell (w : World) (zs : List Int) (t : TypeId) : ∀ j, j < zs.length → (w.alloc (.cells (arr zs) t)).cell? ⟨w.heap.size, j, none⟩ = some (.int .i32 (zs.getD j 0)) := arr_cell (heap_one w _)

end Go.Proofs.YtdggbnkhbmffoaaGreatDoor
