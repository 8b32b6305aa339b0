/-
  The walks of package width's pairs and Ranges: for every class a new list of the ranges that VMath tells. Conditions of pairs: its list lies in one block and is short.
-/
import Derived.Test.YtjpfnkbkhpeijaaVWalkB
import Derived.OwnWalk
import Derived.ArgAppend
import Derived.Deep.RegionLaw
namespace Go.Proofs.Ytjpfnkbkhpeijaa
open Go.RowKit Wid

theorem step_append_own {P : Program} {ops : Array Oper} {o : Oper} {a : Act} {w : World} {K : Act → World → Prop} {Q : Exit → Act → World → Prop} {E : Prop}
    (hg : o.guard = none) (s x : Operand) (t : TypeId) (ho : o.op = .call { callee := .builtin .append, args := #[s, x], argTypes := #[t, t] })
    (base : Nat) (e : TypeId) (i : TypeInfo) (z : Value) (size bytes : Nat) (ht : P.underlying t = some (.slice e)) (hi : P.info? e = some i) (hz : i.zero = some z)
    (hsize : i.size = size) (hby : i.bytes = bytes) (hzs : z.cells.size = size) (hsz : 0 < size)
    (v : Value) (n : Nat) (xs : List Value) (hs : a.eval s = v) (hown : w.ownsRow base e size v n xs)
    (ad : Addr) (m c : Nat) (news : List Value) (hx : a.eval x = .slice (some ad) m c) (hl : news.length = m * size) (hnews : ∀ j u, news[j]? = some u → w.cell? (ad.add j) = some u) (h1 : ∀ u ∈ news, u.oneCell' = true)
    (h63 : n + m ≤ maxLen) (hbytes : (n + m) * bytes ≤ 140737488355328) (hbase : base ≤ w.heap.size)
    (hK : ∀ v' w', w'.ownsRow base e size v' (n + m) (xs ++ news) → w.grownBy w' v.ownBlock → K (a.put o.dst v') w') :
    if Region.wanted o (yielded ops a.tmps) = true then Oper.wp P o a w K Q else E := by
  have hw : Region.wanted o (yielded ops a.tmps) = true := by simp [Region.wanted, hg]
  rw [if_pos hw]
  exact wp_append_own w s x t ho base e i z size bytes ht hi hz hsize hby hzs hsz v n xs hs hown ad m c news hx hl hnews h1 h63 hbytes hbase fun v' w' h2 h3 _ => hK v' w' h2 h3

/-- the cells of a list of ranges -/
def rcells (l : List (Int × Int)) : List Value := l.flatMap fun p => [Value.int .i32 p.1, Value.int .i32 p.2]
theorem rcells_snoc (l : List (Int × Int)) (p : Int × Int) : rcells (l ++ [p]) = rcells l ++ [.int .i32 p.1, .int .i32 p.2] := by simp [rcells]
theorem rcells_len : ∀ l : List (Int × Int), (rcells l).length = l.length * 2
  | [] => rfl
  | p :: r => by
    have := rcells_len r
    simp only [rcells, List.flatMap_cons, List.length_append, List.length_cons, List.length_nil] at this ⊢
    omega
theorem infoR : (Try.prog.info? 32).map (fun i => (i.zero, i.size, i.bytes)) = some (some (.agg #[.int .i32 0, .int .i32 0]), 2, 8) := by kernel_rfl

theorem take_snoc (l : List (Int × Int)) (k : Nat) (h : k < l.length) : l.take (k + 1) = l.take k ++ [l.getD k (0, 0)] := by
  rw [List.take_succ_eq_append_getElem h]; simp [List.getD, h]

theorem below_drew {B : Nat} {w W : World} (h : Below B w W) : Below B w W.drew := ⟨h.os, h.tape, h.output, h.size, h.block⟩

set_option maxHeartbeats 2000000 in
set_option maxRecDepth 100000 in
theorem pairs_any (b n : Nat) (l : List (Int × Int)) (w : World) (hn : n = 2 * l.length) (hl : l.length ≤ 1000) (hc : ∀ j, j < (flat l).length → w.cell? ⟨b, j, none⟩ = some (.int .i32 ((flat l).getD j 0))) (hb : b < w.heap.size) :
    Calls Try.prog 22 #[.slice (some ⟨b, 0, none⟩) n n] w fun e w' => ∃ v, e = .returned v ∧ w'.ownsRow w.heap.size 32 2 v l.length (rcells l) ∧ Below w.heap.size w w' := by
  obtain ⟨i0, hi, hz0, hz1, hz2⟩ := info_parts infoR
  have HC : Hid _ := hc
  have HN : Hid _ := hn
  obtain ⟨N, hN⟩ : ∃ N, l.length = N := ⟨_, rfl⟩
  have HL : Hid (l.length = N) := hN
  have hn2 : n ≤ 2000 := by omega
  clear hc hn hl hN
  go_enter Try.func22, Try.ntmps22
  go_wp2_with (at_make; go_loud (refine wpList_make_own _ rfl _ _ 28 rfl w.heap.size 32 i0 _ 2 Try.underlying28 hi hz0 hz1 .i64 .i64 _ N rfl rfl (by have := HN.out; have := HL.out; omega) (by rw [hz2]; have := HN.out; have := HL.out; omega) (by have := HN.out; have := HL.out; unfold maxLen; omega) (Nat.le_refl _) ?_); intro w1 hown1 hgrow1)
  have hB1 : Below w.heap.size w w1 := (Below.refl _ w).grown hgrow1 (Nat.le_refl _) (fun k e => by cases e)
  generalize Value.slice (some ⟨w.heap.size, 0, none⟩) 0 N = v0 at hown1
  go_loopw [3, 4] (fun v t wr => ∃ k i : Nat, k ≤ N ∧ i = 2 * k ∧ t = .int .i64 i ∧ wr.ownsRow w.heap.size 32 2 v k (rcells (l.take k)) ∧ Below w.heap.size w wr) (fun _ t _ => 2 * N - (intOf t).toNat)
  case atStart => exact ⟨0, 0, Nat.zero_le _, rfl, rfl, hown1, hB1⟩
  case round =>
    obtain ⟨k, i, hk, hik, rfl, hrow, hB⟩ := hrel
    have HI : Hid (i = 2 * k) := hik
    have HK : Hid (k ≤ N) := hk
    by_cases hlt : i < n
    · have hkN : k < N := by have := HN.out; have := HL.out; omega
      obtain ⟨f1, f2⟩ := flat_get l k (by have := HL.out; omega)
      have hfl := flat_len l
      have c1 : wr.cell? ⟨b, i, none⟩ = some (.int .i32 (l.getD k (0, 0)).1) := by
        rw [← f1, ← hik]; exact (hB.cell (p := ⟨b, i, none⟩) hb).trans (HC.out i (by have := HN.out; omega))
      have c2 : wr.cell? ⟨b, i + 1, none⟩ = some (.int .i32 (l.getD k (0, 0)).2) := by
        rw [← f2, ← hik]; exact (hB.cell (p := ⟨b, i + 1, none⟩) hb).trans (HC.out (i + 1) (by have := HN.out; have := HL.out; omega))
      have HT : Hid (rcells (l.take (k + 1)) = rcells (l.take k) ++ [.int .i32 (l.getD k (0, 0)).1, .int .i32 (l.getD k (0, 0)).2]) := by
        show rcells (l.take (k + 1)) = _
        rw [take_snoc l k (by have := HL.out; omega), rcells_snoc]
      have hi1 : (i : Int) + 1 < n := by have := HN.out; have := HL.out; omega
      have hi0 : (i : Int) < n := by omega
      have hBs := hB.size
      have hk2 : k ≤ 1000 := by have := HN.out; have := HL.out; omega
      clear hik f1 f2 hfl hk hlt
      generalize (l.getD k (0, 0)).1 = x1 at c1 HT
      generalize (l.getD k (0, 0)).2 = x2 at c2 HT
      have hwr : IntKind.i64.wrap ((i : Int) + 1) = (i : Int) + 1 := by rw [IntKind.wrap_i64]; omega
      have htn : ((i : Int) + 1).toNat = i + 1 := by omega
      have hge : (0 : Int) ≤ (i : Int) + 1 := by omega
      go_wp2
      go_region_law (refine step_append_own rfl (.tmp 15) (.tmp 26) 28 rfl w.heap.size 32 i0 _ 2 8 Try.underlying28 hi hz0 hz1 hz2 rfl (by decide) _ k _ rfl (hrow.drew.alloc _) ⟨wr.heap.size, 0, none⟩ 1 1 [.int .i32 x1, .int .i32 x2] rfl rfl (cell_two_new _ _ _ _) (by simp [Value.oneCell']) (by unfold maxLen; omega) (by omega) (by simp; omega) ?_; intro v3 w3 hrow3 hg3)
      all_goals go_wp2
      all_goals go_roundw
      case rel => exact ⟨k + 1, i + 2, by omega, by have := HI.out; omega, by go_num, by rw [HT.out]; exact hrow3, ((below_drew hB).alloc hBs _).grown hg3 (by simp; omega) (fun j e => (hrow.lt j e).1)⟩
      case measure => have := HN.out; have := HL.out; simp [intOf]; omega
      case rel => exact ⟨k + 1, i + 2, by omega, by have := HI.out; omega, by go_num, by rw [HT.out]; exact hrow3, ((below_drew hB).alloc hBs _).grown hg3 (by simp; omega) (fun j e => (hrow.lt j e).1)⟩
      case measure => have := HN.out; have := HL.out; simp [intOf]; omega
    · have hkN : k = N := by have := HN.out; have := HL.out; have := HI.out; have := HK.out; omega
      subst hkN
      rw [show l.take k = l by rw [← HL.out, List.take_length], ← HL.out] at hrow
      go_wp2
      go_ret
      exact ⟨_, rfl, hrow, hB⟩

theorem fill_alloc {P : Program} (w : World) (Z M : Array Value) (t : TypeId) (hZ : M.size = Z.size) (h1 : ∀ v ∈ M.toList, v.oneCell' = true) : (storeCells ⟨w.heap.size, 0, none⟩ M.toList).run P (w.alloc (.cells Z t)) = .ok () (w.alloc (.cells M t)) := by
  rw [fill_one _ _ t Z M (heap_one w _) hZ h1, setRow_alloc]
theorem row_mono {base base' e size n : Nat} {v : Value} {xs : List Value} {W : World} (h : W.ownsRow base e size v n xs) (hb : base' ≤ base) : W.ownsRow base' e size v n xs := by
  refine ⟨h.1, ?_⟩
  rcases h.2 with h0 | ⟨g, cap, cur, hv, hbg, rest⟩
  · exact .inl h0
  · exact .inr ⟨g, cap, cur, hv, Nat.le_trans hb hbg, rest⟩
/-- what a call of Ranges leaves: a new list of its own -/
def Made (w : World) (l : List (Int × Int)) (e : Ending) (w' : World) : Prop := ∃ v, e = .returned v ∧ w'.ownsRow w.heap.size 32 2 v l.length (rcells l) ∧ Below w.heap.size w w'
theorem made_of {w w1 : World} {l : List (Int × Int)} {e : Ending} {w' : World} (hb : Below w.heap.size w w1) (h : Made w1 l e w') : Made w l e w' := by
  obtain ⟨v, h1, h2, h3⟩ := h
  exact ⟨v, h1, row_mono h2 hb.size, hb.trans (h3.mono hb.size)⟩
theorem lit_cell (w : World) (zs : List Int) (t : TypeId) : ∀ j, j < zs.length → (w.alloc (.cells (arr zs) t)).cell? ⟨w.heap.size, j, none⟩ = some (.int .i32 (zs.getD j 0)) := arr_cell (heap_one w _)

set_option maxHeartbeats 2000000 in
set_option maxRecDepth 100000 in
theorem ranges_small (k : Int) (l : List (Int × Int)) (hk : k = 1 ∧ l = [(10, 10)] ∨ k = 2 ∧ l = [(0, 9), (11, 31), (127, 159)]) (w : World) : Calls Try.prog 13 #[.int .i64 k] w (Made w l) := by
  rcases hk with ⟨rfl, rfl⟩ | ⟨rfl, rfl⟩
  · have cP := pairs_any w.heap.size 2 [(10, 10)] (w.alloc (.cells #[.int .i32 10, .int .i32 10] 21)) rfl (by decide) (lit_cell w [10, 10] 21) (by simp)
    have HB : Hid (Below w.heap.size w (w.alloc (.cells #[.int .i32 10, .int .i32 10] 21))) := (Below.refl _ w).alloc (Nat.le_refl _) _
    go_enter Try.func13, Try.ntmps13
    go_wp2_with (go_at_call 22; refine cP.mono ?_; clear cP; rintro e w1 ⟨v, rfl, hrow, hb⟩)
    go_ret
    exact made_of HB.out ⟨v, rfl, hrow, hb⟩
  · have cP := pairs_any w.heap.size 6 [(0, 9), (11, 31), (127, 159)] (w.alloc (.cells #[.int .i32 0, .int .i32 9, .int .i32 11, .int .i32 31, .int .i32 127, .int .i32 159] 21)) rfl (by decide) (lit_cell w [0, 9, 11, 31, 127, 159] 21) (by simp)
    have HB : Hid (Below w.heap.size w (w.alloc (.cells #[.int .i32 0, .int .i32 9, .int .i32 11, .int .i32 31, .int .i32 127, .int .i32 159] 21))) := (Below.refl _ w).alloc (Nat.le_refl _) _
    go_enter Try.func13, Try.ntmps13
    go_wp2_with (go_at_call 22; refine cP.mono ?_; clear cP; rintro e w1 ⟨v, rfl, hrow, hb⟩)
    go_ret
    exact made_of HB.out ⟨v, rfl, hrow, hb⟩

set_option maxHeartbeats 2000000 in
set_option maxRecDepth 100000 in
theorem ranges_marks (w : World) : Calls Try.prog 13 #[.int .i64 3] w (Made w mk) := by
  have cM : ∀ w, Calls Try.prog 17 #[] w fun e w' => e = .returned (.agg (arr (flat mk))) ∧ Below w.heap.size w w' := marks_any
  have sM : (arr (flat mk)).size = 52 := by kernel_rfl
  have oM : ∀ v ∈ (arr (flat mk)).toList, v.oneCell' = true := arr_one _
  have cP : Hid (∀ w1, Below w.heap.size w w1 → Calls Try.prog 22 #[.slice (some ⟨w1.heap.size, 0, none⟩) 52 52] (w1.alloc (.cells (arr (flat mk)) 36)) (Made w mk)) := fun w1 hb =>
    (pairs_any w1.heap.size 52 mk (w1.alloc (.cells (arr (flat mk)) 36)) (by kernel_rfl) (by decide) (lit_cell w1 (flat mk) _) (by simp)).mono fun e w' h => made_of (hb.alloc hb.size _) h
  generalize arr (flat mk) = M at cM sM oM cP
  have fM : ∀ (w : World) (Z : Array Value), Z.size = 52 → (storeCells ⟨w.heap.size, 0, none⟩ M.toList).run Try.prog (w.alloc (.cells Z 36)) = .ok () (w.alloc (.cells M 36)) := fun w Z hZ => fill_alloc w Z M _ (by rw [sM, hZ]) oM
  clear oM
  go_enter Try.func13, Try.ntmps13
  go_wp2_with (first | (go_at_call 17; refine (cM _).mono ?_; clear cM; rintro e w1 ⟨rfl, hb1⟩) | (go_at_call 22; refine (cP.out _ hb1).mono ?_; clear cP; rintro e w2 ⟨v, rfl, hrow, hb⟩))
  go_ret
  exact ⟨v, rfl, hrow, hb⟩
set_option maxHeartbeats 2000000 in
set_option maxRecDepth 100000 in
theorem ranges_wide (w : World) : Calls Try.prog 13 #[.int .i64 4] w (Made w wd) := by
  have cM : ∀ w, Calls Try.prog 18 #[] w fun e w' => e = .returned (.agg (arr (flat wd))) ∧ Below w.heap.size w w' := wide_any
  have sM : (arr (flat wd)).size = 54 := by kernel_rfl
  have oM : ∀ v ∈ (arr (flat wd)).toList, v.oneCell' = true := arr_one _
  have cP : Hid (∀ w1, Below w.heap.size w w1 → Calls Try.prog 22 #[.slice (some ⟨w1.heap.size, 0, none⟩) 54 54] (w1.alloc (.cells (arr (flat wd)) 38)) (Made w wd)) := fun w1 hb =>
    (pairs_any w1.heap.size 54 wd (w1.alloc (.cells (arr (flat wd)) 38)) (by kernel_rfl) (by decide) (lit_cell w1 (flat wd) _) (by simp)).mono fun e w' h => made_of (hb.alloc hb.size _) h
  generalize arr (flat wd) = M at cM sM oM cP
  have fM : ∀ (w : World) (Z : Array Value), Z.size = 54 → (storeCells ⟨w.heap.size, 0, none⟩ M.toList).run Try.prog (w.alloc (.cells Z 38)) = .ok () (w.alloc (.cells M 38)) := fun w Z hZ => fill_alloc w Z M _ (by rw [sM, hZ]) oM
  clear oM
  go_enter Try.func13, Try.ntmps13
  go_wp2_with (first | (go_at_call 18; refine (cM _).mono ?_; clear cM; rintro e w1 ⟨rfl, hb1⟩) | (go_at_call 22; refine (cP.out _ hb1).mono ?_; clear cP; rintro e w2 ⟨v, rfl, hrow, hb⟩))
  go_ret
  exact ⟨v, rfl, hrow, hb⟩
set_option maxHeartbeats 2000000 in
set_option maxRecDepth 100000 in
theorem ranges_none (k : Int) (h1 : k ≠ 1) (h2 : k ≠ 2) (h3 : k ≠ 3) (h4 : k ≠ 4) (w : World) : Calls Try.prog 13 #[.int .i64 k] w (Made w []) := by
  go_enter Try.func13, Try.ntmps13
  go_wp2
  go_ret
  exact ⟨_, rfl, World.ownsRow_nil _ _ _ _, Below.refl _ _⟩

/-- Ranges answers the class's ranges, in new memory, whatever the class is -/
theorem ranges_any (k : Int) (w : World) : Calls Try.prog 13 #[.int .i64 k] w (Made w (rng k)) := by
  unfold rng
  by_cases h1 : k = 1
  · rw [if_pos h1]; exact ranges_small k _ (.inl ⟨h1, rfl⟩) w
  · by_cases h2 : k = 2
    · rw [if_neg h1, if_pos h2]; exact ranges_small k _ (.inr ⟨h2, rfl⟩) w
    · by_cases h3 : k = 3
      · rw [if_neg h1, if_neg h2, if_pos h3, h3]; exact ranges_marks w
      · by_cases h4 : k = 4
        · rw [if_neg h1, if_neg h2, if_neg h3, if_pos h4, h4]; exact ranges_wide w
        · rw [if_neg h1, if_neg h2, if_neg h3, if_neg h4]; exact ranges_none k h1 h2 h3 h4 w
end Go.Proofs.Ytjpfnkbkhpeijaa
