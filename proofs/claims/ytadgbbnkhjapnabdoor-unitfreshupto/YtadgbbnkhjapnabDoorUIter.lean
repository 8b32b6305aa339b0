/-
  The iterator that package unit's Walk hands back, and what Count and Units make of it: the offsets of the units one behind the other; their number; a new list of them. Conditions: the two tables of unicode/utf8 lie as their text lays them; the text can be read; of Units: so short that its list can be made.
-/
import Derived.RangeFuncNested
import Derived.RangeFuncBound
import Derived.RangeFuncCalls
import Derived.RangeFuncLeaves
import Derived.RangeFuncBox
import Derived.Shelf.Abstract
import Derived.Shelf.RegionOpen
import Derived.OwnWalkIn
import Derived.TacticsInMore
import Derived.LoopNIn
import Derived.LoopIn
import Derived.Maps.AppendAt
import Derived.Test.YtadgbbnkhjapnabDoorUWalk
namespace Go.Proofs.YtadgbbnkhjapnabDoor
open Go.RowKit Go.Shelf Bod
attribute [local go_sem] Oper.semAt_some

/-- what a round keeps: every block of cells outside lo .. hi lies as it lay -/
def Kp (lo hi : Nat) (W W' : World) : Prop := W.heap.size ≤ W'.heap.size ∧ ∀ (k : Nat) (o : Obj), (k < lo ∨ hi ≤ k) → W.heap[k]? = some o → o.isCells = true → W'.heap[k]? = some o
theorem Kp.refl (lo hi : Nat) (W : World) : Kp lo hi W W := ⟨Nat.le_refl _, fun _ _ _ h _ => h⟩
theorem Kp.trans {lo hi : Nat} {X Y Z : World} (h : Kp lo hi X Y) (k : Kp lo hi Y Z) : Kp lo hi X Z := ⟨Nat.le_trans h.1 k.1, fun i o a b c => k.2 i o a (h.2 i o a b c) c⟩
theorem Kp.putObj {lo hi : Nat} (W : World) (l : Nat) (o o' : Obj) (hl : W.heap[l]? = some o) (ho : o.isCells = false) : Kp lo hi W (W.putObj l o') :=
  ⟨by simp, fun k c _ hk hc => (World.putObj_heap_other (fun e => by subst e; rw [hl] at hk; cases hk; rw [ho] at hc; cases hc)).trans hk⟩
theorem Kp.of_below {lo hi : Nat} {W W' : World} (h : Below W.heap.size W W') : Kp lo hi W W' :=
  ⟨h.size, fun k _ _ hk _ => (h.block k (Array.getElem?_eq_some_iff.1 hk).1).trans hk⟩
theorem Kp.of_grown {lo hi : Nat} {W W' : World} {row : Option Nat} (h : W.grownBy W' row) (hr : ∀ r, row = some r → lo ≤ r ∧ r < hi) : Kp lo hi W W' :=
  ⟨h.size, fun k _ a hk _ => (h.block k (Array.getElem?_eq_some_iff.1 hk).1 (fun e => by have := hr k e.symm; omega)).trans hk⟩
theorem Kp.cell {lo hi : Nat} {W W' : World} (h : Kp lo hi W W') {a : Addr} {v : Value} (ha : a.block < lo ∨ hi ≤ a.block) (hc : W.cell? a = some v) : W'.cell? a = some v := by
  obtain ⟨o, ho, hcl⟩ := cells_of_cell hc
  rw [World.cell?_of_block (w := W) ((h.2 _ _ ha ho hcl).trans ho.symm)]
  exact hc
theorem Kp.frozen {lo hi : Nat} {W W' : World} (h : Kp lo hi W W') {a : Addr} {v : Value} (ha : a.block < lo ∨ hi ≤ a.block) (hc : W.cell? a = some v) : W'.frozen? a = W.frozen? a := by
  obtain ⟨o, ho, hcl⟩ := cells_of_cell hc
  exact World.frozen?_of_block (w := W) ((h.2 _ _ ha ho hcl).trans ho.symm)
theorem Kp.tabs {lo hi : Nat} {W W' : World} (h : Kp lo hi W W') (h0 : 0 < lo) (h1 : 1 < lo) (t : Lib.Utf8Tabs 0 1 W) : Lib.Utf8Tabs 0 1 W' :=
  ⟨fun c hc => h.cell (.inl h0) (t.1 c hc), fun i hi => ⟨h.cell (.inl h1) (t.2 i hi).1, h.cell (.inl h1) (t.2 i hi).2⟩⟩
theorem grown_of_below {W W' : World} (h : Below W.heap.size W W') : W.grownBy W' none := ⟨h.os, h.tape, h.output, h.size, fun k hk _ => h.block k hk⟩

/-- what the iterator hands yield at the offset i -/
abbrev enc2 (s : ByteArray) (i : Nat) : Array Value := #[.int .i64 (i : Int), .agg #[.int .i32 (ch s i), .int .i64 (sz s i)]]

set_option maxRecDepth 100000 in
set_option maxHeartbeats 2000000 in
theorem walk1_in (n : Nat) (hn : 1 ≤ n) (l Bs lo hi : Nat) (s : ByteArray) (hs : s.size ≤ maxLen) (hlo0 : 0 < lo) (hlo1 : 1 < lo) (hhi : hi ≤ Bs) (J Jx : List Nat → World → Prop)
    (W : World) (hBs : W.cell? ⟨Bs, 0, none⟩ = some (.string s)) (hT : Lib.Utf8Tabs 0 1 W) (hJ : AbidesFrom W.heap.size J)
    (hY : ∀ pre x W, J pre W → pre.length < (offs s 0).length → YieldAt Fence.wide (n - 1) Tryd.prog l (enc2 s x) W fun e W' =>
      (e = .returned (.bool true) ∧ J (pre ++ [x]) W' ∧ Kp lo hi W W') ∨ (e = .returned (.bool false) ∧ Jx (pre ++ [x]) W'))
    (h0 : J [] W) :
    CallsIn Fence.wide n Tryd.prog 20 #[.func (.yield l) #[] #[], .pointer (some ⟨Bs, 0, none⟩)] W fun e W' => (∃ v, e = .returned v) ∧
      ((∃ ys, ys = offs s 0 ∧ J ys W') ∨ (∃ pre, pre <+: offs s 0 ∧ Jx pre W')) := by
  have hs' := hs
  unfold maxLen at hs
  refine callsIn_of_wp Tryd.func20 rfl trivial ?_ rfl
  simp only [Tryd.ntmps20, List.size_toArray, List.length_cons, List.length_nil, Nat.reduceAdd, Nat.reduceSub, Array.replicate_succ, Array.replicate_zero, List.push_toArray, List.append_toArray, List.nil_append, List.cons_append]
  gi_wp2
  gi_loopw [3] (fun t wr => ∃ (pre : List Nat) (i : Nat), t = .int .i64 i ∧ i ≤ s.size ∧ pre ++ offs s i = offs s 0 ∧ J pre wr ∧ Kp lo hi W wr)
    (fun t _ => s.size - (intOf t).toNat)
  case atStart => exact ⟨[], 0, rfl, Nat.zero_le _, rfl, h0, Kp.refl _ _ _⟩
  case round =>
    obtain ⟨pre, i, rfl, hi', hx, hJs, hK⟩ := hrel
    have hBr := hK.cell (.inr hhi) hBs
    by_cases hlt : i < s.size
    · have hTr := hK.tabs hlo0 hlo1 hT
      have hlen : pre.length < (offs s 0).length := by rw [← hx, offs_step hlt]; simp
      have hin := sz_in hlt
      have hpos := sz_pos hlt
      have hsz : Bs < W.heap.size := by
        obtain ⟨o, ho, _⟩ := cells_of_cell hBs
        exact (Array.getElem?_eq_some_iff.1 ho).1
      have hsz2 := hK.1
      have HY : Hid (∀ w', Below wr.heap.size wr w' → YieldAt Fence.wide (n - 1) Tryd.prog l (enc2 s i) (w'.alloc (.cells #[.int .i32 (ch s i), .int .i64 (sz s i)] 32)) fun e W' =>
          (e = .returned (.bool true) ∧ J (pre ++ [i]) W' ∧ Kp lo hi (w'.alloc (.cells #[.int .i32 (ch s i), .int .i64 (sz s i)] 32)) W') ∨ (e = .returned (.bool false) ∧ Jx (pre ++ [i]) W')) := fun w' hb =>
        hY pre i _ (hJ _ _ _ none (hJ _ _ _ none hJs (grown_of_below hb) (fun r e => by cases e)) (World.grownBy_alloc w' _ none) (fun r e => by cases e)) hlen
      gi_wp2_with (refine ⟨trivial, ?_⟩; gi_at_call 19; refine (callsIn_wide.2 (read_any s i hs' hlt _ hTr)).mono ?_; rintro e w' ⟨rfl, hb⟩; obtain ⟨fn, tmps, assign, body, hy, hR⟩ := HY.out w' hb; dsimp only [enc2] at hy; have HB : Hid (Below wr.heap.size wr w') := hb; have HS : Hid (wr.heap.size ≤ w'.heap.size) := hb.size; clear hb)
      refine hR.mono ?_
      rintro e W3 (⟨rfl, hJ3, hk3⟩ | ⟨rfl, hJx3⟩)
      · have hu : W3.cell? ⟨w'.heap.size, 1, none⟩ = some (.int .i64 (sz s i)) := hk3.cell (.inr (by have := HS.out; show hi ≤ w'.heap.size; omega)) (by simp)
        gi_wp2
        go_roundw
        case rel => exact ⟨pre ++ [i], i + sz s i, by go_num, by omega, by rw [← hx, offs_step hlt]; simp, hJ3, hK.trans ((Kp.of_below HB.out).trans ((Kp.of_below ((Below.refl _ w').alloc (Nat.le_refl _) _)).trans hk3))⟩
        case measure => simp [intOf]; omega
      · gi_wp2
        refine bodyPost_ret (results_none rfl _ _ _) rfl ?_
        exact ⟨⟨_, rfl⟩, .inr ⟨pre ++ [i], ⟨offs s (i + sz s i), by rw [← hx, offs_step hlt]; simp⟩, hJx3⟩⟩
    · gi_wp2
      go_end0
      exact ⟨⟨_, rfl⟩, .inl ⟨pre, by rw [← hx, offs_end (by omega)]; simp, hJs⟩⟩

theorem walk_in (n : Nat) (s : ByteArray) (w : World) :
    CallsIn Fence.wide n Tryd.prog 17 #[.string s] w fun e w' => e = .returned (.func (.func 20) #[] #[.pointer (some ⟨w.heap.size, 0, none⟩)]) ∧ w' = w.alloc (.cells #[.string s] 9) := by
  refine callsIn_of_wp Tryd.func17 rfl trivial ?_ rfl
  simp only [Tryd.ntmps17, List.size_toArray, List.length_cons, List.length_nil, Nat.reduceAdd, Nat.reduceSub, Array.replicate_succ, Array.replicate_zero, List.push_toArray, List.append_toArray, List.nil_append, List.cons_append]
  gi_wp2
  go_ret
  exact ⟨rfl, rfl⟩

theorem walk_stops (n : Nat) (hn : 1 ≤ n) (Bs lo hi : Nat) (s : ByteArray) (hs : s.size ≤ maxLen) (hlo0 : 0 < lo) (hlo1 : 1 < lo) (hhi : hi ≤ Bs) (w : World) (hBs : w.cell? ⟨Bs, 0, none⟩ = some (.string s)) (hT : Lib.Utf8Tabs 0 1 w) :
    SeqStopsK Fence.wide n Tryd.prog 20 #[.pointer (some ⟨Bs, 0, none⟩)] (enc2 s) (Kp lo hi) (fun ys => ys = offs s 0) (fun pre => pre <+: offs s 0) (offs s 0).length w := fun l J Jx W hW hJ _ hY h0 =>
  walk1_in n hn l Bs lo hi s hs hlo0 hlo1 hhi J Jx W ((Kp.of_below (lo := 0) (hi := 0) hW).cell (.inr (Nat.zero_le _)) hBs) (tabs_below hT hW) hJ hY h0

set_option maxRecDepth 100000 in
set_option maxHeartbeats 2000000 in
theorem count_in (n : Nat) (hn : 3 ≤ n) (s : ByteArray) (hs : s.size ≤ maxLen) (w : World) (hT : Lib.Utf8Tabs 0 1 w) (hlo0 : 0 < w.heap.size) (hlo1 : 1 < w.heap.size) :
    CallsIn Fence.wide n Tryd.prog 14 #[.string s] w fun e W' => e = .returned (.int .i64 (offs s 0).length) ∧ Below w.heap.size w W' := by
  have h1 : 1 ≤ n := by omega
  have hl0 := offs_len_le s
  refine callsIn_of_wp_marks Tryd.func14 rfl trivial ?_ rfl
  simp only [Tryd.ntmps14, List.size_toArray, List.length_cons, List.length_nil, Nat.reduceAdd, Nat.reduceSub, Array.replicate_succ, Array.replicate_zero, List.push_toArray, List.append_toArray, List.nil_append, List.cons_append]
  gi_wp2_with (refine ⟨trivial, ?_⟩; gi_at_call 17; refine (walk_in (n - 1) _ _).mono ?_; rintro e w' ⟨rfl, rfl⟩)
  have bO := Boxed.new w 3 (.int .i64 0)
  have bN := Boxed.new (w.alloc (.cells #[.int .i64 0] 3)) 9 (.string s)
  rw [World.size_alloc] at bN
  have hB0 : Below w.heap.size w ((w.alloc (.cells #[.int .i64 0] 3)).alloc (.cells #[.string s] 9)) := ((Below.refl _ w).alloc (Nat.le_refl _) _).alloc (by simp) _
  refine wpIn_rangeFunc_ownG rfl h1 (gf := 20) (lb := #[.pointer (some ⟨w.heap.size + 1, 0, none⟩)]) rfl trivial (enters_of Tryd.func20 (by kernel_rfl) rfl)
    (walk_stops (n - 1) (by omega) (w.heap.size + 1) w.heap.size (w.heap.size + 1) s hs hlo0 hlo1 (Nat.le_refl _) _ bN.cell (tabs_below hT hB0)) Kp.trans (fun W l o o' _ hl ho _ => Kp.putObj W l o o' hl ho) (Below.refl _ _) (fun _ => rfl)
    (fun pre W => Boxed W w.heap.size 3 (.int .i64 pre.length) ∧ Below w.heap.size w W)
    (fun _ _ _ => False)
    (OwnFrom.and (Own.from (boxed_own w.heap.size 3 (fun pre : List Nat => Value.int .i64 pre.length)) _) (ownFrom_below (Nat.le_refl _) (by simp; omega)))
    (fun _ _ _ _ _ hs _ _ => hs)
    ⟨bO.alloc _, hB0⟩
    (fun x => { tmps := #[.string s, undef, .int .i64 0, .pointer (some ⟨w.heap.size, 0, none⟩), .string s, .func (.func 20) #[] #[.pointer (some ⟨w.heap.size + 1, 0, none⟩)], .int .i64 x, .agg #[.int .i32 (ch s x), .int .i64 (sz s x)], undef, undef, undef], defers := [] }) ?assign ?body ?done ?stop
  case assign =>
    intro l x W K hK
    gi_wp2
    simpa [enc2] using hK
  case body =>
    rintro l pre x W ⟨hv, hB⟩ hlt
    have hc := hv.cell
    have hf := hv.frozen
    unfold maxLen at hs
    gi_wp2
    exact ⟨(KeepsOthers.setCell _ _ _).from _, Kp.of_grown (grownBy_setCell' W _ _) (fun r e => by cases e; omega), ⟨by simpa using hv.set _, hB.setCell (p := ⟨w.heap.size, 0, none⟩) (Nat.le_refl _) _⟩⟩
  case done =>
    rintro D ys W hD rfl ⟨hv, hB⟩ hK
    have hc := hv.cell
    gi_wp2
    refine ⟨by simp, .inl ⟨_, _, rfl, run_takeDeferred hK, ?_⟩⟩
    exact ⟨_, results_tmp rfl _ _ _, rfl, hB.trans (belowK_b (w := w) (Nat.le_refl _) W D _ _ (by simp at hD; omega) hK rfl rfl)⟩
  case stop =>
    rintro D c pre W _ _ h _
    exact h.elim

theorem count_any (s : ByteArray) (hs : s.size ≤ maxLen) (w : World) (hT : Lib.Utf8Tabs 0 1 w) (hlo0 : 0 < w.heap.size) (hlo1 : 1 < w.heap.size) :
    Calls Tryd.prog 14 #[.string s] w fun e W' => e = .returned (.int .i64 (offs s 0).length) ∧ Below w.heap.size w W' :=
  callsIn_wide.1 (count_in 3 (by omega) s hs w hT hlo0 hlo1)

theorem infoU : (Tryd.prog.info? 32).map (fun i => (i.zero, i.size, i.bytes)) = some (some (.agg #[.int .i32 0, .int .i64 0]), 2, 16) := by kernel_rfl

/-- the cells of a list of units -/
def ucells (s : ByteArray) (xs : List Nat) : List Value := xs.flatMap fun i => [Value.int .i32 (ch s i), Value.int .i64 (sz s i)]

set_option maxRecDepth 100000 in
set_option maxHeartbeats 2000000 in
theorem units_in (n : Nat) (hn : 4 ≤ n) (s : ByteArray) (hs : s.size ≤ maxLen) (hb : 16 * (offs s 0).length ≤ 281474976710656) (w : World) (hT : Lib.Utf8Tabs 0 1 w) (hlo0 : 0 < w.heap.size) (hlo1 : 1 < w.heap.size) :
    CallsIn Fence.wide n Tryd.prog 10 #[.string s] w fun e W' => ∃ g, e = .returned (.slice (some ⟨g, 0, none⟩) (offs s 0).length (offs s 0).length) ∧ W'.ownsRow w.heap.size 32 2 (.slice (some ⟨g, 0, none⟩) (offs s 0).length (offs s 0).length) (offs s 0).length (ucells s (offs s 0)) ∧ Below w.heap.size w W' := by
  have h1 : 1 ≤ n := by omega
  have hl0 := offs_len_le s
  obtain ⟨N, hN⟩ : ∃ N, (offs s 0).length = N := ⟨_, rfl⟩
  obtain ⟨i0, hi, hz0, hz1, hz2⟩ := info_parts infoU
  have cC := count_in (n - 1) (by omega) s hs w hT hlo0 hlo1
  rw [hN] at cC hb hl0 ⊢
  refine callsIn_of_wp_marks Tryd.func10 rfl trivial ?_ rfl
  simp only [Tryd.ntmps10, List.size_toArray, List.length_cons, List.length_nil, Nat.reduceAdd, Nat.reduceSub, Array.replicate_succ, Array.replicate_zero, List.push_toArray, List.append_toArray, List.nil_append, List.cons_append]
  gi_wp2_with (first | (refine ⟨trivial, ?_⟩; gi_at_call 14; refine cC.mono ?_; rintro e w0 ⟨rfl, hb0⟩) | (gi_at_make; refine wpListIn_make_own _ rfl _ _ 27 rfl w.heap.size 32 i0 _ 2 Tryd.underlying27 hi hz0 hz1 .i64 .i64 _ N rfl rfl rfl (by rw [hz2]; exact hb) (by omega) hb0.size ?_; intro w1 hown1 hgrow1) | (refine ⟨trivial, ?_⟩; gi_at_call 17; refine (walk_in (n - 1) _ _).mono ?_; rintro e w' ⟨rfl, rfl⟩))
  have hgL : w0.heap.size < w1.heap.size := by
    rcases hown1.2 with ⟨h0, _⟩ | ⟨g', cap', cur, hv, _, hg, _⟩
    · cases h0
    · cases hv; exact (Array.getElem?_eq_some_iff.1 hg).1
  have hw0 := hb0.size
  have hB1 : Below w.heap.size w w1 := hb0.grown hgrow1 hb0.size (fun k e => by cases e)
  have bO := Boxed.new w1 27 (.slice (some ⟨w0.heap.size, 0, none⟩) 0 N)
  have bN := Boxed.new (w1.alloc (.cells #[.slice (some ⟨w0.heap.size, 0, none⟩) 0 N] 27)) 9 (.string s)
  rw [World.size_alloc] at bN
  have hB2 : Below w.heap.size w ((w1.alloc (.cells #[.slice (some ⟨w0.heap.size, 0, none⟩) 0 N] 27)).alloc (.cells #[.string s] 9)) := (hB1.alloc hB1.size _).alloc (by simp; omega) _
  refine wpIn_rangeFunc_ownH rfl h1 (gf := 20) (lb := #[.pointer (some ⟨w1.heap.size + 1, 0, none⟩)]) rfl trivial (enters_of Tryd.func20 (by kernel_rfl) rfl)
    (walk_stops (n - 1) (by omega) (w1.heap.size + 1) w0.heap.size (w1.heap.size + 1) s hs (by omega) (by omega) (Nat.le_refl _) _ bN.cell (tabs_below hT hB2)) Kp.trans (fun W l o o' _ hl ho _ => Kp.putObj W l o o' hl ho) (Below.refl _ _) (fun _ => rfl)
    (fun pre W => (∃ v, Boxed W w1.heap.size 27 v ∧ W.ownsRow w.heap.size 32 2 v pre.length (ucells s pre) ∧ v = .slice (some ⟨w0.heap.size, 0, none⟩) pre.length N) ∧ Below w.heap.size w W)
    (fun _ _ _ => False)
    (OwnFrom.and (Own.from (holdsRow_own w.heap.size w1.heap.size 27 32 2 (fun pre => pre.length) (fun pre => ucells s pre) (fun pre v => v = .slice (some ⟨w0.heap.size, 0, none⟩) pre.length N)) _) (ownFrom_below (Nat.le_refl _) (by simp; omega)))
    (fun _ _ _ _ _ hs _ _ => hs)
    ⟨⟨_, bO.alloc _, (hown1.alloc _).alloc _, rfl⟩, hB2⟩
    (fun x a' W => ∃ Bx, w1.heap.size + 1 ≤ Bx ∧ W.cell? ⟨Bx, 0, none⟩ = some (.int .i32 (ch s x)) ∧ W.cell? ⟨Bx, 1, none⟩ = some (.int .i64 (sz s x)) ∧
      a' = { tmps := #[.string s, undef, .slice none 0 0, .pointer (some ⟨w1.heap.size, 0, none⟩), undef, .pointer (some ⟨Bx, 0, none⟩), .string s, .int .i64 N, .slice (some ⟨w0.heap.size, 0, none⟩) 0 N, .string s, .func (.func 20) #[] #[.pointer (some ⟨w1.heap.size + 1, 0, none⟩)], .int .i64 x, .agg #[.int .i32 (ch s x), .int .i64 (sz s x)], undef, undef, undef, undef, undef], defers := [] })
    (fun x a' => fun _ A B row hs hg hr => by obtain ⟨Bx, h1, h2, h3, h4⟩ := hs; exact ⟨Bx, h1, cell_kept h2 hg (fun r e => (hr r e).2), cell_kept h3 hg (fun r e => (hr r e).2), h4⟩)
    ?assign ?body ?done ?stop
  case assign =>
    rintro l pre x W K ⟨⟨v, hv, hrow, hvv⟩, hB⟩ hK
    have hsz := hv.lt
    gi_wp2
    exact hK _ _ ((KeepsOthers.alloc _ _).from _) (Kp.of_below ((Below.refl _ W).alloc (Nat.le_refl _) _)) ⟨⟨v, hv.alloc _, hrow.alloc _, hvv⟩, hB.alloc hB.size _⟩ ⟨W.heap.size, by omega, by simp, by simp, rfl⟩
  case body =>
    rintro l pre x a' W _ _ ⟨⟨v, hv, hrow, rfl⟩, hB⟩ ⟨Bx, hBx, hc0, hc1, rfl⟩ hlt
    rw [hN] at hlt
    have hc := hv.cell
    gi_wp2_with (gi_at_builtin; refine wpListIn_append_fits _ rfl _ _ 27 rfl w.heap.size 32 i0 2 Tryd.underlying27 hi hz1 w0.heap.size pre.length N _ rfl (hrow.alloc _) ⟨W.heap.size, 0, none⟩ 1 1 [.int .i32 (ch s x), .int .i64 (sz s x)] rfl rfl (cell_two_new _ _ _ _) (by simp [Value.oneCell']) (by omega) ?_; intro w2 hown' hgrow; obtain ⟨hv1, hv2, hr2, hk2, hb2⟩ := hv.appended (by decide) hrow hB.size (by omega) hown' hgrow; have hc1 := hv1.cell; have hf1 := hv1.frozen)
    exact ⟨hk2.from _, ((Kp.of_below ((Below.refl _ W).alloc (Nat.le_refl _) _)).trans (Kp.of_grown hgrow (fun r e => by cases e; omega))).trans (Kp.of_grown (grownBy_setCell' _ _ _) (fun r e => by cases e; omega)), ⟨_, hv2, by simpa [ucells] using hr2, by simp⟩, hB.trans hb2⟩
  case done =>
    rintro D ys W hD rfl ⟨⟨v, hv, hrow, rfl⟩, hB⟩ hK
    have hc := hv.cell
    rw [hN] at hc hrow
    gi_wp2
    refine ⟨by simp, .inl ⟨_, _, rfl, run_takeDeferred hK, ?_⟩⟩
    exact ⟨_, results_tmp rfl _ _ _, w0.heap.size, rfl, ownsRow_putObj hrow _ hK rfl, hB.trans (belowK_b (w := w) (Nat.le_refl _) W D _ _ (by simp at hD; omega) hK rfl rfl)⟩
  case stop =>
    rintro D c pre W _ _ h _
    exact h.elim

theorem units_any (s : ByteArray) (hs : s.size ≤ maxLen) (hb : 16 * (offs s 0).length ≤ 281474976710656) (w : World) (hT : Lib.Utf8Tabs 0 1 w) (hlo0 : 0 < w.heap.size) (hlo1 : 1 < w.heap.size) :
    Calls Tryd.prog 10 #[.string s] w fun e W' => ∃ g, e = .returned (.slice (some ⟨g, 0, none⟩) (offs s 0).length (offs s 0).length) ∧ W'.ownsRow w.heap.size 32 2 (.slice (some ⟨g, 0, none⟩) (offs s 0).length (offs s 0).length) (offs s 0).length (ucells s (offs s 0)) ∧ Below w.heap.size w W' :=
  callsIn_wide.1 (units_in 4 (by omega) s hs hb w hT hlo0 hlo1)
end Go.Proofs.YtadgbbnkhjapnabDoor
