/-
  The iterator that package unit's Walk hands back, where the rounds may write any blocks of their own: the offsets of the units one behind the other. Conditions: the two tables of unicode/utf8 lie as their text lays them; the text can be read; no round writes the tables or the iterator's own text.
-/
import Derived.Test.YtadgbbnkhjapnabDoorUIter
namespace Go.Proofs.YtadgbbnkhjapnabDoor
open Go.RowKit Go.Shelf Bod
attribute [local go_sem] Oper.semAt_some

/-- what a round keeps: every block of cells but those of M lies as it lay -/
def KpM (M : Nat → Prop) (W W' : World) : Prop := W.heap.size ≤ W'.heap.size ∧ ∀ (k : Nat) (o : Obj), ¬ M k → W.heap[k]? = some o → o.isCells = true → W'.heap[k]? = some o
theorem KpM.refl (M : Nat → Prop) (W : World) : KpM M W W := ⟨Nat.le_refl _, fun _ _ _ h _ => h⟩
theorem KpM.trans {M : Nat → Prop} {X Y Z : World} (h : KpM M X Y) (k : KpM M Y Z) : KpM M X Z := ⟨Nat.le_trans h.1 k.1, fun i o a b c => k.2 i o a (h.2 i o a b c) c⟩
theorem KpM.putObj {M : Nat → Prop} (W : World) (l : Nat) (o o' : Obj) (hl : W.heap[l]? = some o) (ho : o.isCells = false) : KpM M W (W.putObj l o') :=
  ⟨by simp, fun k c _ hk hc => (World.putObj_heap_other (fun e => by subst e; rw [hl] at hk; cases hk; rw [ho] at hc; cases hc)).trans hk⟩
theorem KpM.of_below {M : Nat → Prop} {W W' : World} (h : Below W.heap.size W W') : KpM M W W' :=
  ⟨h.size, fun k _ _ hk _ => (h.block k (Array.getElem?_eq_some_iff.1 hk).1).trans hk⟩
theorem KpM.of_grown {M : Nat → Prop} {W W' : World} {row : Option Nat} (h : W.grownBy W' row) (hr : ∀ r, row = some r → M r) : KpM M W W' :=
  ⟨h.size, fun k _ a hk _ => (h.block k (Array.getElem?_eq_some_iff.1 hk).1 (fun e => a (hr k e.symm))).trans hk⟩
theorem KpM.mono {M M' : Nat → Prop} {W W' : World} (h : KpM M W W') (hm : ∀ k, k < W.heap.size → M k → M' k) : KpM M' W W' :=
  ⟨h.1, fun k o a hk hc => h.2 k o (fun q => a (hm k (Array.getElem?_eq_some_iff.1 hk).1 q)) hk hc⟩
theorem KpM.cell {M : Nat → Prop} {W W' : World} (h : KpM M W W') {a : Addr} {v : Value} (ha : ¬ M a.block) (hc : W.cell? a = some v) : W'.cell? a = some v := by
  obtain ⟨o, ho, hcl⟩ := cells_of_cell hc
  rw [World.cell?_of_block (w := W) ((h.2 _ _ ha ho hcl).trans ho.symm)]
  exact hc
theorem KpM.tabs {M : Nat → Prop} {W W' : World} (h : KpM M W W') (h0 : ¬ M 0) (h1 : ¬ M 1) (t : Lib.Utf8Tabs 0 1 W) : Lib.Utf8Tabs 0 1 W' :=
  ⟨fun c hc => h.cell h0 (t.1 c hc), fun i hi => ⟨h.cell h1 (t.2 i hi).1, h.cell h1 (t.2 i hi).2⟩⟩

set_option maxRecDepth 100000 in
set_option maxHeartbeats 2000000 in
theorem walkM_in (n : Nat) (hn : 1 ≤ n) (l Bs : Nat) (M : Nat → Prop) (s : ByteArray) (hs : s.size ≤ maxLen) (hM0 : ¬ M 0) (hM1 : ¬ M 1) (hMB : ¬ M Bs) (J Jx : List Nat → World → Prop)
    (W : World) (hBs : W.cell? ⟨Bs, 0, none⟩ = some (.string s)) (hT : Lib.Utf8Tabs 0 1 W) (hMn : ∀ k, W.heap.size ≤ k → ¬ M k) (hJ : AbidesFrom W.heap.size J)
    (hY : ∀ pre x W, J pre W → pre.length < (offs s 0).length → YieldAt Fence.wide (n - 1) Tryd.prog l (enc2 s x) W fun e W' =>
      (e = .returned (.bool true) ∧ J (pre ++ [x]) W' ∧ KpM M W W') ∨ (e = .returned (.bool false) ∧ Jx (pre ++ [x]) W'))
    (h0 : J [] W) :
    CallsIn Fence.wide n Tryd.prog 20 #[.func (.yield l) #[] #[], .pointer (some ⟨Bs, 0, none⟩)] W fun e W' => (∃ v, e = .returned v) ∧
      ((∃ ys, ys = offs s 0 ∧ J ys W') ∨ (∃ pre, pre <+: offs s 0 ∧ Jx pre W')) := by
  have hs' := hs
  unfold maxLen at hs
  refine callsIn_of_wp Tryd.func20 rfl trivial ?_ rfl
  simp only [Tryd.ntmps20, List.size_toArray, List.length_cons, List.length_nil, Nat.reduceAdd, Nat.reduceSub, Array.replicate_succ, Array.replicate_zero, List.push_toArray, List.append_toArray, List.nil_append, List.cons_append]
  gi_wp2
  gi_loopw [3] (fun t wr => ∃ (pre : List Nat) (i : Nat), t = .int .i64 i ∧ i ≤ s.size ∧ pre ++ offs s i = offs s 0 ∧ J pre wr ∧ KpM M W wr)
    (fun t _ => s.size - (intOf t).toNat)
  case atStart => exact ⟨[], 0, rfl, Nat.zero_le _, rfl, h0, KpM.refl _ _⟩
  case round =>
    obtain ⟨pre, i, rfl, hi', hx, hJs, hK⟩ := hrel
    have hBr := hK.cell hMB hBs
    by_cases hlt : i < s.size
    · have hTr := hK.tabs hM0 hM1 hT
      have hlen : pre.length < (offs s 0).length := by rw [← hx, offs_step hlt]; simp
      have hin := sz_in hlt
      have hpos := sz_pos hlt
      have hsz : Bs < W.heap.size := by
        obtain ⟨o, ho, _⟩ := cells_of_cell hBs
        exact (Array.getElem?_eq_some_iff.1 ho).1
      have hsz2 := hK.1
      have HY : Hid (∀ w', Below wr.heap.size wr w' → YieldAt Fence.wide (n - 1) Tryd.prog l (enc2 s i) (w'.alloc (.cells #[.int .i32 (ch s i), .int .i64 (sz s i)] 32)) fun e W' =>
          (e = .returned (.bool true) ∧ J (pre ++ [i]) W' ∧ KpM M (w'.alloc (.cells #[.int .i32 (ch s i), .int .i64 (sz s i)] 32)) W') ∨ (e = .returned (.bool false) ∧ Jx (pre ++ [i]) W')) := fun w' hb =>
        hY pre i _ (hJ _ _ _ none (hJ _ _ _ none hJs (grown_of_below hb) (fun r e => by cases e)) (World.grownBy_alloc w' _ none) (fun r e => by cases e)) hlen
      gi_wp2_with (refine ⟨trivial, ?_⟩; gi_at_call 19; refine (callsIn_wide.2 (read_any s i hs' hlt _ hTr)).mono ?_; rintro e w' ⟨rfl, hb⟩; obtain ⟨fn, tmps, assign, body, hy, hR⟩ := HY.out w' hb; dsimp only [enc2] at hy; have HB : Hid (Below wr.heap.size wr w') := hb; have HS : Hid (wr.heap.size ≤ w'.heap.size) := hb.size; clear hb)
      refine hR.mono ?_
      rintro e W3 (⟨rfl, hJ3, hk3⟩ | ⟨rfl, hJx3⟩)
      · have hu : W3.cell? ⟨w'.heap.size, 1, none⟩ = some (.int .i64 (sz s i)) := hk3.cell (hMn _ (show W.heap.size ≤ w'.heap.size by have := HS.out; omega)) (by simp)
        gi_wp2
        go_roundw
        case rel => exact ⟨pre ++ [i], i + sz s i, by go_num, by omega, by rw [← hx, offs_step hlt]; simp, hJ3, hK.trans ((KpM.of_below HB.out).trans ((KpM.of_below ((Below.refl _ w').alloc (Nat.le_refl _) _)).trans hk3))⟩
        case measure => simp [intOf]; omega
      · gi_wp2
        refine bodyPost_ret (results_none rfl _ _ _) rfl ?_
        exact ⟨⟨_, rfl⟩, .inr ⟨pre ++ [i], ⟨offs s (i + sz s i), by rw [← hx, offs_step hlt]; simp⟩, hJx3⟩⟩
    · gi_wp2
      go_end0
      exact ⟨⟨_, rfl⟩, .inl ⟨pre, by rw [← hx, offs_end (by omega)]; simp, hJs⟩⟩


theorem walkM_stops (n : Nat) (hn : 1 ≤ n) (Bs : Nat) (M : Nat → Prop) (s : ByteArray) (hs : s.size ≤ maxLen) (hM0 : ¬ M 0) (hM1 : ¬ M 1) (hMB : ¬ M Bs) (w : World) (hMn : ∀ k, w.heap.size ≤ k → ¬ M k) (hBs : w.cell? ⟨Bs, 0, none⟩ = some (.string s)) (hT : Lib.Utf8Tabs 0 1 w) :
    SeqStopsK Fence.wide n Tryd.prog 20 #[.pointer (some ⟨Bs, 0, none⟩)] (enc2 s) (KpM M) (fun ys => ys = offs s 0) (fun pre => pre <+: offs s 0) (offs s 0).length w := fun l J Jx W hW hJ _ hY h0 =>
  walkM_in n hn l Bs M s hs hM0 hM1 hMB J Jx W ((KpM.of_below (M := fun _ => False) hW).cell (fun h => h) hBs) (tabs_below hT hW) (fun k hk => hMn k (Nat.le_trans hW.size hk)) hJ hY h0
end Go.Proofs.YtadgbbnkhjapnabDoor
