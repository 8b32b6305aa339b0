/-
  The iterator that package unit's Walk hands back, as an iterator that keeps no cells of its own: the offsets of the units one behind the other, each round handed just the next one. Conditions: the two tables of unicode/utf8 lie as their text lays them; the text can be read; no round writes the tables, the iterator's own text or its units.
-/
import Derived.RangeFuncLeaves
import Derived.Shelf.Abstract
import Derived.Shelf.RegionOpen
import Derived.OwnWalkIn
import Derived.TacticsInMore
import Derived.LoopNIn
import Derived.LoopIn
import Derived.Maps.AppendAt
import Derived.Test.YtgagpmeknpjkpaaGreatDoorUWalk
import Derived.Test.YtgagpmeknpjkpaaGreatDoorXSeq
namespace Go.Proofs.YtgagpmeknpjkpaaGreatDoor
open Go.RowKit Go.Shelf Bod
attribute [local go_sem] Oper.semAt_some

/-- what the iterator hands yield at the offset i -/
abbrev enc2 (s : ByteArray) (i : Nat) : Array Value := #[.int .i64 (i : Int), .agg #[.int .i32 (ch s i), .int .i64 (sz s i)]]

theorem tabs_kpt {M : Nat → Obj → Prop} {W W' : World} (h : KpT M W W') (h0 : ∀ o, ¬ M 1 o) (h1 : ∀ o, ¬ M 2 o) (t : Lib.Utf8Tabs 1 2 W) : Lib.Utf8Tabs 1 2 W' :=
  ⟨fun c hc => h.cell (fun o _ => h0 o) (t.1 c hc), fun i hi => ⟨h.cell (fun o _ => h1 o) (t.2 i hi).1, h.cell (fun o _ => h1 o) (t.2 i hi).2⟩⟩

set_option maxRecDepth 100000 in
set_option maxHeartbeats 2000000 in
theorem unit_seq (n : Nat) (hn : 1 ≤ n) (Bs B : Nat) (M : Nat → Obj → Prop) (s : ByteArray) (hs : s.size ≤ maxLen) (hM0 : ∀ o, ¬ M 1 o) (hM1 : ∀ o, ¬ M 2 o) (hMB : ∀ o, ¬ M Bs o) (hMU : ∀ k vs fz, B ≤ k → ¬ M k (.cells vs 93 fz))
    (w : World) (hBs : w.cell? ⟨Bs, 0, none⟩ = some (.string s)) (hT : Lib.Utf8Tabs 1 2 w) :
    SeqC Fence.wide n Tryz.prog 81 #[.pointer (some ⟨Bs, 0, none⟩)] (enc2 s) (KpT M) (fun ys => ys = offs s 0) (fun pre => pre <+: offs s 0) (fun pre x => pre ++ [x] <+: offs s 0) 0 B w := by
  intro l J Jx W hWB hW hJ _ hY h0
  have hBs : W.cell? ⟨Bs, 0, none⟩ = some (.string s) := (KpT.of_below (M := fun _ _ => False) (W := w) hW).cell (fun _ _ h => h) hBs
  have hT : Lib.Utf8Tabs 1 2 W := tabs_below hT hW
  clear hW
  have hs' := hs
  unfold maxLen at hs
  refine callsIn_of_wp Tryz.func81 rfl trivial ?_ rfl
  simp only [Tryz.ntmps81, List.size_toArray, List.length_cons, List.length_nil, Nat.reduceAdd, Nat.reduceSub, Array.replicate_succ, Array.replicate_zero, List.push_toArray, List.append_toArray, List.nil_append, List.cons_append]
  have HWB : Hid (W.heap.size = B) := hWB
  clear hWB
  gi_wp2
  gi_loopw [3] (fun t wr => ∃ (pre : List Nat) (i : Nat), t = .int .i64 i ∧ i ≤ s.size ∧ pre ++ offs s i = offs s 0 ∧ J pre wr ∧ KpT M W wr)
    (fun t _ => s.size - (intOf t).toNat)
  case atStart => exact ⟨[], 0, rfl, Nat.zero_le _, rfl, h0, KpT.refl _ _⟩
  case round =>
    obtain ⟨pre, i, rfl, hi', hx, hJs, hK⟩ := hrel
    have hBr := hK.cell (fun o _ => hMB o) hBs
    by_cases hlt : i < s.size
    · have hTr := tabs_kpt hK hM0 hM1 hT
      have hnx : pre ++ [i] <+: offs s 0 := ⟨offs s (i + sz s i), by rw [← hx, offs_step hlt]; simp⟩
      have hin := sz_in hlt
      have hpos := sz_pos hlt
      have hsz2 := hK.1
      have HY : Hid (∀ w', Below wr.heap.size wr w' → YieldAt Fence.wide (n - 1) Tryz.prog l (enc2 s i) (w'.alloc (.cells #[.int .i32 (ch s i), .int .i64 (sz s i)] 93)) fun e W' =>
          (e = .returned (.bool true) ∧ J (pre ++ [i]) W' ∧ KpT M (w'.alloc (.cells #[.int .i32 (ch s i), .int .i64 (sz s i)] 93)) W') ∨ (e = .returned (.bool false) ∧ Jx (pre ++ [i]) W')) := fun w' hb =>
        (hY pre i _ (hJ.alloc _ (hJ.grow hJs (grown_of_below hb))) (by have h1 := hb.size; have h2 := HWB.out; simp; omega) hnx).mono fun _ _ h => h.2
      gi_wp2_with (refine ⟨trivial, ?_⟩; gi_at_call 77; refine (callsIn_wide.2 (read_any s i hs' hlt _ hTr)).mono ?_; rintro e w' ⟨rfl, hb⟩; obtain ⟨fn, tmps, assign, body, hy, hR⟩ := HY.out w' hb; dsimp only [enc2] at hy; have HB : Hid (Below wr.heap.size wr w') := hb; have HS : Hid (wr.heap.size ≤ w'.heap.size) := hb.size; clear hb)
      refine hR.mono ?_
      rintro e W3 (⟨rfl, hJ3, hk3⟩ | ⟨rfl, hJx3⟩)
      · have hu : W3.cell? ⟨w'.heap.size, 1, none⟩ = some (.int .i64 (sz s i)) := hk3.cell (fun o ho => by
            have e : some o = some (.cells #[.int .i32 (ch s i), .int .i64 (sz s i)] 93) := ho.symm.trans (World.alloc_heap_new w' _)
            cases e
            exact hMU _ _ _ (by have h1 := HS.out; have h2 := HWB.out; show B ≤ w'.heap.size; omega)) (by simp)
        gi_wp2
        go_roundw
        case rel => exact ⟨pre ++ [i], i + sz s i, by go_num, by omega, by rw [← hx, offs_step hlt]; simp, hJ3, hK.trans ((KpT.of_below HB.out).trans ((KpT.of_below ((Below.refl _ w').alloc (Nat.le_refl _) _)).trans hk3))⟩
        case measure => simp [intOf]; omega
      · gi_wp2
        refine bodyPost_ret (results_none rfl _ _ _) rfl ?_
        exact ⟨⟨_, rfl⟩, .inr ⟨pre ++ [i], hnx, hJx3⟩⟩
    · gi_wp2
      go_end0
      exact ⟨⟨_, rfl⟩, .inl ⟨pre, by rw [← hx, offs_end (by omega)]; simp, hJs⟩⟩

theorem uwalk_in (n : Nat) (s : ByteArray) (w : World) :
    CallsIn Fence.wide n Tryz.prog 60 #[.string s] w fun e w' => e = .returned (.func (.func 81) #[] #[.pointer (some ⟨w.heap.size, 0, none⟩)]) ∧ w' = w.alloc (.cells #[.string s] 9) := by
  refine callsIn_of_wp Tryz.func60 rfl trivial ?_ rfl
  simp only [Tryz.ntmps60, List.size_toArray, List.length_cons, List.length_nil, Nat.reduceAdd, Nat.reduceSub, Array.replicate_succ, Array.replicate_zero, List.push_toArray, List.append_toArray, List.nil_append, List.cons_append]
  gi_wp2
  go_ret
  exact ⟨rfl, rfl⟩
end Go.Proofs.YtgagpmeknpjkpaaGreatDoor
