/-
  The library's maps.Keys where there is no map; slices.Sort of no bytes. Conditions: those of each theorem.
-/
import Derived.Test.YtolafffpgkgadaaEAll
import Derived.Test.YtolafffpgkgadaaEPdqC
import Derived.Laws.IdiomRangeMap
namespace Go.Proofs.Ytolafffpgkgadaa
open Go.RowKit Go.Shelf Bod
attribute [local go_sem] Oper.semAt_some

set_option maxRecDepth 100000 in
set_option maxHeartbeats 1000000 in
theorem keys_seqN (n : Nat) (Bm B : Nat) (w : World) (hBm : Bm < w.heap.size) (hm : w.cell? ⟨Bm, 0, none⟩ = some (.map none)) :
    SeqC Fence.wide n Try.prog 52 #[.pointer (some ⟨Bm, 0, none⟩)] (fun x : Nat => #[.int .u8 (x : Int)]) (fun _ _ => True) (fun ys => ys = []) (fun _ => True) (fun _ _ => False) 0 B w := by
  intro l J Jx W hWB hW hJ hJx hY h0
  have hm' : W.cell? ⟨Bm, 0, none⟩ = some (.map none) := (hW.cell (p := ⟨Bm, 0, none⟩) hBm).trans hm
  have hr := fun w => run_range_nilMap (P := Try.prog) w 47 5 3 Try.underlying47
  have hnx := @run_next_nilMap Try.prog
  have HJ : Hid (∀ o, J [] (W.alloc o)) := fun o => hJ.alloc o h0
  clear hm hBm hW hWB hY hJx
  refine callsIn_of_wp Try.func52 rfl trivial ?_ rfl
  simp only [Try.ntmps52, List.size_toArray, List.length_cons, List.length_nil, Nat.reduceAdd, Nat.reduceSub, Array.replicate_succ, Array.replicate_zero, List.push_toArray, List.append_toArray, List.nil_append, List.cons_append]
  gi_wp2
  gi_loopw [3] (fun _ wr => wr = W.alloc (.mapIter none 0 #[] 0)) (fun _ _ => 0)
  case atStart => rfl
  case round =>
    subst hrel
    gi_wp2
    go_end0
    exact ⟨⟨_, rfl⟩, .inl ⟨[], rfl, HJ.out _⟩⟩
set_option maxRecDepth 100000 in
theorem pdq_nil (w : World) (l : Int) : Calls Try.prog 55 #[.slice none 0 0, .int .i64 0, .int .i64 0, .int .i64 l] w fun e w' => e = .returned (.tuple #[]) ∧ w' = w := by
  have CI := ins_empty w (.slice none 0 0) 0 (by omega)
  go_enter Try.func55, Try.ntmps55
  go_wp2
  go_loopw [1, 2] (fun t1 t2 wr => wr = w ∧ t1 = .int .i64 0 ∧ t2 = .int .i64 0) (fun _ _ _ => 0)
  case atStart => exact ⟨rfl, rfl, rfl⟩
  case round =>
    obtain ⟨rfl, rfl, rfl⟩ := hrel
    go_wp2_with (go_at_call 57; refine CI.mono ?_; rintro e w1 ⟨rfl, rfl⟩)
    exact bodyPost_ret (results_none rfl _ _ _) rfl ⟨rfl, rfl⟩
theorem sort_nil (w : World) : Calls Try.prog 51 #[.slice none 0 0] w fun e w' => e = .returned (.tuple #[]) ∧ w' = w := by
  have CL := blen_any (n := 0) (by omega) w
  go_enter Try.func51, Try.ntmps51
  go_wp2_with (first | (go_at_call 56; refine CL.mono ?_; rintro e w1 ⟨⟨r, hr, rfl⟩, rfl⟩) | (go_at_call 55; refine (pdq_nil _ _).mono ?_; rintro e w2 ⟨rfl, rfl⟩))
  go_end0
  exact ⟨rfl, rfl⟩
end Go.Proofs.Ytolafffpgkgadaa
