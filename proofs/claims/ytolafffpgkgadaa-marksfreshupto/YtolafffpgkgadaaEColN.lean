/-
  The library's slices.AppendSeq, Collect and Sorted over the names where there are none; package marks' All and Len of an empty set. Conditions: those of each theorem.
-/
import Derived.Test.YtolafffpgkgadaaEKeysN
namespace Go.Proofs.Ytolafffpgkgadaa
open Go.RowKit Go.Shelf Bod
attribute [local go_sem] Oper.semAt_some

/-- no names -/
def NoneB (w : World) (e : Ending) (W' : World) : Prop := e = .returned (.slice none 0 0) ∧ Below w.heap.size w W'
set_option maxRecDepth 100000 in
set_option maxHeartbeats 1000000 in
theorem appendSeq_nil (n : Nat) (hn : 3 ≤ n) (Bm : Nat) (w : World) (hBm : w.heap[Bm]? = some (.cells #[.map none] 47 (0, 0))) :
    CallsIn Fence.wide n Try.prog 54 #[.slice none 0 0, .func (.func 52) #[] #[.pointer (some ⟨Bm, 0, none⟩)]] w (NoneB w) := by
  have h1 : 1 ≤ n := by omega
  have hlt := (Array.getElem?_eq_some_iff.1 hBm).1
  refine callsIn_of_wp_marks Try.func54 rfl trivial ?_ rfl
  simp only [Try.ntmps54, List.size_toArray, List.length_cons, List.length_nil, Nat.reduceAdd, Nat.reduceSub, Array.replicate_succ, Array.replicate_zero, List.push_toArray, List.append_toArray, List.nil_append, List.cons_append]
  gi_wp2
  obtain ⟨W1, hW1⟩ : ∃ W1, w.alloc (.cells #[.slice none 0 0] 76) = W1 := ⟨_, rfl⟩
  rw [hW1]
  have p0 : W1.heap[w.heap.size]? = some (.cells #[.slice none 0 0] 76 (0, 0)) := by rw [← hW1]; exact World.alloc_heap_new w _
  have hB0 : Below w.heap.size w W1 := by rw [← hW1]; exact (Below.refl _ w).alloc (Nat.le_refl _) _
  have hsz : W1.heap.size = w.heap.size + 1 := by rw [← hW1]; simp
  clear hW1
  refine range_own rfl h1 (gf := 52) (lb := #[.pointer (some ⟨Bm, 0, none⟩)]) rfl trivial (enters_of Try.func52 (by kernel_rfl) rfl)
    (keys_seqN (n - 1) Bm (W1.heap.size + 2) W1 (by omega) (by simp [World.cell?, (hB0.block Bm hlt).trans hBm]))
    (fun _ _ => trivial) (fun W l o o' h _ hl ho => trivial) (fun _ => rfl)
    (fun pre W => (∃ v, Lb w.heap.size w.heap.size (W1.heap.size + 2) pre W v) ∧ Below w.heap.size w W)
    (fun _ _ _ => False)
    (Ab.and (lb_ab (by omega)) (ab_below (by omega) (Nat.le_refl _)))
    (fun _ _ _ _ _ hs _ _ => hs)
    ⟨⟨_, p0, World.ownsRow_nil _ _ _ _, by simp, fun g h => by cases h⟩, hB0⟩
    (fun x a' W' => a' = { tmps := #[.slice none 0 0, .func (.func 52) #[] #[.pointer (some ⟨Bm, 0, none⟩)], .pointer (some ⟨w.heap.size, 0, none⟩), undef, .slice none 0 0, .int .u8 (x : Int), .func (.func 52) #[] #[.pointer (some ⟨Bm, 0, none⟩)], .int .u8 (x : Int), undef, undef, undef, undef, undef], defers := [] })
    (fun x a' _ X Y row h hg hr => h)
    ?assign ?body ?done ?stop
  case assign =>
    rintro l pre x W K hI hK
    gi_wp2
    exact hK _ _ (kf_below (Below.refl _ W)) trivial hI rfl
  case body =>
    rintro l pre x a' W _ _ _ _ _ _ h
    exact h.elim
  case done =>
    rintro D ys W hD hp ⟨⟨v, hv⟩, hB⟩ hK
    have hc : W.cell? ⟨w.heap.size, 0, none⟩ = some v := by simp [World.cell?, hv.box]
    gi_wp2
    refine ⟨by simp, .inl ⟨_, _, rfl, run_takeDeferred hK, ?_⟩⟩
    exact ⟨_, results_tmp rfl _ _ _, (by rw [hv.nil.2 hp]; rfl), hB.trans (belowK_b (w := w) (Nat.le_refl _) W D _ _ (by omega) hK rfl rfl)⟩
  case stop =>
    rintro D c pre W _ _ h _
    exact h.elim
theorem collect_nil (n : Nat) (hn : 4 ≤ n) (Bm : Nat) (w : World) (hBm : w.heap[Bm]? = some (.cells #[.map none] 47 (0, 0))) :
    CallsIn Fence.wide n Try.prog 50 #[.func (.func 52) #[] #[.pointer (some ⟨Bm, 0, none⟩)]] w (NoneB w) := by
  have h1 : 1 ≤ n := by omega
  have cA := appendSeq_nil (n - 1) (by omega) Bm w hBm
  refine callsIn_of_wp Try.func50 rfl trivial ?_ rfl
  simp only [Try.ntmps50, List.size_toArray, List.length_cons, List.length_nil, Nat.reduceAdd, Nat.reduceSub, Array.replicate_succ, Array.replicate_zero, List.push_toArray, List.append_toArray, List.nil_append, List.cons_append]
  gi_wp2_with (refine ⟨trivial, ?_⟩; gi_at_call 54; refine cA.mono ?_; rintro e w1 ⟨rfl, q⟩)
  go_ret
  exact ⟨rfl, q⟩
/-- an empty map, or none -/
def Emp (W : World) (mb : Option Nat) : Prop := ∀ b, mb = some b → Mp W b []
theorem collect_emp (Bm : Nat) (mb : Option Nat) (w : World) (hBm : w.heap[Bm]? = some (.cells #[.map mb] 47 (0, 0))) (hE : Emp w mb) :
    Calls Try.prog 50 #[.func (.func 52) #[] #[.pointer (some ⟨Bm, 0, none⟩)]] w (NoneB w) := by
  cases mb with
  | none => exact callsIn_wide.1 (collect_nil 4 (by omega) Bm w hBm)
  | some b =>
    refine (collect_any Bm b [] w hBm (hE b rfl)).mono ?_
    rintro e w' ⟨v, ss, rfl, hp, hr, hv, hb⟩
    exact ⟨by rw [hv.2 hp.eq_nil], hb⟩
set_option maxRecDepth 100000 in
theorem sorted_emp (Bm : Nat) (mb : Option Nat) (w : World) (hBm : w.heap[Bm]? = some (.cells #[.map mb] 47 (0, 0))) (hE : Emp w mb) :
    Calls Try.prog 42 #[.func (.func 52) #[] #[.pointer (some ⟨Bm, 0, none⟩)]] w (NoneB w) := by
  have CC := collect_emp Bm mb w hBm hE
  clear hBm hE
  go_enter Try.func42, Try.ntmps42
  go_wp2_with (first
    | (go_at_call 50; refine CC.mono ?_; clear CC; rintro e w1 ⟨rfl, hb⟩; have HB : Hid (Below w.heap.size w w1) := hb; clear hb)
    | (go_at_call 51; refine (sort_nil _).mono ?_; rintro e w2 ⟨rfl, rfl⟩))
  go_ret
  exact ⟨rfl, HB.out⟩
theorem map_lenN (w : World) (ty : TypeId) : (Builtin.len_ #[47] ty #[.map none]).run Try.prog w = .ok (.int .i64 0) w := by
  simp [Builtin.len_, run_underlying Try.underlying47, Result.andThen, goInt]
set_option maxRecDepth 100000 in
set_option maxHeartbeats 1000000 in
/-- All where there is no mark: of a set, or of nil -/
theorem All_emp {w : World} (r : Value) (mb : Option Nat) (hA : Calls Try.prog 39 #[r] w fun e w' => e = .returned (.map mb) ∧ w' = w) (hE : Emp w mb) :
    Calls Try.prog 25 #[r] w fun e W' => ∃ v, e = .returned v ∧ W'.ownsRow w.heap.size 26 2 v 0 [] ∧ Below w.heap.size w W' := by
  obtain ⟨i0, hi, hz0, hz1, hz2⟩ := info_parts infoM
  have CK : Hid (∀ w1, Calls Try.prog 43 #[.map mb] w1 fun e w' => e = .returned (.func (.func 52) #[] #[.pointer (some ⟨w1.heap.size, 0, none⟩)]) ∧ w' = w1.alloc (.cells #[.map mb] 47)) := fun w1 => callsIn_wide.1 (keys_in 1 _ _)
  have CS : Hid (∀ w1, Below w.heap.size w w1 → Calls Try.prog 42 #[.func (.func 52) #[] #[.pointer (some ⟨w1.heap.size, 0, none⟩)]] (w1.alloc (.cells #[.map mb] 47)) fun e W' => e = .returned (.slice none 0 0) ∧ Below w1.heap.size w1 W') := fun w1 hb => by
    have hb1 : Below w1.heap.size w1 (w1.alloc (.cells #[.map mb] 47)) := (Below.refl _ w1).alloc (Nat.le_refl _) _
    refine (sorted_emp w1.heap.size mb _ (World.alloc_heap_new w1 _) (fun b e => ((hE b e).of_heap (hb.block b (hE b e).lt)).of_heap (hb1.block b (by have := hb.size; have := (hE b e).lt; omega)))).mono ?_
    rintro e W' ⟨h1, h4⟩
    exact ⟨h1, hb1.trans (h4.mono hb1.size)⟩
  have HE : Hid (Emp w mb) := hE
  clear hE
  cases mb with
  | none =>
    have hln := map_lenN w
    go_enter Try.func25, Try.ntmps25
    go_wp2_with (first
      | (go_at_call 39; refine hA.mono ?_; clear hA; rintro e w1 ⟨rfl, rfl⟩)
      | (at_make; refine wpList_make_own _ rfl _ _ 22 rfl _ 26 i0 _ 2 Try.underlying22 hi hz0 hz1 .i64 .i64 _ 0 rfl rfl rfl (by rw [hz2]; omega) (by unfold maxLen; omega) (Nat.le_refl _) ?_; intro w2 hown2 hg2; have HB2 : Hid (Below w1.heap.size w1 w2) := ⟨hg2.os, hg2.tape, hg2.output, hg2.size, fun k hk => hg2.block k hk (by simp)⟩; have HO2 : Hid (w2.ownsRow w1.heap.size 26 2 (.slice (some ⟨w1.heap.size, 0, none⟩) 0 0) 0 []) := hown2; clear hg2 hown2)
      | (go_at_call 43; refine (CK.out _).mono ?_; clear CK; rintro e w3 ⟨rfl, rfl⟩)
      | (go_at_call 42; refine (CS.out _ HB2.out).mono ?_; clear CS; rintro e w4 ⟨rfl, hb4⟩; have HB4 : Hid (Below w2.heap.size w2 w4) := hb4; clear hb4)
      | go_in)
    go_loopw [4, 16] (fun t4 t16 wr => t4 = .slice (some ⟨w1.heap.size, 0, none⟩) 0 0 ∧ t16 = .int .i64 0 ∧ wr = w4) (fun _ _ _ => 0)
    case atStart => exact ⟨rfl, rfl, rfl⟩
    case round =>
      obtain ⟨rfl, rfl, rfl⟩ := hrel
      go_wp2
      go_ret
      exact ⟨_, rfl, HO2.out.kept (Bod.grown_of_below HB4.out) (.inr (by simp [Value.ownBlock])), HB2.out.trans (HB4.out.mono HB2.out.size)⟩
  | some b =>
    have hlen := (HE.out b rfl).1
    have hsz : Maps.size (mk []) = 0 := rfl
    go_enter Try.func25, Try.ntmps25
    go_wp2_with (first
      | (go_at_call 39; refine hA.mono ?_; clear hA; rintro e w1 ⟨rfl, rfl⟩)
      | (at_len; refine wpList_len_own _ rfl _ 47 rfl 5 3 Try.underlying47 _ b _ _ rfl hlen ?_; rw [hsz]; clear hlen)
      | (at_make; refine wpList_make_own _ rfl _ _ 22 rfl _ 26 i0 _ 2 Try.underlying22 hi hz0 hz1 .i64 .i64 _ 0 rfl rfl rfl (by rw [hz2]; omega) (by unfold maxLen; omega) (Nat.le_refl _) ?_; intro w2 hown2 hg2; have HB2 : Hid (Below w1.heap.size w1 w2) := ⟨hg2.os, hg2.tape, hg2.output, hg2.size, fun k hk => hg2.block k hk (by simp)⟩; have HO2 : Hid (w2.ownsRow w1.heap.size 26 2 (.slice (some ⟨w1.heap.size, 0, none⟩) 0 0) 0 []) := hown2; clear hg2 hown2)
      | (go_at_call 43; refine (CK.out _).mono ?_; clear CK; rintro e w3 ⟨rfl, rfl⟩)
      | (go_at_call 42; refine (CS.out _ HB2.out).mono ?_; clear CS; rintro e w4 ⟨rfl, hb4⟩; have HB4 : Hid (Below w2.heap.size w2 w4) := hb4; clear hb4)
      | go_in)
    go_loopw [4, 16] (fun t4 t16 wr => t4 = .slice (some ⟨w1.heap.size, 0, none⟩) 0 0 ∧ t16 = .int .i64 0 ∧ wr = w4) (fun _ _ _ => 0)
    case atStart => exact ⟨rfl, rfl, rfl⟩
    case round =>
      obtain ⟨rfl, rfl, rfl⟩ := hrel
      go_wp2
      go_ret
      exact ⟨_, rfl, HO2.out.kept (Bod.grown_of_below HB4.out) (.inr (by simp [Value.ownBlock])), HB2.out.trans (HB4.out.mono HB2.out.size)⟩
end Go.Proofs.Ytolafffpgkgadaa
