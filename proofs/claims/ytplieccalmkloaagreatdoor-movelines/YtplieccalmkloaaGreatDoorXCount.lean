/-
  What package unit's Count answers: how many units the text has. Conditions: the two tables of unicode/utf8 lie as their text lays them; the text can be read.
-/
import Derived.Test.YtplieccalmkloaaGreatDoorPkI
namespace Go.Proofs.YtplieccalmkloaaGreatDoor
open Go.RowKit Go.Shelf Bod Wid
attribute [local go_sem] Oper.semAt_some

theorem act_name' {c : Code} {F : Fence} {n : Nat} {P : Program} {Q : Exit → Act → World → Prop} {a : Act} {w : World} (h : ∀ A, A = a → c.wpIn F n P Q A w) : c.wpIn F n P Q a w := h a rfl

set_option maxRecDepth 100000 in
set_option maxHeartbeats 1000000 in
theorem ucount_in (n : Nat) (hn : 5 ≤ n) (s : ByteArray) (hs : s.size ≤ maxLen) (w : World) (hT : Lib.Utf8Tabs 0 1 w) (_hlo0 : 0 < w.heap.size) (hlo1 : 1 < w.heap.size) :
    CallsIn Fence.wide n Tryz.prog 169 #[.string s] w fun e W' => e = .returned (.int .i64 (offs s 0).length) ∧ Below w.heap.size w W' := by
  have h1 : 1 ≤ n := by omega
  have hm : s.size ≤ 9223372036854775807 := by unfold maxLen at hs; exact hs
  refine callsIn_of_wp_marks Tryz.func169 rfl trivial ?_ rfl
  simp only [Tryz.ntmps169, List.size_toArray, List.length_cons, List.length_nil, Nat.reduceAdd, Nat.reduceSub, Array.replicate_succ, Array.replicate_zero, List.push_toArray, List.append_toArray, List.nil_append, List.cons_append]
  gi_wp2_with (refine ⟨trivial, ?_⟩; gi_at_call 52; refine (uwalk_in (n - 1) _ _).mono ?_; rintro e w' ⟨rfl, rfl⟩)
  obtain ⟨W2, hW2⟩ : ∃ W2, (w.alloc (.cells #[.int .i64 0] 3)).alloc (.cells #[.string s] 9) = W2 := ⟨_, rfl⟩
  rw [hW2]
  obtain ⟨p0, p1⟩ : W2.heap[w.heap.size]? = some (.cells #[.int .i64 0] 3 (0, 0)) ∧ W2.heap[w.heap.size + 1]? = some (.cells #[.string s] 9 (0, 0)) := by rw [← hW2]; exact push2 w.heap _ _
  have hB0 : Below w.heap.size w W2 := by rw [← hW2]; exact ((Below.refl _ w).alloc (Nat.le_refl _) _).alloc (by simp) _
  have hsz : W2.heap.size = w.heap.size + 2 := by rw [← hW2]; simp
  have cs : W2.cell? ⟨w.heap.size + 1, 0, none⟩ = some (.string s) := by simp [World.cell?, p1]
  clear hW2
  refine act_name' fun A hA => ?_
  refine range_own rfl h1 (gf := 92) (lb := #[.pointer (some ⟨w.heap.size + 1, 0, none⟩)]) (by rw [hA]; rfl) trivial (enters_of Tryz.func92 (by kernel_rfl) rfl)
    (unit_seq (n - 1) (by omega) (w.heap.size + 1) (W2.heap.size + 2) (fun k _ => k = w.heap.size) s hs (fun _ h => by omega) (fun _ h => by omega) (fun _ h => by omega) (fun k _ _ h1 h => by omega)
      W2 cs (tabs_below hT hB0))
    KpT.trans (fun W l o o' _ _ hl ho => KpT.putObj W l o o' hl ho) (fun _ => rfl)
    (fun pre W => W.heap[w.heap.size]? = some (.cells #[.int .i64 pre.length] 3 (0, 0)) ∧ Below w.heap.size w W)
    (fun _ _ _ => False)
    (Ab.and (ab_block (by omega)) (ab_below (by omega) (Nat.le_refl _)))
    (fun _ _ _ _ _ hs _ _ => hs)
    ⟨p0, hB0⟩
    (fun x a' _ => a' = { tmps := ((#[6, 7] : Array Tmp).zip (enc2 s x)).foldl (fun t (p, v) => t.setIfInBounds p v) A.tmps, defers := [] })
    (fun _ _ _ _ _ _ hs _ _ => hs) ?assign ?body ?done ?stop
  case assign =>
    intro l pre x W K hi hK
    gi_wp2
    exact hK _ _ (KeepsFrom.refl _ _) (KpT.refl _ _) hi (by subst hA; simp [enc2])
  case body =>
    rintro l pre x a' W _ _ _ _ ⟨hv, hB⟩ rfl hnx
    have hc : W.cell? ⟨w.heap.size, 0, none⟩ = some (.int .i64 pre.length) := by simp [World.cell?, hv]
    have hf : W.frozen? ⟨w.heap.size, 0, none⟩ = false := by simp [World.frozen?, hv]
    have hlen := hnx.length_le
    have hle := offs_len_le s
    simp only [List.length_append, List.length_cons, List.length_nil] at hlen
    subst hA
    gi_wp2
    exact ⟨kf_cells (gcell _ _ _ _) hv, KpT.of_grown (gcell _ _ _ _) (fun r o e _ => by cases e; rfl), by simpa using set1 (i := 0) (.int .i64 (pre.length + 1)) hv, hB.setCell (p := ⟨w.heap.size, 0, none⟩) (Nat.le_refl _) _⟩
  case done =>
    rintro D ys W hD rfl ⟨hv, hB⟩ hK
    have hc : W.cell? ⟨w.heap.size, 0, none⟩ = some (.int .i64 (offs s 0).length) := by simp [World.cell?, hv]
    subst hA
    gi_wp2
    refine ⟨by simp, .inl ⟨_, _, rfl, run_takeDeferred hK, ?_⟩⟩
    exact ⟨_, results_tmp rfl _ _ _, rfl, hB.trans (belowK_b (w := w) (Nat.le_refl _) W D _ _ (by omega) hK rfl rfl)⟩
  case stop =>
    rintro D c pre W _ _ h _
    exact h.elim
theorem ucount_any (s : ByteArray) (hs : s.size ≤ maxLen) (w : World) (hT : Lib.Utf8Tabs 0 1 w) (hlo0 : 0 < w.heap.size) (hlo1 : 1 < w.heap.size) :
    Calls Tryz.prog 169 #[.string s] w fun e W' => e = .returned (.int .i64 (offs s 0).length) ∧ Below w.heap.size w W' := callsIn_wide.1 (ucount_in 5 (by omega) s hs w hT hlo0 hlo1)
end Go.Proofs.YtplieccalmkloaaGreatDoor
