/-
  The law StoreUnseen whole: the walk of TSun, and where New refuses. Conditions: the two tables of unicode/utf8 lie as their text lays them; what is read holds together at most 1048576 values and letters.
-/
import Derived.Test.YtkmihnjmchfopaaGreatDoorPkTL
namespace Go.Proofs.YtkmihnjmchfopaaGreatDoor.Sto
open Go.RowKit Go.Shelf Bod Wid
open Gap (Gp lim)

set_option maxRecDepth 100000 in
set_option maxHeartbeats 1000000 in
theorem unseen_no (m o : Mk) (v : Value) (w : World) (hE : Ev w) (hs : ¬ m.s.size ≤ lim m.lm) :
    Calls Tryz.prog 7 #[.agg (mkv m), .agg (mkv o), v] w fun e W' => e = .returned (.bool true) ∧ Below w.heap.size w W' := by
  obtain ⟨W0, hW0⟩ : ∃ W0, (w.alloc (.cells (mkv m) 44)).alloc (.cells (mkv o) 44) = W0 := ⟨_, rfl⟩
  have hm0 : Bm w m o W0 := by rw [← hW0]; exact bm_new w m o
  have HC : Hid (∀ W, Bm w m o W → (W.cell? ⟨w.heap.size, 0, none⟩ = some (.int .i64 m.kd) ∧ W.cell? ⟨w.heap.size, 1, none⟩ = some (.int .i64 m.lo) ∧ W.cell? ⟨w.heap.size, 2, none⟩ = some (.int .i64 m.hi) ∧ W.cell? ⟨w.heap.size, 3, none⟩ = some (.int .i64 m.lm) ∧ W.cell? ⟨w.heap.size, 4, none⟩ = some (.string m.s)) ∧ (W.cell? ⟨w.heap.size + 1, 0, none⟩ = some (.int .i64 o.kd) ∧ W.cell? ⟨w.heap.size + 1, 1, none⟩ = some (.int .i64 o.lo) ∧ W.cell? ⟨w.heap.size + 1, 2, none⟩ = some (.int .i64 o.hi) ∧ W.cell? ⟨w.heap.size + 1, 3, none⟩ = some (.int .i64 o.lm) ∧ W.cell? ⟨w.heap.size + 1, 4, none⟩ = some (.string o.s))) := fun W h => h.cells
  have CF : Hid (Calls Tryz.prog 20 #[] W0 fun e W' => e = .returned (.bool true) ∧ Hid (Bm w m o W')) := (fixed_any W0 (hE.below hm0.bel)).mono fun e W' ⟨q1, q2⟩ => ⟨q1, hm0.below q2⟩
  have CA : Hid (∀ W, Hid (Bm w m o W) → Calls Tryz.prog 26 #[.int .i64 m.kd, .int .i64 m.lo, .int .i64 m.hi, .int .i64 m.lm, .string m.s] W fun e W' => e = .returned (.tuple #[.pointer none, .int .i64 2]) ∧ Hid (Bm w m o W')) := fun W hW => (snew_no W m.kd m.lo m.hi m.lm m.s hs).mono fun e W' ⟨q1, q2⟩ => ⟨q1, hW.out.below q2⟩
  have CB : Hid (∀ W, Hid (Bm w m o W) → Calls Tryz.prog 26 #[.int .i64 o.kd, .int .i64 o.lo, .int .i64 o.hi, .int .i64 m.lm, .string m.s] W fun e W' => e = .returned (.tuple #[.pointer none, .int .i64 2]) ∧ Hid (Below w.heap.size w W')) := fun W hW => (snew_no W o.kd o.lo o.hi m.lm m.s hs).mono fun e W' ⟨q1, q2⟩ => ⟨q1, Below.on hW.out.bel q2⟩
  obtain ⟨⟨c0, c1, c2, c3, c4⟩, d0, d1, d2, d3, d4⟩ := HC.out _ hm0
  unfold mkv at hW0 ⊢
  clear hm0 hE hs
  go_enter Tryz.func7, Tryz.ntmps7
  go_wp2_with (first
    | (go_at_call 20; refine CF.out.mono ?_; clear CF c0 c1 c2 c3 c4 d0 d1 d2 d3 d4 hW0; rintro e w1 ⟨rfl, HB⟩; obtain ⟨⟨c0, c1, c2, c3, c4⟩, d0, d1, d2, d3, d4⟩ := HC.out _ HB.out)
    | (go_at_call 26; refine (CA.out _ HB).mono ?_; clear CA HB c0 c1 c2 c3 c4 d0 d1 d2 d3 d4; rintro e w2 ⟨rfl, HA⟩; obtain ⟨⟨c0, c1, c2, c3, c4⟩, d0, d1, d2, d3, d4⟩ := HC.out _ HA.out)
    | (go_at_call 26; refine (CB.out _ HA).mono ?_; clear CB HA c0 c1 c2 c3 c4 d0 d1 d2 d3 d4 HC; rintro e w3 ⟨rfl, HT⟩))
  go_ret
  exact ⟨rfl, HT.out⟩
end Go.Proofs.YtkmihnjmchfopaaGreatDoor.Sto
namespace Go.Proofs.YtkmihnjmchfopaaGreatDoor.storeUnseen
open Go.RowKit Go.Shelf Sto
open Gap (lim)
theorem walk_of {H : Type} {d0 d1 d2 : DataW H} (m o : Sto.Mk) (a2 : Option Addr) (len2 cap2 : Nat) (w : World) (hT : Lib.Utf8Tabs 1 2 w) (hlo0 : 1 < w.heap.size) (hlo1 : 2 < w.heap.size) (hm : m.fit ∧ m.s.size + 5 ≤ Rows.uptoBulk d0) (ho : o.fit ∧ o.s.size + 5 ≤ Rows.uptoBulk d1) (l : List Oc) (hr : RdC w (.slice a2 len2 cap2) l) (hl : obk l ≤ Rows.uptoBulk d2 ∧ ∀ x ∈ l, x.fit) (hk : Rows.uptoSmall H ([d0, d1, d2] ++ []) = true) :
    Calls Tryz.prog 7 #[.agg (mkv m), .agg (mkv o), .slice a2 len2 cap2] w fun e W' => e = .returned (.bool true) ∧ Below w.heap.size w W' := by
  have h : Rows.uptoBulkAll ([d0, d1, d2] ++ []) ≤ 1048576 := of_decide_eq_true hk
  simp only [List.append_nil, Rows.uptoBulkAll] at h
  by_cases hs : m.s.size ≤ lim m.lm
  · obtain ⟨ad, cap, e, hr⟩ := hr
    cases e
    refine unseen_walk m o l a2 l.length cap2 rfl hm.1 ho.1 hl.2 (by have := hm.2; have := hl.1; omega) w ⟨hT, hlo0, hlo1⟩ (fun i x hx => ?_) hs
    obtain ⟨gs, os, e, hgs, hc⟩ := hr (fun e => by rw [e] at hx; simp at hx)
    refine ⟨gs, os, e, fun Y hb => ?_⟩
    obtain ⟨c0, c1, c2, c3⟩ := hc i x hx
    have kp : ∀ j v, w.cell? ⟨gs, j, none⟩ = some v → Y.cell? ⟨gs, j, none⟩ = some v := fun j v h => (hb.cell (p := ⟨gs, j, none⟩) (by simp; omega)).trans h
    exact ⟨kp _ _ c0, kp _ _ c1, kp _ _ c2, kp _ _ c3⟩
  · exact unseen_no m o _ w ⟨hT, hlo0, hlo1⟩ hs
end Go.Proofs.YtkmihnjmchfopaaGreatDoor.storeUnseen
