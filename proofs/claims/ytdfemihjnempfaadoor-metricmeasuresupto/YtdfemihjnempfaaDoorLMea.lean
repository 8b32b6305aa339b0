/-
  The walk of the law MetricMeasures: for all texts of together at most 1048576 letters it returns true: Measure and Whole of each text are the document's own. Conditions: the two tables of unicode/utf8 lie as their text lays them.
-/
import Derived.Test.YtdfemihjnempfaaDoorMLaw
import Derived.Test.YtdfemihjnempfaaDoorUTexts
namespace Go.Proofs.YtdfemihjnempfaaDoor.metricMeasures
open Go.RowKit Go.Sort Bod Wid

theorem whole_of (s : ByteArray) : ∃ (x : ByteArray) (b : Bool), (if (smr s).by' ≤ 16 then (smr s).hd else ⟨#[]⟩) = x ∧ decide ((smr s).by' ≤ 16) = b ∧ (b = true → x = s) := by
  refine ⟨_, _, rfl, rfl, fun h => ?_⟩
  have h' : ((s.size : Int)) ≤ 16 := of_decide_eq_true h
  rw [if_pos (show (smr s).by' ≤ 16 from h')]
  exact hd_short (by omega)

set_option maxRecDepth 100000 in
set_option maxHeartbeats 2000000 in
theorem walk (a0 : Option Addr) (len cap : Nat) (ss : List ByteArray) (w : World) (hS : Texts w a0 len ss) (hlen : len ≤ 1048576) (hsz : ∀ s ∈ ss, s.size ≤ 1048576) (hT : Lib.Utf8Tabs 1 2 w) (hlo0 : 1 < w.heap.size) (hlo1 : 2 < w.heap.size) :
    Calls Tryd.prog 3 #[.slice a0 len cap] w fun e w' => e = .returned (.bool true) ∧ Below w.heap.size w w' := by
  have cC := counts_any w hT hlo0 hlo1
  have TT : Hid (∀ W, Below w.heap.size w W → Lib.Utf8Tabs 1 2 W ∧ 1 < W.heap.size ∧ 2 < W.heap.size) := fun W hb => ⟨tabs_below hT hb, Nat.lt_of_lt_of_le hlo0 hb.size, Nat.lt_of_lt_of_le hlo1 hb.size⟩
  have HS : Hid (Texts w a0 len ss) := hS
  have HZ : Hid (∀ s ∈ ss, s.size ≤ 1048576) := hsz
  have hmix : Tryd.prog.follows .mixedOrders = true := by kernel_rfl
  have HM : Hid (Tryd.prog.follows .mixedOrders = true) := hmix
  clear hS hsz hT hlo0 hlo1 hmix
  go_enter Tryd.func3, Tryd.ntmps3
  go_wp2_with (go_at_call 9; refine cC.mono ?_; clear cC; rintro e w1 ⟨rfl, hb1⟩; have HB : Hid (Below w.heap.size w w1) := hb1; clear hb1)
  go_loopw [15] (fun t wr => ∃ k : Nat, t = .int .i64 k ∧ k ≤ 2 * len ∧ Below w.heap.size w wr) (fun t _ => 2 * len - (intOf t).toNat)
  case atStart => exact ⟨0, rfl, by omega, HB.out⟩
  case round =>
    obtain ⟨k, rfl, hk, hb⟩ := hrel
    clear HB
    by_cases hlt : k < 2 * len
    · obtain ⟨m, hm⟩ : ∃ m : Nat, min k (2 * len - 1 - k) = m := ⟨_, rfl⟩
      have hmin : min (k : Int) (2 * (len : Int) - 1 - (k : Int)) = (m : Int) := by omega
      have hml : m < len := by omega
      obtain ⟨hS1, hS2⟩ := HS.out
      obtain ⟨b, o, rfl, hbl, hcs⟩ := hS2 (by omega)
      have hcell := (hb.cell (p := ⟨b, o + m, none⟩) hbl).trans (hcs m hml)
      obtain ⟨s, hs⟩ : ∃ s, ss.getD m ByteArray.empty = s := ⟨_, rfl⟩
      have hsm : s ∈ ss := by
        rw [← hs, List.getD, List.getElem?_eq_getElem (show m < ss.length by omega)]
        exact List.getElem_mem _
      have hsz := HZ.out s hsm
      rw [hs] at hcell
      have HB : Hid (Below w.heap.size w wr) := hb
      obtain ⟨x, q, hx, hq, hxs⟩ := whole_of s
      have C1 : Hid (∀ W, Below w.heap.size w W → Calls Tryd.prog 10 #[.string s] W fun e W' => e = .returned (sv (smr s)) ∧ Below w.heap.size w W') := fun W hb => by
        obtain ⟨t1, t2, t3⟩ := TT.out W hb
        exact (measure_any s (by omega) W t1 t2 t3).mono fun e W' ⟨h1, h2⟩ => ⟨h1, hb.trans (h2.mono hb.size)⟩
      have C2 : Hid (∀ W, Calls Tryd.prog 11 #[.string s] W fun e W' => e = .returned (sv (smr s)) ∧ Below W.heap.size W W') := fun W => rmeasure_any s (by omega) W
      have C3 : Hid (∀ W, Calls Tryd.prog 12 #[sv (smr s)] W fun e W' => e = .returned (.tuple #[.string x, .bool q]) ∧ Below W.heap.size W W') := fun W => by rw [← hx, ← hq]; exact mwhole_any s W
      have C4 : Hid (∀ W, Calls Tryd.prog 13 #[sv (smr s)] W fun e W' => e = .returned (.tuple #[.string x, .bool q]) ∧ Below W.heap.size W W') := fun W => by rw [← hx, ← hq]; exact rwhole_any (smr s) W
      clear hb hcs hbl hs hsm hm hS1 hx hq
      generalize smr s = mm at C1 C2 C3 C4
      go_wp2_with (first | (go_at_call 10; refine (C1.out _ HB.out).mono ?_; clear HB C1 hcell; rintro e w2 ⟨rfl, hb2⟩; obtain ⟨W2, hW2⟩ : ∃ W2, w2.alloc (.cells #[.int .i64 mm.by', .int .i64 mm.un, .int .i64 mm.cl, .int .i64 mm.ce, .int .i64 mm.nl, .string mm.hd, .string mm.tl] 25) = W2 := ⟨_, rfl⟩; have HB : Hid (Below w.heap.size w W2 ∧ W2.heap[w2.heap.size]? = some (.cells (scs mm) 25 (0, 0))) := ⟨hW2 ▸ hb2.alloc hb2.size _, hW2 ▸ World.alloc_heap_new w2 _⟩; clear hb2))
      clear hW2
      obtain ⟨⟨c0, c1, c2, c3, c4, c5, c6⟩, -⟩ := box7 HB.out.2
      have e0 := cell_rg c0; have e1 := cell_rg c1; have e2 := cell_rg c2; have e3 := cell_rg c3; have e4 := cell_rg c4; have e5 := cell_rg c5; have e6 := cell_rg c6
      have q1 := regrown (v := sv mm) (W := W2) (fun W _ => C2.out W)
      refine wp_region_quiet_below HM.out (by kernel_rfl) ?_
      repeat (quiet_step (fail))
      quiet_step (exact q1 _ _)
      repeat (quiet_step (fail))
      refine wpQuiet_nil ?_
      intro _ hw'
      obtain ⟨⟨dq, osq⟩, hw''⟩ := hw'
      subst hw''
      have HB2 : Hid (Below w.heap.size w (grow (redrawn W2 dq) osq) ∧ (grow (redrawn W2 dq) osq).heap[w2.heap.size]? = some (.cells (scs mm) 25 (0, 0))) := by
        obtain ⟨h1, h2⟩ := HB.out
        exact ⟨h1.trans ((below_regrown W2 dq osq).mono h1.size), ((below_regrown W2 dq osq).block _ (Array.getElem?_eq_some_iff.1 h2).1).trans h2⟩
      obtain ⟨W3, hW3⟩ : ∃ W3, grow (redrawn W2 dq) osq = W3 := ⟨_, rfl⟩
      dsimp only
      rw [hW3] at HB2 ⊢
      clear hW3 q1 HB c0 c1 c2 c3 c4 c5 c6 e0 e1 e2 e3 e4 e5 e6
      obtain ⟨⟨c0, c1, c2, c3, c4, c5, c6⟩, -⟩ := box7 HB2.out.2
      go_wp2_with (first | (go_at_call 12; refine (C3.out _).mono ?_; clear C3; rintro e w4 ⟨rfl, hb2⟩; have HB : Hid (Below w.heap.size w w4) := HB2.out.1.trans (hb2.mono HB2.out.1.size); have h4 := (hb2.block _ (Array.getElem?_eq_some_iff.1 HB2.out.2).1).trans HB2.out.2; clear hb2 HB2 c0 c1 c2 c3 c4 c5 c6; obtain ⟨⟨c0, c1, c2, c3, c4, c5, c6⟩, -⟩ := box7 h4; clear h4) | (go_at_call 13; refine (C4.out _).mono ?_; clear C4; rintro e w5 ⟨rfl, hb2⟩; have HB5 : Hid (Below w.heap.size w w5) := HB.out.trans (hb2.mono HB.out.size); clear hb2 HB))
      all_goals exact ⟨⟨k + 1, by go_num, by omega, HB5.out⟩, by simp [intOf]; omega⟩
    · go_wp2
      go_ret
      exact ⟨rfl, hb⟩

theorem walk_of {H : Type} {d : DataW H} (a0 : Option Addr) (len cap : Nat) (w : World) (hT : Lib.Utf8Tabs 1 2 w) (hlo0 : 1 < w.heap.size) (hlo1 : 2 < w.heap.size) (ss : List ByteArray) (hS : Texts w a0 len ss) (hu : len ≤ Rows.uptoBulk d ∧ ∀ s ∈ ss, s.size ≤ Rows.uptoBulk d) (hk : Rows.uptoSmall H ([d] ++ []) = true) :
    Calls Tryd.prog 3 #[.slice a0 len cap] w fun e w' => e = .returned (.bool true) ∧ Below w.heap.size w w' := by
  have h : Rows.uptoBulkAll ([d] ++ []) ≤ 1048576 := of_decide_eq_true hk
  simp only [List.append_nil, Rows.uptoBulkAll] at h
  exact walk a0 len cap ss w hS (by omega) (fun s hs => by have := hu.2 s hs; omega) hT hlo0 hlo1
end Go.Proofs.YtdfemihjnempfaaDoor.metricMeasures
