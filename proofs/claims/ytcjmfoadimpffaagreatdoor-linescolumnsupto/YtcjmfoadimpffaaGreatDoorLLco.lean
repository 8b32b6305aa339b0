/-
  The walk of the law LinesColumns: Column and At of every text and every number are the document's. Conditions: the two tables of unicode/utf8 lie as their text lays them; what is read holds together at most 1048576 values and letters.
-/
import Derived.Test.YtcjmfoadimpffaaGreatDoorDRefC
import Derived.Test.YtcjmfoadimpffaaGreatDoorPkUK
import Derived.Test.YtcjmfoadimpffaaGreatDoorUSpo
import Derived.Lib.QuietBelow
import Derived.BigQuiet
namespace Go.Proofs.YtcjmfoadimpffaaGreatDoor.Sto
open Go.RowKit Go.Shelf Bod Wid Go.Lib

theorem kbox2 {W : World} {b : Nat} {s : ByteArray} {kd : Int} (h : W.heap[b]? = some (.cells #[.string s, .int .i64 kd] 41 (0, 0))) : W.cell? ⟨b, 0, none⟩ = some (.string s) ∧ W.cell? ⟨b, 1, none⟩ = some (.int .i64 kd) := by simp [World.cell?, h]
set_option maxRecDepth 100000 in
set_option maxHeartbeats 4000000 in
theorem columns_walk (s : ByteArray) (kd : Int) (rs : List Int) (a : Option Addr) (n cap : Nat) (hn2 : n ≤ 1048576) (ss : List (Int × Int)) (a2 : Option Addr) (n2 cap2 : Nat) (hm2 : n2 ≤ 1048576) (w : World) (hE : Ev w) (hr : Wholes w a n rs) (hq : Spots w a2 n2 ss) :
    Calls Tryz.prog 5 #[.agg #[.string s, .int .i64 kd], .slice a n cap, .slice a2 n2 cap2] w fun e W' => e = .returned (.bool true) ∧ Below w.heap.size w W' := by
  have hM : Tryz.prog.follows .mixedOrders = true := by kernel_rfl
  have HM : Hid (Tryz.prog.follows .mixedOrders = true) := hM
  obtain ⟨W0, hW0⟩ : ∃ W0, w.alloc (.cells #[.string s, .int .i64 kd] 41) = W0 := ⟨_, rfl⟩
  have hb0 : Below w.heap.size w W0 ∧ W0.heap[w.heap.size]? = some (.cells #[.string s, .int .i64 kd] 41 (0, 0)) := by rw [← hW0]; exact ⟨(Below.refl _ w).alloc (Nat.le_refl _) _, World.alloc_heap_new w _⟩
  have HX : Hid (∀ W, Below W0.heap.size W0 W → W.cell? ⟨w.heap.size, 0, none⟩ = some (.string s) ∧ W.cell? ⟨w.heap.size, 1, none⟩ = some (.int .i64 kd)) := fun W hW => kbox2 ((hW.block _ (Array.getElem?_eq_some_iff.1 hb0.2).1).trans hb0.2)
  have CA : Hid (Calls Tryz.prog 18 #[] W0 fun e W' => e = .returned (.bool true) ∧ Hid (Below W0.heap.size W0 W')) := awake_any hM W0 (hE.below hb0.1)
  obtain ⟨c0, c1⟩ := HX.out W0 (Below.refl _ _)
  have HB0 : Hid (Below w.heap.size w W0) := hb0.1
  by_cases hbig : 1073741822 < s.size
  · clear hE hr hq hM hb0
    go_enter Tryz.func5, Tryz.ntmps5
    go_wp2_with (go_at_call 18; refine CA.out.mono ?_; clear CA c0 c1 hW0; rintro e w1 ⟨rfl, H1⟩; obtain ⟨c0, c1⟩ := HX.out _ H1.out)
    go_ret
    exact ⟨rfl, Below.on HB0.out H1.out⟩
  · have hs : s.size ≤ 1073741824 := by omega
    have CK : Hid (∀ W, Hid (Below W0.heap.size W0 W) → Calls Tryz.prog 19 #[.agg #[.string s, .int .i64 kd]] W fun e W' => ∃ T u, e = .returned (.tuple #[.iface T u, .bool true]) ∧ Hid (Tl W' (.iface T u) s ∧ Below W0.heap.size W0 W')) := fun W hW => (keep_any hM W (hE.below (Below.on hb0.1 hW.out)) s kd hs).mono fun e W' ⟨T, u, q1, q2⟩ => ⟨T, u, q1, (q2.vt (hE.below (Below.on hb0.1 hW.out))).tl hs, Below.on hW.out q2.bel⟩
    have HS : Hid (s.size ≤ 1073741824) := hs
    have HW : Hid (Wholes w a n rs) := hr
    have HQ : Hid (Spots w a2 n2 ss) := hq
    have HEv : Hid (Ev w) := hE
    clear hE hr hq hM hb0 hs
    go_enter Tryz.func5, Tryz.ntmps5
    go_wp2_with (first
      | (go_at_call 18; refine CA.out.mono ?_; clear CA c0 c1 hW0; rintro e w1 ⟨rfl, H1⟩; obtain ⟨c0, c1⟩ := HX.out _ H1.out)
      | (go_at_call 19; refine (CK.out _ H1).mono ?_; clear CK H1 c0 c1; rintro e X ⟨T, u, rfl, H2⟩))
    have HC : Hid (∀ W, Below X.heap.size X W → W.cell? ⟨w.heap.size, 0, none⟩ = some (.string s)) := fun W hW => (HX.out W (Below.on H2.out.2 hW)).1
    have HT : Hid (∀ W, Below X.heap.size X W → Tl W (.iface T u) s ∧ Below w.heap.size w W) := fun W hW => ⟨H2.out.1.below hW, Below.on HB0.out (Below.on H2.out.2 hW)⟩
    have HY : Hid (Below X.heap.size X X) := Below.refl _ _
    clear H2 HX HB0
    go_loopw [9] (fun t wr => ∃ k : Nat, k ≤ n ∧ t = .int .i64 k ∧ Hid (Below X.heap.size X wr)) (fun t _ => n - (Go.RowKit.intOf t).toNat)
    case atStart => exact ⟨0, Nat.zero_le _, rfl, HY⟩
    case round =>
      obtain ⟨k, hk, rfl, HR⟩ := hrel
      clear HY
      by_cases hlt : k < n
      · obtain ⟨g, o, rfl, hg, hc⟩ := HW.out.2.2 (by omega)
        obtain ⟨c, hcc⟩ : ∃ c, rs[k]?.getD 0 = c := ⟨_, rfl⟩
        have HN : Hid (∀ W, Below X.heap.size X W → W.cell? ⟨g, o + k, none⟩ = some (.int .i64 c)) := fun W hW => by
          have := ((HT.out W hW).2.cell (p := ⟨g, o + k, none⟩) hg).trans (hc k (by rw [HW.out.1]; exact hlt))
          rw [hcc] at this
          exact this
        obtain ⟨oc, hoc⟩ := isCo_ex s c
        obtain ⟨y1, y2, hof⟩ : ∃ y1 y2, cov oc = .tuple #[.int .i64 y1, .int .i64 y2] := ⟨_, _, rfl⟩
        have COf : Hid (∀ W, Hid (Below X.heap.size X W) → Calls Tryz.prog 28 #[.iface T u, .int .i64 c] W fun e W' => e = .returned (.tuple #[.int .i64 y1, .int .i64 y2]) ∧ Hid (Below X.heap.size X W')) := fun W hW => (ask_col HM.out (HT.out W hW.out).1 (HEv.out.below (HT.out W hW.out).2) c hoc).mono fun e W' ⟨q1, q2⟩ => ⟨by rw [q1, hof], Below.on hW.out q2⟩
        have CRof : Hid (∀ W, Calls Tryz.prog 29 #[.string s, .int .i64 c] W fun e W' => e = .returned (.tuple #[.int .i64 y1, .int .i64 y2]) ∧ Below W.heap.size W W') := fun W => (rcolumn_any HM.out s HS.out c hoc W).mono fun e W' ⟨q1, q2⟩ => ⟨by rw [q1, hof], q2⟩
        clear hcc hof hoc hc
        have x1 := HN.out _ HR.out
        have x0 := HC.out _ HR.out
        go_upto_region 12 with (go_at_call 28; refine (COf.out _ HR).mono ?_; clear COf HR x0 x1; rintro e w3 ⟨rfl, H3⟩; have x1 := HN.out _ H3.out; have x0 := HC.out _ H3.out)
        have f0 := fun d os => cell_regrown x0 d os
        have f1 := fun d os => cell_regrown x1 d os
        have q1 := regrown (W := w3) (fun W hW => CRof.out W)
        refine wp_region_quiet_below HM.out (by kernel_rfl) ?_
        repeat (go_big_quiet_step (exact q1 _ _))
        refine wpQuiet_nil ?_
        intro _ hw'
        obtain ⟨⟨dq, osq⟩, hw''⟩ := hw'
        subst hw''
        have H4 : Hid (Below X.heap.size X (Go.Sort.grow (redrawn w3 dq) osq)) := Below.on H3.out (below_regrown w3 dq osq)
        generalize Go.Sort.grow (redrawn w3 dq) osq = w4 at H4 ⊢
        clear q1 f0 f1 x0 x1 H3 CRof
        go_wp2
        exact ⟨⟨k + 1, by omega, by go_num, H4⟩, by simp [Go.RowKit.intOf]; omega⟩
      · go_wp2
        clear hk hlt hn2 HW
        go_loopw [14] (fun t wr => ∃ k : Nat, k ≤ n2 ∧ t = .int .i64 k ∧ Hid (Below X.heap.size X wr)) (fun t _ => n2 - (Go.RowKit.intOf t).toNat)
        case atStart => exact ⟨0, Nat.zero_le _, rfl, HR⟩
        case round =>
          clear HR
          obtain ⟨k, hk, rfl, HR⟩ := hrel
          by_cases hlt : k < n2
          · obtain ⟨g, o, rfl, hg, hc⟩ := HQ.out.2.2 (by omega)
            obtain ⟨⟨x, y⟩, hx⟩ : ∃ x, ss[k]? = some x := ⟨ss[k]'(by rw [HQ.out.1]; exact hlt), List.getElem?_eq_getElem _⟩
            obtain ⟨bx, bY⟩ := HQ.out.2.1 _ (List.mem_of_getElem? hx)
            have HN : Hid (∀ W, Below X.heap.size X W → W.cell? ⟨g, o + k * 2, none⟩ = some (.int .i64 x) ∧ W.cell? ⟨g, o + k * 2 + 1, none⟩ = some (.int .i64 y)) := fun W hW => by
              have := (HT.out W hW).2
              exact ⟨(this.cell (p := ⟨g, o + k * 2, none⟩) hg).trans (hc k _ hx).1, (this.cell (p := ⟨g, o + k * 2 + 1, none⟩) hg).trans (hc k _ hx).2⟩
            obtain ⟨oa, hoa⟩ := isA_ex s x y
            obtain ⟨y1, y2, hof⟩ : ∃ y1 y2, atv oa = .tuple #[.int .i64 y1, .int .i64 y2] := ⟨_, _, rfl⟩
            have CAt : Hid (∀ W, Below X.heap.size X W → Calls Tryz.prog 30 #[.iface T u, .int .i64 x, .int .i64 y] W fun e W' => e = .returned (.tuple #[.int .i64 y1, .int .i64 y2]) ∧ Below W.heap.size W W') := fun W hW => (ask_at HM.out (HT.out W hW).1 (HEv.out.below (HT.out W hW).2) x y bx.2 bY.2 hoa).mono fun e W' ⟨q1, q2⟩ => ⟨by rw [q1, hof], q2⟩
            have CRat : Hid (∀ W, Calls Tryz.prog 31 #[.string s, .int .i64 x, .int .i64 y] W fun e W' => e = .returned (.tuple #[.int .i64 y1, .int .i64 y2]) ∧ Below W.heap.size W W') := fun W => (rat_any s HS.out x y hoa W).mono fun e W' ⟨q1, q2⟩ => ⟨by rw [q1, hof], q2⟩
            clear hof hoa hc hx bx bY
            obtain ⟨x1, x2⟩ := HN.out _ HR.out
            go_upto_region 18 with fail
            have f1 := fun d os => cell_regrown x1 d os
            have f2 := fun d os => cell_regrown x2 d os
            have q1 := regrown (W := wr) (fun W hW => CAt.out W (Below.on HR.out hW))
            refine wp_region_quiet_below HM.out (by kernel_rfl) ?_
            repeat (go_big_quiet_step (exact q1 _ _))
            refine wpQuiet_nil ?_
            intro _ hw'
            obtain ⟨⟨dq, osq⟩, hw''⟩ := hw'
            subst hw''
            have H3 : Hid (Below X.heap.size X (Go.Sort.grow (redrawn wr dq) osq)) := Below.on HR.out (below_regrown wr dq osq)
            generalize Go.Sort.grow (redrawn wr dq) osq = w3 at H3 ⊢
            clear q1 f1 f2 x1 x2 CAt HR
            obtain ⟨x1, x2⟩ := HN.out _ H3.out
            have x0 := HC.out _ H3.out
            go_upto_region 19 with fail
            have f0 := fun d os => cell_regrown x0 d os
            have f1 := fun d os => cell_regrown x1 d os
            have f2 := fun d os => cell_regrown x2 d os
            have q1 := regrown (W := w3) (fun W hW => CRat.out W)
            refine wp_region_quiet_below HM.out (by kernel_rfl) ?_
            repeat (go_big_quiet_step (exact q1 _ _))
            refine wpQuiet_nil ?_
            intro _ hw'
            obtain ⟨⟨dq, osq⟩, hw''⟩ := hw'
            subst hw''
            have H4 : Hid (Below X.heap.size X (Go.Sort.grow (redrawn w3 dq) osq)) := Below.on H3.out (below_regrown w3 dq osq)
            generalize Go.Sort.grow (redrawn w3 dq) osq = w4 at H4 ⊢
            clear q1 f0 f1 f2 x0 x1 x2 CRat H3
            go_wp2
            exact ⟨⟨k + 1, by omega, by go_num, H4⟩, by simp [Go.RowKit.intOf]; omega⟩
          · go_wp2
            go_ret
            exact ⟨rfl, (HT.out _ HR.out).2⟩
end Go.Proofs.YtcjmfoadimpffaaGreatDoor.Sto
namespace Go.Proofs.YtcjmfoadimpffaaGreatDoor.linesColumns
open Go.RowKit Go.Shelf Sto
theorem walk_of {H : Type} {d0 d1 d2 : DataW H} (s : ByteArray) (kd : Int) (a1 : Option Addr) (len1 cap1 : Nat) (a2 : Option Addr) (len2 cap2 : Nat) (w : World) (hT : Lib.Utf8Tabs 1 2 w) (hlo0 : 1 < w.heap.size) (hlo1 : 2 < w.heap.size) (_hs : s.size ≤ Rows.uptoBulk d0) (_hd : -9223372036854775808 ≤ kd ∧ kd ≤ 9223372036854775807) (rs : List Int) (y : Wholes w a1 len1 rs) (u : len1 ≤ Rows.uptoBulk d1) (ss : List (Int × Int)) (y2 : Spots w a2 len2 ss) (u2 : len2 ≤ Rows.uptoBulk d2) (hk : Rows.uptoSmall H ([d0, d1, d2] ++ []) = true) :
    Calls Tryz.prog 5 #[.agg #[.string s, .int .i64 kd], .slice a1 len1 cap1, .slice a2 len2 cap2] w fun e W' => e = .returned (.bool true) ∧ Below w.heap.size w W' := by
  have h : Rows.uptoBulkAll ([d0, d1, d2] ++ []) ≤ 1048576 := of_decide_eq_true hk
  simp only [List.append_nil, Rows.uptoBulkAll] at h
  exact columns_walk s kd rs a1 len1 cap1 (by omega) ss a2 len2 cap2 (by omega) w ⟨hT, hlo0, hlo1⟩ y y2
end Go.Proofs.YtcjmfoadimpffaaGreatDoor.linesColumns
