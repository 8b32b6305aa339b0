/-
  The walk of the law LinesSpans: Count, Of, Span and Line of every text and every number are the document's. Conditions: the two tables of unicode/utf8 lie as their text lays them; what is read holds together at most 1048576 values and letters.
-/
import Derived.Test.YtcjmfoadimpffaaGreatDoorPkDR
import Derived.Test.YtcjmfoadimpffaaGreatDoorPkUK
import Derived.Lib.QuietBelow
import Derived.BigQuiet
import Derived.Deep.RegionHeld3
namespace Go.Proofs.YtcjmfoadimpffaaGreatDoor.Sto
open Go.RowKit Go.Shelf Bod Wid Go.Lib

/-- the box of what keeps a text -/
theorem kbox {W : World} {b : Nat} {s : ByteArray} {kd : Int} (h : W.heap[b]? = some (.cells #[.string s, .int .i64 kd] 41 (0, 0))) : W.cell? ⟨b, 0, none⟩ = some (.string s) ∧ W.cell? ⟨b, 1, none⟩ = some (.int .i64 kd) := by simp [World.cell?, h]
theorem two_set {W : World} {b : Nat} {x y : Value} {t : TypeId} (h : W.heap[b]? = some (.cells #[x, y] t (0, 0))) (u v : Value) : ((W.setCell ⟨b, 0, none⟩ u).setCell ⟨b, 1, none⟩ v).cell? ⟨b, 0, none⟩ = some u ∧ ((W.setCell ⟨b, 0, none⟩ u).setCell ⟨b, 1, none⟩ v).cell? ⟨b, 1, none⟩ = some v := by
  have s1 := set1 (i := 0) u h
  have s2 := set1 (i := 1) v s1
  simp [World.cell?, s2]
set_option maxRecDepth 100000 in
set_option maxHeartbeats 4000000 in
theorem spans_walk (s : ByteArray) (kd : Int) (rs : List Int) (a : Option Addr) (n cap : Nat) (hn2 : n ≤ 1048576) (w : World) (hE : Ev w) (hr : Wholes w a n rs) :
    Calls Tryz.prog 4 #[.agg #[.string s, .int .i64 kd], .slice a n cap] w fun e W' => e = .returned (.bool true) ∧ Below w.heap.size w W' := by
  have hM : Tryz.prog.follows .mixedOrders = true := by kernel_rfl
  have HM : Hid (Tryz.prog.follows .mixedOrders = true) := hM
  obtain ⟨W0, hW0⟩ : ∃ W0, w.alloc (.cells #[.string s, .int .i64 kd] 41) = W0 := ⟨_, rfl⟩
  have hb0 : Below w.heap.size w W0 ∧ W0.heap[w.heap.size]? = some (.cells #[.string s, .int .i64 kd] 41 (0, 0)) := by rw [← hW0]; exact ⟨(Below.refl _ w).alloc (Nat.le_refl _) _, World.alloc_heap_new w _⟩
  have HX : Hid (∀ W, Below W0.heap.size W0 W → W.cell? ⟨w.heap.size, 0, none⟩ = some (.string s) ∧ W.cell? ⟨w.heap.size, 1, none⟩ = some (.int .i64 kd)) := fun W hW => kbox ((hW.block _ (Array.getElem?_eq_some_iff.1 hb0.2).1).trans hb0.2)
  have CA : Hid (Calls Tryz.prog 18 #[] W0 fun e W' => e = .returned (.bool true) ∧ Hid (Below W0.heap.size W0 W')) := awake_any hM W0 (hE.below hb0.1)
  obtain ⟨c0, c1⟩ := HX.out W0 (Below.refl _ _)
  have HB0 : Hid (Below w.heap.size w W0) := hb0.1
  by_cases hbig : 1073741822 < s.size
  · clear hE hr hM hb0
    go_enter Tryz.func4, Tryz.ntmps4
    go_wp2_with (go_at_call 18; refine CA.out.mono ?_; clear CA c0 c1 hW0; rintro e w1 ⟨rfl, H1⟩; obtain ⟨c0, c1⟩ := HX.out _ H1.out)
    go_ret
    exact ⟨rfl, Below.on HB0.out H1.out⟩
  · have hs : s.size ≤ 1073741824 := by omega
    have CK : Hid (∀ W, Hid (Below W0.heap.size W0 W) → Calls Tryz.prog 19 #[.agg #[.string s, .int .i64 kd]] W fun e W' => ∃ T u, e = .returned (.tuple #[.iface T u, .bool true]) ∧ Hid (Tl W' (.iface T u) s ∧ Below W0.heap.size W0 W')) := fun W hW => (keep_any hM W (hE.below (Below.on hb0.1 hW.out)) s kd hs).mono fun e W' ⟨T, u, q1, q2⟩ => ⟨T, u, q1, (q2.vt (hE.below (Below.on hb0.1 hW.out))).tl hs, Below.on hW.out q2.bel⟩
    have HS : Hid (s.size ≤ 1073741824) := hs
    have HW : Hid (Wholes w a n rs) := hr
    have HEv : Hid (Ev w) := hE
    clear hE hr hM hb0 hs
    go_enter Tryz.func4, Tryz.ntmps4
    go_upto_region 6 with (first
      | (go_at_call 18; refine CA.out.mono ?_; clear CA c0 c1 hW0; rintro e w1 ⟨rfl, H1⟩; obtain ⟨c0, c1⟩ := HX.out _ H1.out)
      | (go_at_call 19; refine (CK.out _ H1).mono ?_; clear CK H1 c0 c1; rintro e X ⟨T, u, rfl, H2⟩; obtain ⟨c0, c1⟩ := HX.out _ H2.out.2))
    have e0 := fun d os => cell_regrown c0 d os
    have q1 := regrown (W := X) (fun W hW => ask_count (H2.out.1.below hW))
    have q2 := regrown (W := X) (fun W hW => rcount_any s HS.out W)
    generalize (cn s 0 s.size : Int) + 1 = z at q1 q2
    refine wp_region_quiet_below HM.out (by kernel_rfl) ?_
    repeat (go_big_quiet_step (first | exact q1 _ _ | exact q2 _ _))
    refine wpQuiet_nil ?_
    intro _ hw'
    obtain ⟨⟨dq, osq⟩, hw''⟩ := hw'
    subst hw''
    have HY : Hid (Below X.heap.size X (Go.Sort.grow (redrawn X dq) osq)) := below_regrown X dq osq
    generalize Go.Sort.grow (redrawn X dq) osq = Y at HY ⊢
    have HC : Hid (∀ W, Below X.heap.size X W → W.cell? ⟨w.heap.size, 0, none⟩ = some (.string s)) := fun W hW => (HX.out W (Below.on H2.out.2 hW)).1
    have HT : Hid (∀ W, Below X.heap.size X W → Tl W (.iface T u) s ∧ Below w.heap.size w W) := fun W hW => ⟨H2.out.1.below hW, Below.on HB0.out (Below.on H2.out.2 hW)⟩
    clear q1 q2 e0 c0 c1 H2 HX HB0
    go_wp2
    go_loopw [7] (fun t wr => ∃ k : Nat, k ≤ n ∧ t = .int .i64 k ∧ Hid (Below X.heap.size X wr)) (fun t _ => n - (Go.RowKit.intOf t).toNat)
    case atStart => exact ⟨0, Nat.zero_le _, rfl, HY⟩
    case round =>
      obtain ⟨k, hk, rfl, HR⟩ := hrel
      clear HY
      by_cases hlt : k < n
      · obtain ⟨g, o, rfl, hg, hc⟩ := HW.out.2.2 (by omega)
        obtain ⟨c, hcc⟩ : ∃ c, rs[k]?.getD 0 = c := ⟨_, rfl⟩
        have hcb : -9223372036854775808 ≤ c ∧ c ≤ 9223372036854775807 := by
          have hk' : k < rs.length := by rw [HW.out.1]; exact hlt
          refine HW.out.2.1 c ?_
          rw [← hcc, List.getElem?_eq_getElem hk']
          exact List.getElem_mem _
        have HN : Hid (∀ W, Below X.heap.size X W → W.cell? ⟨g, o + k, none⟩ = some (.int .i64 c)) := fun W hW => by
          have := ((HT.out W hW).2.cell (p := ⟨g, o + k, none⟩) hg).trans (hc k (by rw [HW.out.1]; exact hlt))
          rw [hcc] at this
          exact this
        obtain ⟨os, hos⟩ := isS_ex s c
        obtain ⟨y1, y2, hof⟩ : ∃ y1 y2, ofv s c = .tuple #[.int .i64 y1, .int .i64 y2] := ⟨_, _, rfl⟩
        obtain ⟨p, q, r, hsp⟩ : ∃ (p q r : Int), spa os = .tuple #[.agg #[.int .i64 p, .int .i64 q], .int .i64 r] := ⟨_, _, _, rfl⟩
        obtain ⟨ln, hln⟩ : ∃ ln, lna s os = .tuple #[.string ln, .int .i64 r] := by
          have e : r = if os.isSome then 0 else 1 := by
            unfold spa at hsp
            simp only [Value.tuple.injEq, Array.mk.injEq, List.cons.injEq, Value.int.injEq, true_and, and_true] at hsp
            exact hsp.2.symm
          rw [e]
          exact ⟨_, rfl⟩
        have COf : Hid (∀ W, Hid (Below X.heap.size X W) → Calls Tryz.prog 22 #[.iface T u, .int .i64 c] W fun e W' => e = .returned (.tuple #[.int .i64 y1, .int .i64 y2]) ∧ Hid (Below X.heap.size X W')) := fun W hW => (ask_of (HT.out W hW.out).1 c).mono fun e W' ⟨q1, q2⟩ => ⟨by rw [q1, hof], Below.on hW.out q2⟩
        have CRof : Hid (∀ W, Calls Tryz.prog 23 #[.string s, .int .i64 c] W fun e W' => e = .returned (.tuple #[.int .i64 y1, .int .i64 y2]) ∧ Below W.heap.size W W') := fun W => (rof_any s HS.out c W).mono fun e W' ⟨q1, q2⟩ => ⟨by rw [q1, hof], q2⟩
        have CSp : Hid (∀ W, Hid (Below X.heap.size X W) → Calls Tryz.prog 24 #[.iface T u, .int .i64 c] W fun e W' => e = .returned (.tuple #[.agg #[.int .i64 p, .int .i64 q], .int .i64 r]) ∧ Hid (Below X.heap.size X W')) := fun W hW => (ask_span (HT.out W hW.out).1 c hcb.2 hos).mono fun e W' ⟨q1, q2⟩ => ⟨by rw [q1, hsp], Below.on hW.out q2⟩
        have CRsp : Hid (∀ W, Calls Tryz.prog 25 #[.string s, .int .i64 c] W fun e W' => e = .returned (.tuple #[.agg #[.int .i64 p, .int .i64 q], .int .i64 r]) ∧ Hid (Below W.heap.size W W')) := fun W => (rspan_any s HS.out c hos W).mono fun e W' ⟨q1, q2⟩ => ⟨by rw [q1, hsp], q2⟩
        have CLn : Hid (∀ W, Hid (Below X.heap.size X W) → Calls Tryz.prog 26 #[.iface T u, .int .i64 c] W fun e W' => e = .returned (.tuple #[.string ln, .int .i64 r]) ∧ Hid (Below X.heap.size X W')) := fun W hW => (ask_line (HT.out W hW.out).1 c hcb.2 hos).mono fun e W' ⟨q1, q2⟩ => ⟨by rw [q1, hln], Below.on hW.out q2⟩
        have CRln : Hid (∀ W, Calls Tryz.prog 27 #[.string s, .int .i64 c] W fun e W' => e = .returned (.tuple #[.string ln, .int .i64 r]) ∧ Below W.heap.size W W') := fun W => (rline_any s HS.out c hos W).mono fun e W' ⟨q1, q2⟩ => ⟨by rw [q1, hln], q2⟩
        clear hcc hof hsp hln hos hc hcb
        have x1 := HN.out _ HR.out
        have x0 := HC.out _ HR.out
        go_upto_region 12 with (go_at_call 22; refine (COf.out _ HR).mono ?_; clear COf HR x0 x1; rintro e w3 ⟨rfl, H3⟩; have x1 := HN.out _ H3.out; have x0 := HC.out _ H3.out)
        have f0 := fun d os => cell_regrown x0 d os
        have f1 := fun d os => cell_regrown x1 d os
        have q1 := regrown (W := w3) (fun W hW => CRof.out W)
        refine wp_region_quiet_below HM.out (by kernel_rfl) ?_
        repeat (go_big_quiet_step (exact q1 _ _))
        refine wpQuiet_nil ?_
        intro _ hw'
        obtain ⟨⟨dq, osq⟩, hw''⟩ := hw'
        subst hw''
        have H4 : Hid (Below X.heap.size X (Go.Sort.grow (redrawn w3 dq) osq)) := Below.on H3.out (below_regrown w3 dq osq)
        generalize Go.Sort.grow (redrawn w3 dq) osq = w4 at H4 ⊢
        clear q1 f0 f1 x0 x1 H3 CRof
        have x1 := HN.out _ H4.out
        have x0 := HC.out _ H4.out
        go_upto_region 14 with (go_at_call 24; refine (CSp.out _ H4).mono ?_; clear CSp H4 x0 x1; rintro e w5 ⟨rfl, H5⟩)
        obtain ⟨W5, hW5⟩ : ∃ W5, w5.alloc (.cells #[.int .i64 p, .int .i64 q] 53) = W5 := ⟨_, rfl⟩
        have hb5 : Below w5.heap.size w5 W5 ∧ W5.heap[w5.heap.size]? = some (.cells #[.int .i64 p, .int .i64 q] 53 (0, 0)) := by rw [← hW5]; exact ⟨(Below.refl _ w5).alloc (Nat.le_refl _) _, World.alloc_heap_new _ _⟩
        have HB5 : Hid (Below X.heap.size X W5) := Below.on H5.out hb5.1
        have HP5 : Hid (∀ W, Below W5.heap.size W5 W → W.cell? ⟨w5.heap.size, 0, none⟩ = some (.int .i64 p) ∧ W.cell? ⟨w5.heap.size, 1, none⟩ = some (.int .i64 q)) := fun W hW => by
          have := (hW.block _ (Array.getElem?_eq_some_iff.1 hb5.2).1).trans hb5.2
          simp [World.cell?, this]
        have HS5 : Hid (∀ W, Below W5.heap.size W5 W → W.cell? ⟨w.heap.size, 0, none⟩ = some (.string s) ∧ W.cell? ⟨g, o + k, none⟩ = some (.int .i64 c)) := fun W hW => ⟨HC.out _ (Below.on HB5.out hW), HN.out _ (Below.on HB5.out hW)⟩
        rw [hW5]
        clear hb5 hW5 H5
        have HD5 : Hid (Below W5.heap.size W5 W5.drew) := below_drew (Below.refl _ _)
        have HA5 : Hid (∀ o, Below W5.heap.size W5 (W5.drew.alloc o)) := fun o => HD5.out.alloc HD5.out.size o
        have HK5 : Hid (∀ W, Below (W5.drew.alloc (.cells #[.int .i64 0, .int .i64 0] 53)).heap.size (W5.drew.alloc (.cells #[.int .i64 0, .int .i64 0] 53)) W → W.cell? ⟨W5.heap.size, 0, none⟩ = some (.int .i64 0) ∧ W.cell? ⟨W5.heap.size, 1, none⟩ = some (.int .i64 0) ∧ W.frozen? ⟨W5.heap.size, 0, none⟩ = false ∧ W.frozen? ⟨W5.heap.size, 1, none⟩ = false ∧ Hid (W.heap[W5.heap.size]? = some (.cells #[.int .i64 0, .int .i64 0] 53 (0, 0)))) := fun W hW => by
          have e := World.alloc_heap_new W5.drew (.cells #[.int .i64 0, .int .i64 0] 53)
          have := (hW.block _ (Array.getElem?_eq_some_iff.1 e).1).trans e
          have this : W.heap[W5.heap.size]? = some (.cells #[.int .i64 0, .int .i64 0] 53 (0, 0)) := this
          exact ⟨by simp [World.cell?, this], by simp [World.cell?, this], by simp [World.frozen?, this], by simp [World.frozen?, this], this⟩
        go_region_held3 (fun W' => W'.cell? ⟨w.heap.size, 0, none⟩ = some (.string s) ∧ W'.cell? ⟨g, o + k, none⟩ = some (.int .i64 c)) (first | exact HS5.out _ (Below.refl _ _) | exact HS5.out _ HD5.out | exact HS5.out _ (HA5.out _) | exact HS5.out _ H6.out | exact HS5.out _ (H6.out.alloc H6.out.size _) | exact HS5.out _ ((H6.out.setCell (p := ⟨W5.heap.size, 0, none⟩) (Nat.le_refl _) _).setCell (p := ⟨W5.heap.size, 1, none⟩) (Nat.le_refl _) _)) (first | (go_at_call 25; refine (CRsp.out _).mono ?_; clear CRsp; rintro e w6 ⟨rfl, H7⟩; obtain ⟨k0, k1, k2, k3, k4⟩ := HK5.out _ H7.out; have H6 : Hid (Below W5.heap.size W5 w6) := Below.on (HA5.out _) H7.out; clear H7) | (go_at_call 25; refine (CRsp.out _).mono ?_; clear CRsp; rintro e w6 ⟨rfl, H7⟩; have H6 : Hid (Below W5.heap.size W5 w6) := Below.on HD5.out H7.out; clear H7))
        · have H7 : Hid (Below W5.heap.size W5 (w6.alloc (.cells #[.int .i64 p, .int .i64 q] 53))) := H6.out.alloc H6.out.size _
          have HQ7 : Hid ((w6.alloc (.cells #[.int .i64 p, .int .i64 q] 53)).cell? ⟨w6.heap.size, 0, none⟩ = some (.int .i64 p) ∧ (w6.alloc (.cells #[.int .i64 p, .int .i64 q] 53)).cell? ⟨w6.heap.size, 1, none⟩ = some (.int .i64 q)) := by
            have := World.alloc_heap_new w6 (.cells #[.int .i64 p, .int .i64 q] 53)
            exact ⟨by unfold World.cell?; rw [this]; rfl, by unfold World.cell?; rw [this]; rfl⟩
          generalize w6.alloc (.cells #[.int .i64 p, .int .i64 q] 53) = W7 at H7 HQ7 ⊢
          clear H6
          have HB7 : Hid (Below X.heap.size X W7) := Below.on HB5.out H7.out
          obtain ⟨v0, v1⟩ := HP5.out _ H7.out
          obtain ⟨v2, v3⟩ := HQ7.out
          have x1 := HN.out _ HB7.out
          have x0 := HC.out _ HB7.out
          clear HS5 HP5 HB5 HD5 HA5 HK5 HQ7 H7
          go_upto_region 18 with (go_at_call 26; refine (CLn.out _ HB7).mono ?_; clear CLn HB7 x0 x1 v0 v1 v2 v3; rintro e w8 ⟨rfl, H8⟩; have x1 := HN.out _ H8.out; have x0 := HC.out _ H8.out)
          have f0 := fun d os => cell_regrown x0 d os
          have f1 := fun d os => cell_regrown x1 d os
          have q1 := regrown (W := w8) (fun W hW => CRln.out W)
          refine wp_region_quiet_below HM.out (by kernel_rfl) ?_
          repeat (go_big_quiet_step (exact q1 _ _))
          refine wpQuiet_nil ?_
          intro _ hw'
          obtain ⟨⟨dq, osq⟩, hw''⟩ := hw'
          subst hw''
          have H9 : Hid (Below X.heap.size X (Go.Sort.grow (redrawn w8 dq) osq)) := Below.on H8.out (below_regrown w8 dq osq)
          generalize Go.Sort.grow (redrawn w8 dq) osq = w9 at H9 ⊢
          clear q1 f0 f1 x0 x1 H8 CRln
          go_wp2
          exact ⟨⟨k + 1, by omega, by go_num, H9⟩, by simp [Go.RowKit.intOf]; omega⟩
        · have H7 : Hid (Below W5.heap.size W5 ((w6.setCell ⟨W5.heap.size, 0, none⟩ (.int .i64 p)).setCell ⟨W5.heap.size, 1, none⟩ (.int .i64 q))) := (H6.out.setCell (p := ⟨W5.heap.size, 0, none⟩) (Nat.le_refl _) _).setCell (p := ⟨W5.heap.size, 1, none⟩) (Nat.le_refl _) _
          have HQ7 : Hid (((w6.setCell ⟨W5.heap.size, 0, none⟩ (.int .i64 p)).setCell ⟨W5.heap.size, 1, none⟩ (.int .i64 q)).cell? ⟨W5.heap.size, 0, none⟩ = some (.int .i64 p) ∧ ((w6.setCell ⟨W5.heap.size, 0, none⟩ (.int .i64 p)).setCell ⟨W5.heap.size, 1, none⟩ (.int .i64 q)).cell? ⟨W5.heap.size, 1, none⟩ = some (.int .i64 q)) := two_set k4.out _ _
          generalize (w6.setCell ⟨W5.heap.size, 0, none⟩ (.int .i64 p)).setCell ⟨W5.heap.size, 1, none⟩ (.int .i64 q) = W7 at H7 HQ7 ⊢
          clear H6 k0 k1 k2 k3 k4
          have HB7 : Hid (Below X.heap.size X W7) := Below.on HB5.out H7.out
          obtain ⟨v0, v1⟩ := HP5.out _ H7.out
          obtain ⟨v2, v3⟩ := HQ7.out
          have x1 := HN.out _ HB7.out
          have x0 := HC.out _ HB7.out
          clear HS5 HP5 HB5 HD5 HA5 HK5 HQ7 H7
          go_upto_region 18 with (go_at_call 26; refine (CLn.out _ HB7).mono ?_; clear CLn HB7 x0 x1 v0 v1 v2 v3; rintro e w8 ⟨rfl, H8⟩; have x1 := HN.out _ H8.out; have x0 := HC.out _ H8.out)
          have f0 := fun d os => cell_regrown x0 d os
          have f1 := fun d os => cell_regrown x1 d os
          have q1 := regrown (W := w8) (fun W hW => CRln.out W)
          refine wp_region_quiet_below HM.out (by kernel_rfl) ?_
          repeat (go_big_quiet_step (exact q1 _ _))
          refine wpQuiet_nil ?_
          intro _ hw'
          obtain ⟨⟨dq, osq⟩, hw''⟩ := hw'
          subst hw''
          have H9 : Hid (Below X.heap.size X (Go.Sort.grow (redrawn w8 dq) osq)) := Below.on H8.out (below_regrown w8 dq osq)
          generalize Go.Sort.grow (redrawn w8 dq) osq = w9 at H9 ⊢
          clear q1 f0 f1 x0 x1 H8 CRln
          go_wp2
          exact ⟨⟨k + 1, by omega, by go_num, H9⟩, by simp [Go.RowKit.intOf]; omega⟩
      · go_wp2
        go_ret
        exact ⟨rfl, (HT.out _ HR.out).2⟩
end Go.Proofs.YtcjmfoadimpffaaGreatDoor.Sto
namespace Go.Proofs.YtcjmfoadimpffaaGreatDoor.linesSpans
open Go.RowKit Go.Shelf Sto
theorem walk_of {H : Type} {d0 d1 : DataW H} (s : ByteArray) (kd : Int) (a1 : Option Addr) (len1 cap1 : Nat) (w : World) (hT : Lib.Utf8Tabs 1 2 w) (hlo0 : 1 < w.heap.size) (hlo1 : 2 < w.heap.size) (_hs : s.size ≤ Rows.uptoBulk d0) (_hd : -9223372036854775808 ≤ kd ∧ kd ≤ 9223372036854775807) (rs : List Int) (y : Wholes w a1 len1 rs) (u : len1 ≤ Rows.uptoBulk d1) (hk : Rows.uptoSmall H ([d0, d1] ++ []) = true) :
    Calls Tryz.prog 4 #[.agg #[.string s, .int .i64 kd], .slice a1 len1 cap1] w fun e W' => e = .returned (.bool true) ∧ Below w.heap.size w W' := by
  have h : Rows.uptoBulkAll ([d0, d1] ++ []) ≤ 1048576 := of_decide_eq_true hk
  simp only [List.append_nil, Rows.uptoBulkAll] at h
  exact spans_walk s kd rs a1 len1 cap1 (by omega) w ⟨hT, hlo0, hlo1⟩ y
end Go.Proofs.YtcjmfoadimpffaaGreatDoor.linesSpans
