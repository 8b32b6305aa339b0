/-
  The walk of the law LinesAlike: two that keep one text are answered alike. Conditions: the two tables of unicode/utf8 lie as their text lays them.
-/
import Derived.Test.YtkcfhcglplnmeaaGreatDoorPkDK
import Derived.Test.YtkcfhcglplnmeaaGreatDoorPkUK
import Derived.Lib.QuietBelow
import Derived.BigQuiet
namespace Go.Proofs.YtkcfhcglplnmeaaGreatDoor.Sto
open Go.RowKit Go.Shelf Bod Wid Go.Lib

set_option maxRecDepth 100000 in
set_option maxHeartbeats 2000000 in
theorem alike_walk (s : ByteArray) (kd kd2 z x y : Int) (hz : -9223372036854775808 ≤ z ∧ z ≤ 9223372036854775807) (hx : -9223372036854775808 ≤ x ∧ x ≤ 9223372036854775807) (hy : -9223372036854775808 ≤ y ∧ y ≤ 9223372036854775807) (w : World) (hE : Ev w) :
    Calls Tryz.prog 6 #[.agg #[.string s, .int .i64 kd], .int .i64 kd2, .agg #[.int .i64 z, .int .i64 x, .int .i64 y]] w fun e W' => e = .returned (.bool true) ∧ Below w.heap.size w W' := by
  have hM : Tryz.prog.follows .mixedOrders = true := by kernel_rfl
  have HM : Hid (Tryz.prog.follows .mixedOrders = true) := hM
  obtain ⟨W0, hW0⟩ : ∃ W0, (w.alloc (.cells #[.string s, .int .i64 kd] 23)).alloc (.cells #[.int .i64 z, .int .i64 x, .int .i64 y] 54) = W0 := ⟨_, rfl⟩
  have hb0 : Below w.heap.size w W0 ∧ W0.heap[w.heap.size]? = some (.cells #[.string s, .int .i64 kd] 23 (0, 0)) ∧ W0.heap[w.heap.size + 1]? = some (.cells #[.int .i64 z, .int .i64 x, .int .i64 y] 54 (0, 0)) := by
    rw [← hW0]
    obtain ⟨p0, p1⟩ := push2 w.heap (.cells #[.string s, .int .i64 kd] 23) (.cells #[.int .i64 z, .int .i64 x, .int .i64 y] 54)
    exact ⟨((Below.refl _ w).alloc (Nat.le_refl _) _).alloc (by simp) _, p0, p1⟩
  have HX : Hid (∀ W, Below W0.heap.size W0 W → W.cell? ⟨w.heap.size, 0, none⟩ = some (.string s) ∧ W.cell? ⟨w.heap.size, 1, none⟩ = some (.int .i64 kd) ∧ W.cell? ⟨w.heap.size + 1, 0, none⟩ = some (.int .i64 z) ∧ W.cell? ⟨w.heap.size + 1, 1, none⟩ = some (.int .i64 x) ∧ W.cell? ⟨w.heap.size + 1, 2, none⟩ = some (.int .i64 y)) := fun W hW => by
    have e1 := (hW.block _ (Array.getElem?_eq_some_iff.1 hb0.2.1).1).trans hb0.2.1
    have e2 := (hW.block _ (Array.getElem?_eq_some_iff.1 hb0.2.2).1).trans hb0.2.2
    simp [World.cell?, e1, e2]
  have CA : Hid (Calls Tryz.prog 7 #[] W0 fun e W' => e = .returned (.bool true) ∧ Hid (Below W0.heap.size W0 W')) := awake_any hM W0 (hE.below hb0.1)
  obtain ⟨c0, c1, c2, c3, c4⟩ := HX.out W0 (Below.refl _ _)
  have HB0 : Hid (Below w.heap.size w W0) := hb0.1
  by_cases hbig : 1073741822 < s.size
  · clear hE hM hb0
    go_enter Tryz.func6, Tryz.ntmps6
    go_wp2_with (go_at_call 7; refine CA.out.mono ?_; clear CA c0 c1 c2 c3 c4 hW0; rintro e w1 ⟨rfl, H1⟩; obtain ⟨c0, c1, c2, c3, c4⟩ := HX.out _ H1.out)
    go_ret
    exact ⟨rfl, Below.on HB0.out H1.out⟩
  · have hs : s.size ≤ 1073741824 := by omega
    have CK : Hid (∀ W (k : Int), Hid (Below W0.heap.size W0 W) → Calls Tryz.prog 8 #[.agg #[.string s, .int .i64 k]] W fun e W' => ∃ T u, e = .returned (.tuple #[.iface T u, .bool true]) ∧ Hid (Tl W' (.iface T u) s ∧ Below W.heap.size W W')) := fun W k hW => (keep_any hM W (hE.below (Below.on hb0.1 hW.out)) s k hs).mono fun e W' ⟨T, u, q1, q2⟩ => ⟨T, u, q1, (q2.vt (hE.below (Below.on hb0.1 hW.out))).tl hs, q2.bel⟩
    obtain ⟨oc, hoc⟩ := isCo_ex s z
    obtain ⟨os, hos⟩ := isS_ex s z
    obtain ⟨oa, hoa⟩ := isA_ex s x y
    obtain ⟨f1, f2, hof⟩ : ∃ y1 y2, ofv s z = .tuple #[.int .i64 y1, .int .i64 y2] := ⟨_, _, rfl⟩
    obtain ⟨g1, g2, hcv⟩ : ∃ y1 y2, cov oc = .tuple #[.int .i64 y1, .int .i64 y2] := ⟨_, _, rfl⟩
    obtain ⟨h1, h2, hav⟩ : ∃ y1 y2, atv oa = .tuple #[.int .i64 y1, .int .i64 y2] := ⟨_, _, rfl⟩
    obtain ⟨p, q, r, hsp⟩ : ∃ (p q r : Int), spa os = .tuple #[.agg #[.int .i64 p, .int .i64 q], .int .i64 r] := ⟨_, _, _, rfl⟩
    obtain ⟨n, hn⟩ : ∃ n : Int, (cn s 0 s.size : Int) + 1 = n := ⟨_, rfl⟩
    have CC : Hid (∀ X T u W, Hid (Tl X (.iface T u) s ∧ Below W0.heap.size W0 X) → Hid (Below X.heap.size X W) → Calls Tryz.prog 17 #[.iface T u, .int .i64 z] W fun e W' => e = .returned (.tuple #[.int .i64 g1, .int .i64 g2]) ∧ Hid (Below W.heap.size W W')) := fun X T u W hX hW => by
      have := ask_col hM (hX.out.1.below hW.out) (hE.below (Below.on hb0.1 (Below.on hX.out.2 hW.out))) z hoc
      rw [hcv] at this
      exact this
    have CO : Hid (∀ X T u W, Hid (Tl X (.iface T u) s ∧ Below W0.heap.size W0 X) → Hid (Below X.heap.size X W) → Calls Tryz.prog 16 #[.iface T u, .int .i64 z] W fun e W' => e = .returned (.tuple #[.int .i64 f1, .int .i64 f2]) ∧ Hid (Below W.heap.size W W')) := fun X T u W hX hW => by
      have := ask_of (hX.out.1.below hW.out) z
      rw [hof] at this
      exact this
    have CT : Hid (∀ X T u W, Hid (Tl X (.iface T u) s ∧ Below W0.heap.size W0 X) → Hid (Below X.heap.size X W) → Calls Tryz.prog 18 #[.iface T u, .int .i64 x, .int .i64 y] W fun e W' => e = .returned (.tuple #[.int .i64 h1, .int .i64 h2]) ∧ Hid (Below W.heap.size W W')) := fun X T u W hX hW => by
      have := ask_at hM (hX.out.1.below hW.out) (hE.below (Below.on hb0.1 (Below.on hX.out.2 hW.out))) x y hx.2 hy.2 hoa
      rw [hav] at this
      exact this
    have CS : Hid (∀ X T u W, Hid (Tl X (.iface T u) s ∧ Below W0.heap.size W0 X) → Hid (Below X.heap.size X W) → Calls Tryz.prog 13 #[.iface T u, .int .i64 z] W fun e W' => e = .returned (.tuple #[.agg #[.int .i64 p, .int .i64 q], .int .i64 r]) ∧ Hid (Below W.heap.size W W')) := fun X T u W hX hW => by
      have := ask_span (hX.out.1.below hW.out) z hz.2 hos
      rw [hsp] at this
      exact this
    have CN : Hid (∀ X T u W, Hid (Tl X (.iface T u) s ∧ Below W0.heap.size W0 X) → Hid (Below X.heap.size X W) → Calls Tryz.prog 12 #[.iface T u] W fun e W' => e = .returned (.int .i64 n) ∧ Hid (Below W.heap.size W W')) := fun X T u W hX hW => by
      have := ask_count (hX.out.1.below hW.out)
      rw [hn] at this
      exact this
    clear hE hM hb0 hs hoc hos hoa hof hcv hav hsp hn hz hx hy
    go_enter Tryz.func6, Tryz.ntmps6
    go_upto_region 7 with (go_at_call 7; refine CA.out.mono ?_; clear CA c0 c1 c2 c3 c4 hW0; rintro e w1 ⟨rfl, H1⟩; obtain ⟨c0, c1, c2, c3, c4⟩ := HX.out _ H1.out)
    obtain ⟨W1, hW1⟩ : ∃ W1, w1.alloc (.cells #[.int .i64 x, .int .i64 y] 52) = W1 := ⟨_, rfl⟩
    have hb1 : Below w1.heap.size w1 W1 ∧ W1.heap[w1.heap.size]? = some (.cells #[.int .i64 x, .int .i64 y] 52 (0, 0)) := by rw [← hW1]; exact ⟨(Below.refl _ w1).alloc (Nat.le_refl _) _, World.alloc_heap_new _ _⟩
    have HV : Hid (∀ W, Below W1.heap.size W1 W → W.cell? ⟨w1.heap.size, 0, none⟩ = some (.int .i64 x) ∧ W.cell? ⟨w1.heap.size, 1, none⟩ = some (.int .i64 y)) := fun W hW => by
      have := (hW.block _ (Array.getElem?_eq_some_iff.1 hb1.2).1).trans hb1.2
      simp [World.cell?, this]
    have H2 : Hid (Below W0.heap.size W0 W1) := Below.on H1.out hb1.1
    rw [hW1]
    clear hW1 hb1 H1 c0 c1 c2 c3 c4
    obtain ⟨c0, c1, c2, c3, c4⟩ := HX.out _ H2.out
    have K1 : True := trivial
    go_upto_region 9 with (first
      | (go_at_call 8; clear K1; refine (CK.out _ kd H2).mono ?_; clear c0 c1 c2 c3 c4; rintro e X1 ⟨T1, u1, rfl, H3⟩; have H4 : Hid (Below W0.heap.size W0 X1) := Below.on H2.out H3.out.2; obtain ⟨c0, c1, c2, c3, c4⟩ := HX.out _ H4.out)
      | (go_at_call 8; refine (CK.out _ kd2 H4).mono ?_; clear CK c0 c1 c2 c3 c4; rintro e X2 ⟨T2, u2, rfl, H5⟩; have H6 : Hid (Below W0.heap.size W0 X2) := Below.on H4.out H5.out.2))
    have HT1 : Hid (Tl X2 (.iface T1 u1) s ∧ Below W0.heap.size W0 X2) := ⟨H3.out.1.below H5.out.2, H6.out⟩
    have HT2 : Hid (Tl X2 (.iface T2 u2) s ∧ Below W0.heap.size W0 X2) := ⟨H5.out.1, H6.out⟩
    have HV2 : Hid (∀ W, Below X2.heap.size X2 W → W.cell? ⟨w1.heap.size, 0, none⟩ = some (.int .i64 x) ∧ W.cell? ⟨w1.heap.size, 1, none⟩ = some (.int .i64 y)) := fun W hW => HV.out W (Below.on H3.out.2 (Below.on H5.out.2 hW))
    have HB : Hid (Below X2.heap.size X2 X2) := Below.refl _ _
    have HE2 : Hid (∀ W, Below X2.heap.size X2 W → Below w.heap.size w W) := fun W hW => Below.on HB0.out (Below.on H6.out hW)
    clear HV H2 H3 H4 H5 H6 HX HB0
    have K2 : True := trivial
    go_upto_region 14 with (first
      | (go_at_call 17; clear K2; refine (CC.out _ T1 u1 _ HT1 HB).mono ?_; rintro e w3 ⟨rfl, H3⟩; have HB3 : Hid (Below X2.heap.size X2 w3) := Below.on HB.out H3.out; clear HB H3)
      | (go_at_call 17; refine (CC.out _ T2 u2 _ HT2 HB3).mono ?_; clear CC; rintro e w4 ⟨rfl, H4⟩; have HB4 : Hid (Below X2.heap.size X2 w4) := Below.on HB3.out H4.out; clear HB3 H4)
      | (go_at_call 13; refine (CS.out _ T1 u1 _ HT1 HB4).mono ?_; rintro e w5 ⟨rfl, H5⟩; have HB5 : Hid (Below X2.heap.size X2 w5) := Below.on HB4.out H5.out; clear HB4 H5))
    obtain ⟨W5, hW5⟩ : ∃ W5, w5.alloc (.cells #[.int .i64 p, .int .i64 q] 35) = W5 := ⟨_, rfl⟩
    have hb5 : Below w5.heap.size w5 W5 ∧ W5.heap[w5.heap.size]? = some (.cells #[.int .i64 p, .int .i64 q] 35 (0, 0)) := by rw [← hW5]; exact ⟨(Below.refl _ w5).alloc (Nat.le_refl _) _, World.alloc_heap_new _ _⟩
    have HB6 : Hid (Below X2.heap.size X2 W5) := Below.on HB5.out hb5.1
    have HP5 : Hid (∀ W, Below W5.heap.size W5 W → W.cell? ⟨w5.heap.size, 0, none⟩ = some (.int .i64 p) ∧ W.cell? ⟨w5.heap.size, 1, none⟩ = some (.int .i64 q)) := fun W hW => by
      have := (hW.block _ (Array.getElem?_eq_some_iff.1 hb5.2).1).trans hb5.2
      simp [World.cell?, this]
    rw [hW5]
    clear hb5 hW5 HB5
    go_upto_region 15 with (go_at_call 13; refine (CS.out _ T2 u2 _ HT2 HB6).mono ?_; clear CS; rintro e w6 ⟨rfl, H6⟩)
    obtain ⟨W6, hW6⟩ : ∃ W6, w6.alloc (.cells #[.int .i64 p, .int .i64 q] 35) = W6 := ⟨_, rfl⟩
    have hb6 : Below w6.heap.size w6 W6 ∧ W6.heap[w6.heap.size]? = some (.cells #[.int .i64 p, .int .i64 q] 35 (0, 0)) := by rw [← hW6]; exact ⟨(Below.refl _ w6).alloc (Nat.le_refl _) _, World.alloc_heap_new _ _⟩
    have HB7 : Hid (Below X2.heap.size X2 W6) := Below.on HB6.out (Below.on H6.out hb6.1)
    obtain ⟨v0, v1⟩ := HP5.out _ (Below.on H6.out hb6.1)
    obtain ⟨v2, v3⟩ : W6.cell? ⟨w6.heap.size, 0, none⟩ = some (.int .i64 p) ∧ W6.cell? ⟨w6.heap.size, 1, none⟩ = some (.int .i64 q) := by simp [World.cell?, hb6.2]
    rw [hW6]
    clear hb6 hW6 HB6 H6 HP5
    have K3 : True := trivial
    have K4 : True := trivial
    have K5 : True := trivial
    go_wp2_with (first
      | (go_at_call 12; clear K3; refine (CN.out _ T1 u1 _ HT1 HB7).mono ?_; rintro e w8 ⟨rfl, H8⟩; have HB8 : Hid (Below X2.heap.size X2 w8) := Below.on HB7.out H8.out; clear HB7 H8)
      | (go_at_call 12; refine (CN.out _ T2 u2 _ HT2 HB8).mono ?_; clear CN; rintro e w9 ⟨rfl, H9⟩; have HB9 : Hid (Below X2.heap.size X2 w9) := Below.on HB8.out H9.out; clear HB8 H9)
      | (go_at_call 16; clear K4; refine (CO.out _ T1 u1 _ HT1 HB9).mono ?_; rintro e w10 ⟨rfl, H10⟩; have HB10 : Hid (Below X2.heap.size X2 w10) := Below.on HB9.out H10.out; clear HB9 H10)
      | (go_at_call 16; refine (CO.out _ T2 u2 _ HT2 HB10).mono ?_; clear CO; rintro e w11 ⟨rfl, H11⟩; have HB11 : Hid (Below X2.heap.size X2 w11) := Below.on HB10.out H11.out; clear HB10 H11; obtain ⟨x0, x1⟩ := HV2.out _ HB11.out)
      | (go_at_call 18; clear K5; refine (CT.out _ T1 u1 _ HT1 HB11).mono ?_; clear x0 x1; rintro e w12 ⟨rfl, H12⟩; have HB12 : Hid (Below X2.heap.size X2 w12) := Below.on HB11.out H12.out; clear HB11 H12; obtain ⟨x0, x1⟩ := HV2.out _ HB12.out)
      | (go_at_call 18; refine (CT.out _ T2 u2 _ HT2 HB12).mono ?_; clear CT x0 x1; rintro e w13 ⟨rfl, H13⟩; have HB13 : Hid (Below X2.heap.size X2 w13) := Below.on HB12.out H13.out; clear HB12 H13))
    go_ret
    exact ⟨rfl, HE2.out _ HB13.out⟩
end Go.Proofs.YtkcfhcglplnmeaaGreatDoor.Sto
namespace Go.Proofs.YtkcfhcglplnmeaaGreatDoor.linesAlike
open Go.RowKit Go.Shelf Sto
theorem walk_of {H : Type} {d0 d1 d2 : DataW H} (s : ByteArray) (kd kd2 z x y : Int) (w : World) (hT : Lib.Utf8Tabs 1 2 w) (hlo0 : 1 < w.heap.size) (hlo1 : 2 < w.heap.size) (_hs : s.size ≤ Rows.uptoBulk d0) (_hd : -9223372036854775808 ≤ kd ∧ kd ≤ 9223372036854775807) (_h2 : -9223372036854775808 ≤ kd2 ∧ kd2 ≤ 9223372036854775807) (hz : -9223372036854775808 ≤ z ∧ z ≤ 9223372036854775807) (hx : -9223372036854775808 ≤ x ∧ x ≤ 9223372036854775807) (hy : -9223372036854775808 ≤ y ∧ y ≤ 9223372036854775807) (_hk : Rows.uptoSmall H ([d0, d1, d2] ++ []) = true) :
    Calls Tryz.prog 6 #[.agg #[.string s, .int .i64 kd], .int .i64 kd2, .agg #[.int .i64 z, .int .i64 x, .int .i64 y]] w fun e W' => e = .returned (.bool true) ∧ Below w.heap.size w W' :=
  alike_walk s kd kd2 z x y hz hx hy w ⟨hT, hlo0, hlo1⟩
end Go.Proofs.YtkcfhcglplnmeaaGreatDoor.linesAlike
