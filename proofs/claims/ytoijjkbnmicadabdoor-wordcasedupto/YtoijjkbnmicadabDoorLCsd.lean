/-
  The walk of the law WordCased: for every text it returns true: case changes no length, no boundary and no word; each unit is its form; to change twice is to change once; a capital is lower but at the words' beginnings. Conditions: the text is so short that its lists can be made; the two tables of unicode/utf8 lie as their text lays them.
-/
import Derived.Test.YtoijjkbnmicadabDoorWLaw
import Derived.Test.YtoijjkbnmicadabDoorWMathJ
import Derived.Lib.QuietBelow
import Derived.BigQuiet
namespace Go.Proofs.YtoijjkbnmicadabDoor.wordCased
open Go.RowKit Go.Sort Bod Wid

set_option maxRecDepth 100000 in
set_option maxHeartbeats 8000000 in
theorem walk (s : ByteArray) (hs : s.size ≤ 1048576) (w : World) (hT : Lib.Utf8Tabs 0 1 w) (hlo0 : 0 < w.heap.size) (hlo1 : 1 < w.heap.size) :
    Calls Tryd.prog 4 #[.string s] w fun e w' => e = .returned (.bool true) ∧ Below w.heap.size w w' := by
  have cA := awake_any w hT hlo0 hlo1
  have hM : Tryd.prog.follows .mixedOrders = true := by kernel_rfl
  have HM : Hid (Tryd.prog.follows .mixedOrders = true) := hM
  clear hM
  have TT : Hid (∀ W, Below w.heap.size w W → Lib.Utf8Tabs 0 1 W ∧ 0 < W.heap.size ∧ 1 < W.heap.size) := fun W hb => ⟨tabs_below hT hb, Nat.lt_of_lt_of_le hlo0 hb.size, Nat.lt_of_lt_of_le hlo1 hb.size⟩
  have CU : Hid (∀ (t r : ByteArray), t.size ≤ s.size → fm (fun _ => upc) t = r → ∀ W, Below w.heap.size w W → Calls Tryd.prog 11 #[.string t] W fun e w' => e = .returned (.string r) ∧ Below w.heap.size w w') := fun t r ht hr W hW => by
    obtain ⟨t1, t2, t3⟩ := TT.out W hW
    rw [← hr]
    exact (upper_any t (by unfold maxLen; omega) (by omega) W t1 t2 t3).mono fun e w' ⟨h1, h2⟩ => ⟨h1, hW.trans (h2.mono hW.size)⟩
  have CL : Hid (∀ (t r : ByteArray), t.size ≤ s.size → fm (fun _ => lowc) t = r → ∀ W, Below w.heap.size w W → Calls Tryd.prog 12 #[.string t] W fun e w' => e = .returned (.string r) ∧ Below w.heap.size w w') := fun t r ht hr W hW => by
    obtain ⟨t1, t2, t3⟩ := TT.out W hW
    rw [← hr]
    exact (lower_any t (by unfold maxLen; omega) (by omega) W t1 t2 t3).mono fun e w' ⟨h1, h2⟩ => ⟨h1, hW.trans (h2.mono hW.size)⟩
  have CC : Hid (∀ W, Below w.heap.size w W → Calls Tryd.prog 13 #[.string s] W fun e w' => e = .returned (.string (fm (capG (words s)) s)) ∧ Below w.heap.size w w') := fun W hW => by
    obtain ⟨t1, t2, t3⟩ := TT.out W hW
    exact (capital_any s (by unfold maxLen; omega) (by omega) W t1 t2 t3).mono fun e w' ⟨h1, h2⟩ => ⟨h1, hW.trans (h2.mono hW.size)⟩
  have CS : Hid (∀ (t : ByteArray), t.size ≤ s.size → words t = words s → ∀ W, Below w.heap.size w W → Calls Tryd.prog 14 #[.string t] W fun e w' => ∃ v, e = .returned v ∧ Rd2 w' v (words s) ∧ Below W.heap.size W w') := fun t ht hr W hW => by
    obtain ⟨t1, t2, t3⟩ := TT.out W hW
    have := spans_any t (by unfold maxLen; omega) (by omega) W t1 t2 t3
    rw [hr] at this
    exact this.mono fun e w' ⟨v, h1, h2, h3⟩ => ⟨v, h1, Rd2.of_row h2, h3⟩
  have CA : Hid (∀ (t : ByteArray) (i : Nat), t.size ≤ s.size → ∀ W, Below w.heap.size w W → Calls Tryd.prog 16 #[.string t, .int .i64 i] W fun e w' => e = .returned (.tuple #[.agg #[.int .i32 (atC t i), .int .i64 (atS t i)], .bool (atB t i)]) ∧ Below W.heap.size W w') := fun t i ht W hW => by
    obtain ⟨t1, t2, t3⟩ := TT.out W hW
    exact at_any t i (by unfold maxLen; omega) W t1
  have hwl := words_len s
  have CSm : Hid (∀ v1 v2 W, Rd2 W v1 (words s) → Rd2 W v2 (words s) → Calls Tryd.prog 15 #[v1, v2] W fun e w' => e = .returned (.bool true) ∧ Below W.heap.size W w') := fun v1 v2 W h1 h2 => same_any (by omega) h1 h2
  obtain ⟨U, hU⟩ : ∃ U, fm (fun _ => upc) s = U := ⟨_, rfl⟩
  obtain ⟨L, hL⟩ : ∃ L, fm (fun _ => lowc) s = L := ⟨_, rfl⟩
  obtain ⟨K, hK⟩ : ∃ K, fm (capG (words s)) s = K := ⟨_, rfl⟩
  have zU : U.size = s.size := by rw [← hU]; exact fm_size gd_up s
  have zL : L.size = s.size := by rw [← hL]; exact fm_size gd_low s
  have zK : K.size = s.size := by rw [← hK]; exact fm_size (gd_cap _) s
  have cU0 := CU.out s U (Nat.le_refl _) hU
  have cL0 := CL.out s L (Nat.le_refl _) hL
  have cU1 := CU.out U U (by omega) (by rw [← hU]; exact fm_comp gd_up s (fun _ c => up_up c))
  have cL1 := CL.out L L (by omega) (by rw [← hL]; exact fm_comp gd_low s (fun _ c => low_low c))
  have cU2 := CU.out L U (by omega) (by rw [← hL, ← hU]; exact fm_comp gd_low s (fun _ c => up_low c))
  have cL2 := CL.out U L (by omega) (by rw [← hL, ← hU]; exact fm_comp gd_up s (fun _ c => low_up c))
  have cL3 := CL.out K L (by omega) (by rw [← hK, ← hL]; exact fm_comp (gd_cap _) s (fun i c => by unfold capG; split; exact low_up c; exact low_low c))
  have cS0 := CS.out s (Nat.le_refl _) rfl
  have cSU := CS.out U (by omega) (by rw [← hU]; exact fm_words gd_up s)
  have cSL := CS.out L (by omega) (by rw [← hL]; exact fm_words gd_low s)
  have cSK := CS.out K (by omega) (by rw [← hK]; exact fm_words (gd_cap _) s)
  have HU0 : Hid (∀ W, Below w.heap.size w W → Calls Tryd.prog 11 #[.string s] W fun e w' => e = .returned (.string U) ∧ Below w.heap.size w w') := cU0
  have HL0 : Hid (∀ W, Below w.heap.size w W → Calls Tryd.prog 12 #[.string s] W fun e w' => e = .returned (.string L) ∧ Below w.heap.size w w') := cL0
  have HC0 : Hid (∀ W, Below w.heap.size w W → Calls Tryd.prog 13 #[.string s] W fun e w' => e = .returned (.string K) ∧ Below w.heap.size w w') := fun W hW => by have := CC.out W hW; rwa [hK] at this
  have HU1 : Hid (∀ W, Below w.heap.size w W → Calls Tryd.prog 11 #[.string U] W fun e w' => e = .returned (.string U) ∧ Below w.heap.size w w') := cU1
  have HL1 : Hid (∀ W, Below w.heap.size w W → Calls Tryd.prog 12 #[.string L] W fun e w' => e = .returned (.string L) ∧ Below w.heap.size w w') := cL1
  have HU2 : Hid (∀ W, Below w.heap.size w W → Calls Tryd.prog 11 #[.string L] W fun e w' => e = .returned (.string U) ∧ Below w.heap.size w w') := cU2
  have HL2 : Hid (∀ W, Below w.heap.size w W → Calls Tryd.prog 12 #[.string U] W fun e w' => e = .returned (.string L) ∧ Below w.heap.size w w') := cL2
  have HL3 : Hid (∀ W, Below w.heap.size w W → Calls Tryd.prog 12 #[.string K] W fun e w' => e = .returned (.string L) ∧ Below w.heap.size w w') := cL3
  have HS0 : Hid (∀ W, Below w.heap.size w W → Calls Tryd.prog 14 #[.string s] W fun e w' => ∃ v, e = .returned v ∧ Rd2 w' v (words s) ∧ Below W.heap.size W w') := cS0
  have HSU : Hid (∀ W, Below w.heap.size w W → Calls Tryd.prog 14 #[.string U] W fun e w' => ∃ v, e = .returned v ∧ Rd2 w' v (words s) ∧ Below W.heap.size W w') := cSU
  have HSL : Hid (∀ W, Below w.heap.size w W → Calls Tryd.prog 14 #[.string L] W fun e w' => ∃ v, e = .returned v ∧ Rd2 w' v (words s) ∧ Below W.heap.size W w') := cSL
  have HSK : Hid (∀ W, Below w.heap.size w W → Calls Tryd.prog 14 #[.string K] W fun e w' => ∃ v, e = .returned v ∧ Rd2 w' v (words s) ∧ Below W.heap.size W w') := cSK
  have HU' : Hid (fm (fun _ => upc) s = U) := hU
  have HL' : Hid (fm (fun _ => lowc) s = L) := hL
  have HK' : Hid (fm (capG (words s)) s = K) := hK
  clear CU CL CC CS cU0 cL0 cU1 cL1 cU2 cL2 cL3 cS0 cSU cSL cSK hU hL hK hT hlo0 hlo1 TT
  go_enter Tryd.func4, Tryd.ntmps4
  go_wp2_with (first | (go_at_call 6; refine cA.mono ?_; clear cA; rintro e w0 ⟨rfl, hb0⟩) | (go_at_call 11; refine (HU0.out _ hb0).mono ?_; clear HU0; rintro e w1 ⟨rfl, hb1⟩) | (go_at_call 12; refine (HL0.out _ hb1).mono ?_; clear HL0; rintro e w2 ⟨rfl, hb2⟩) | (go_at_call 13; refine (HC0.out _ hb2).mono ?_; clear HC0; rintro e w3 ⟨rfl, hb3⟩) | (go_at_call 11; refine (HU1.out _ hb3).mono ?_; clear HU1; rintro e w4 ⟨rfl, hb4⟩) | (go_at_call 12; refine (HL1.out _ hb4).mono ?_; clear HL1; rintro e w5 ⟨rfl, hb5⟩) | (go_at_call 11; guard_target = Calls _ _ _ w5 _; refine (HU2.out _ hb5).mono ?_; rintro e w6 ⟨rfl, hb6⟩) | (go_at_call 12; refine (HL2.out _ hb6).mono ?_; clear HL2; rintro e w7 ⟨rfl, hb7⟩) | (go_at_call 11; refine (HU2.out _ hb7).mono ?_; clear HU2; rintro e w8 ⟨rfl, hb8⟩) | (go_at_call 12; refine (HL3.out _ hb8).mono ?_; clear HL3; rintro e w9 ⟨rfl, hb9⟩) | (go_at_call 14; refine (HS0.out _ hb9).mono ?_; clear HS0; rintro e w10 ⟨lv, rfl, rd0, hk0⟩; obtain ⟨la, lc, rfl, hg0⟩ := rd0; have HR0 : Hid (Rd2 w10 (.slice la (words s).length lc) (words s)) := ⟨la, lc, rfl, hg0⟩; have HB10 : Hid (Below w.heap.size w w10) := hb9.trans (hk0.mono hb9.size); clear hg0 hk0) | (go_at_call 14; refine (HSU.out _ HB10.out).mono ?_; clear HSU; rintro e w11 ⟨v1, rfl, rd1, hk1⟩; have HB11 : Hid (Below w10.heap.size w10 w11) := hk1; have cM1 := CSm.out _ _ w11 rd1 (HR0.out.below hk1); clear rd1 hk1) | (go_at_call 15; refine cM1.mono ?_; clear cM1; rintro e w12 ⟨rfl, hk2⟩; have HB12 : Hid (Below w10.heap.size w10 w12) := HB11.out.trans (hk2.mono HB11.out.size); clear hk2) | (go_at_call 14; refine (HSL.out _ (HB10.out.trans (HB12.out.mono HB10.out.size))).mono ?_; clear HSL; rintro e w13 ⟨v2, rfl, rd2, hk3⟩; have HB13 : Hid (Below w10.heap.size w10 w13) := HB12.out.trans (hk3.mono HB12.out.size); have cM2 := CSm.out _ _ w13 rd2 (HR0.out.below HB13.out); clear rd2 hk3) | (go_at_call 15; refine cM2.mono ?_; clear cM2; rintro e w14 ⟨rfl, hk4⟩; have HB14 : Hid (Below w10.heap.size w10 w14) := HB13.out.trans (hk4.mono HB13.out.size); clear hk4) | (go_at_call 14; refine (HSK.out _ (HB10.out.trans (HB14.out.mono HB10.out.size))).mono ?_; clear HSK; rintro e w15 ⟨v3, rfl, rd3, hk5⟩; have HB15 : Hid (Below w10.heap.size w10 w15) := HB14.out.trans (hk5.mono HB14.out.size); have cM3 := CSm.out _ _ w15 rd3 (HR0.out.below HB15.out); clear rd3 hk5) | (go_at_call 15; refine cM3.mono ?_; clear cM3; rintro e w16 ⟨rfl, hk6⟩; have HB16 : Hid (Below w10.heap.size w10 w16) := HB15.out.trans (hk6.mono HB15.out.size); clear hk6))
  clear HB11 HB12 HB13 HB14 HB15 CSm hb0 hb1 hb2 hb3 hb4 hb5 hb6 hb7 hb8 hb9
  go_loopw [7] (fun t wr => ∃ i : Nat, t = .int .i64 i ∧ i ≤ s.size + 1 ∧ Below w10.heap.size w10 wr) (fun t _ => s.size + 1 - (intOf t).toNat)
  case atStart => exact ⟨0, rfl, Nat.zero_le _, HB16.out⟩
  case round =>
    clear HB16
    obtain ⟨i, rfl, hi, hB⟩ := hrel
    by_cases hle : i ≤ s.size
    · have hBw := HB10.out.trans (hB.mono HB10.out.size)
      have HBR : Hid (Below w10.heap.size w10 wr) := hB
      have hle' : (i : Int) ≤ s.size := by omega
      cases hat : atB s i with
      | true =>
        obtain ⟨u1, u2⟩ := fm_atC gd_up hat
        obtain ⟨l1, l2⟩ := fm_atC gd_low hat
        have bU : atB U i = true := by rw [← HU'.out, fm_atB gd_up]; exact hat
        have bL : atB L i = true := by rw [← HL'.out, fm_atB gd_low]; exact hat
        rw [HU'.out] at u1 u2
        rw [HL'.out] at l1 l2
        have A1 : Hid (∀ W, Below wr.heap.size wr W → Calls Tryd.prog 16 #[.string s, .int .i64 i] W fun e w' => e = .returned (.tuple #[.agg #[.int .i32 (atC s i), .int .i64 (atS s i)], .bool true]) ∧ Below W.heap.size W w') := fun W hW => by
          have := CA.out s i (Nat.le_refl _) W (hBw.trans (hW.mono hBw.size))
          rwa [hat] at this
        have A2 : Hid (∀ W, Below wr.heap.size wr W → Calls Tryd.prog 16 #[.string U, .int .i64 i] W fun e w' => e = .returned (.tuple #[.agg #[.int .i32 (upc (atC s i)), .int .i64 (atS s i)], .bool true]) ∧ Below W.heap.size W w') := fun W hW => by
          have := CA.out U i (by omega) W (hBw.trans (hW.mono hBw.size))
          rwa [bU, u1, u2] at this
        have A3 : Hid (∀ W, Below wr.heap.size wr W → Calls Tryd.prog 16 #[.string L, .int .i64 i] W fun e w' => e = .returned (.tuple #[.agg #[.int .i32 (lowc (atC s i)), .int .i64 (atS s i)], .bool true]) ∧ Below W.heap.size W w') := fun W hW => by
          have := CA.out L i (by omega) W (hBw.trans (hW.mono hBw.size))
          rwa [bL, l1, l2] at this
        generalize atC s i = c at A1 A2 A3
        generalize atS s i = z at A1 A2 A3
        clear u1 u2 l1 l2 bU bL hat hBw CA hB
        go_wp2_with (first | (go_at_call 16; refine (A1.out _ (Below.refl _ _)).mono ?_; clear A1; rintro e w2 ⟨rfl, hb2⟩; have K2 : Hid (Below wr.heap.size wr (w2.alloc (.cells #[.int .i32 c, .int .i64 z] 33))) := hb2.alloc hb2.size _; clear hb2) | (go_at_call 16; refine (A2.out _ K2.out).mono ?_; clear A2; rintro e w3 ⟨rfl, hb3⟩; have K3 : Hid (Below (w2.alloc (.cells #[.int .i32 c, .int .i64 z] 33)).heap.size (w2.alloc (.cells #[.int .i32 c, .int .i64 z] 33)) (w3.alloc (.cells #[.int .i32 (upc c), .int .i64 z] 33))) := hb3.alloc hb3.size _; clear hb3) | (go_at_call 16; refine (A3.out _ (K2.out.trans (K3.out.mono K2.out.size))).mono ?_; clear A3; rintro e w4 ⟨rfl, hb4⟩; have K4 : Hid (Below (w3.alloc (.cells #[.int .i32 (upc c), .int .i64 z] 33)).heap.size (w3.alloc (.cells #[.int .i32 (upc c), .int .i64 z] 33)) (w4.alloc (.cells #[.int .i32 (lowc c), .int .i64 z] 33))) := hb4.alloc hb4.size _; clear hb4))
        obtain ⟨X, hX⟩ : ∃ X, w4.alloc (.cells #[.int .i32 (lowc c), .int .i64 z] 33) = X := ⟨_, rfl⟩
        have k4 := K4.out
        rw [hX] at k4
        have h3 : X.cell? ⟨w4.heap.size, 0, none⟩ = some (.int .i32 (lowc c)) := by rw [← hX]; simp
        have h2 : X.cell? ⟨w3.heap.size, 0, none⟩ = some (.int .i32 (upc c)) := by rw [k4.cell (p := ⟨w3.heap.size, 0, none⟩) (by simp)]; simp
        have h1 : X.cell? ⟨w2.heap.size, 0, none⟩ = some (.int .i32 c) := by
          have l3 := K3.out.size
          rw [k4.cell (p := ⟨w2.heap.size, 0, none⟩) (by simp at l3 ⊢; omega), K3.out.cell (p := ⟨w2.heap.size, 0, none⟩) (by simp)]; simp
        have q1 := cell_regrown h1
        have q2 := cell_regrown h2
        have q3 := cell_regrown h3
        have HX : Hid (Below wr.heap.size wr X) := K2.out.trans ((K3.out.trans (k4.mono K3.out.size)).mono K2.out.size)
        have cQ1 := regrown (W := X) (f := 7) (args := #[.int .i32 c]) (v := .int .i32 (upc c)) (fun W _ => upof_any c W)
        have cQ2 := regrown (W := X) (f := 8) (args := #[.int .i32 c]) (v := .int .i32 (lowc c)) (fun W _ => lowof_any c W)
        generalize upc c = uc at *
        generalize lowc c = lw at *
        rw [hX]
        clear hX h1 h2 h3 k4 K2 K3 K4
        refine wp_region_quiet_below HM.out (by kernel_rfl) ?_
        repeat (go_big_quiet_step (first | exact cQ1 _ _ | exact cQ2 _ _))
        refine wpQuiet_nil ?_
        intro _ hw'
        obtain ⟨⟨dq, osq⟩, hw''⟩ := hw'
        subst hw''
        have HZ : Hid (Below wr.heap.size wr (grow (redrawn X dq) osq)) := HX.out.trans ((below_regrown X dq osq).mono HX.out.size)
        clear cQ1 cQ2 q1 q2 q3 HX
        go_wp2
        exact ⟨⟨i + 1, by first | rfl | simp, by omega, HBR.out.trans (HZ.out.mono HBR.out.size)⟩, by simp [intOf]; omega⟩
      | false =>
        have bU : atB U i = false := by rw [← HU'.out, fm_atB gd_up]; exact hat
        have bL : atB L i = false := by rw [← HL'.out, fm_atB gd_low]; exact hat
        have A1 : Hid (∀ W, Below wr.heap.size wr W → Calls Tryd.prog 16 #[.string s, .int .i64 i] W fun e w' => e = .returned (.tuple #[.agg #[.int .i32 (atC s i), .int .i64 (atS s i)], .bool false]) ∧ Below W.heap.size W w') := fun W hW => by
          have := CA.out s i (Nat.le_refl _) W (hBw.trans (hW.mono hBw.size))
          rwa [hat] at this
        have A2 : Hid (∀ W, Below wr.heap.size wr W → Calls Tryd.prog 16 #[.string U, .int .i64 i] W fun e w' => e = .returned (.tuple #[.agg #[.int .i32 (atC U i), .int .i64 (atS U i)], .bool false]) ∧ Below W.heap.size W w') := fun W hW => by
          have := CA.out U i (by omega) W (hBw.trans (hW.mono hBw.size))
          rwa [bU] at this
        have A3 : Hid (∀ W, Below wr.heap.size wr W → Calls Tryd.prog 16 #[.string L, .int .i64 i] W fun e w' => e = .returned (.tuple #[.agg #[.int .i32 (atC L i), .int .i64 (atS L i)], .bool false]) ∧ Below W.heap.size W w') := fun W hW => by
          have := CA.out L i (by omega) W (hBw.trans (hW.mono hBw.size))
          rwa [bL] at this
        generalize atC s i = c1 at A1
        generalize atS s i = z1 at A1
        generalize atC U i = c2 at A2
        generalize atS U i = z2 at A2
        generalize atC L i = c3 at A3
        generalize atS L i = z3 at A3
        clear bU bL hat hBw CA hB
        go_wp2_with (first | (go_at_call 16; refine (A1.out _ (Below.refl _ _)).mono ?_; clear A1; rintro e w2 ⟨rfl, hb2⟩; have K2 : Hid (Below wr.heap.size wr (w2.alloc (.cells #[.int .i32 c1, .int .i64 z1] 33))) := hb2.alloc hb2.size _; clear hb2) | (go_at_call 16; refine (A2.out _ K2.out).mono ?_; clear A2; rintro e w3 ⟨rfl, hb3⟩; have K3 : Hid (Below (w2.alloc (.cells #[.int .i32 c1, .int .i64 z1] 33)).heap.size (w2.alloc (.cells #[.int .i32 c1, .int .i64 z1] 33)) (w3.alloc (.cells #[.int .i32 c2, .int .i64 z2] 33))) := hb3.alloc hb3.size _; clear hb3) | (go_at_call 16; refine (A3.out _ (K2.out.trans (K3.out.mono K2.out.size))).mono ?_; clear A3; rintro e w4 ⟨rfl, hb4⟩; have K4 : Hid (Below (w3.alloc (.cells #[.int .i32 c2, .int .i64 z2] 33)).heap.size (w3.alloc (.cells #[.int .i32 c2, .int .i64 z2] 33)) (w4.alloc (.cells #[.int .i32 c3, .int .i64 z3] 33))) := hb4.alloc hb4.size _; clear hb4))
        obtain ⟨X, hX⟩ : ∃ X, w4.alloc (.cells #[.int .i32 c3, .int .i64 z3] 33) = X := ⟨_, rfl⟩
        have k4 := K4.out
        rw [hX] at k4
        have HX : Hid (Below wr.heap.size wr X) := K2.out.trans ((K3.out.trans (k4.mono K3.out.size)).mono K2.out.size)
        rw [hX]
        clear hX k4 K2 K3 K4
        refine wp_region_quiet_below HM.out (by kernel_rfl) ?_
        repeat (go_big_quiet_step (fail))
        refine wpQuiet_nil ?_
        intro _ hw'
        obtain ⟨⟨dq, osq⟩, hw''⟩ := hw'
        subst hw''
        have HZ : Hid (Below wr.heap.size wr (grow (redrawn X dq) osq)) := HX.out.trans ((below_regrown X dq osq).mono HX.out.size)
        clear HX
        go_wp2
        exact ⟨⟨i + 1, by first | rfl | simp, by omega, HBR.out.trans (HZ.out.mono HBR.out.size)⟩, by simp [intOf]; omega⟩
    · have hgt : ¬ ((i : Int) ≤ s.size) := by omega
      have HBR : Hid (Below w10.heap.size w10 wr) := hB
      clear hB
      go_wp2
      go_loopw [14] (fun t wx => ∃ k : Nat, t = .int .i64 k ∧ k ≤ (words s).length ∧ Below w10.heap.size w10 wx) (fun t _ => (words s).length - (intOf t).toNat)
      case atStart => exact ⟨0, rfl, Nat.zero_le _, HBR.out⟩
      case round =>
        clear HBR
        obtain ⟨k, rfl, hk, hB⟩ := hrel
        have hBw := HB10.out.trans (hB.mono HB10.out.size)
        by_cases hlt : k < (words s).length
        · have hp : (words s)[k]? = some (words s)[k] := List.getElem?_eq_getElem hlt
          generalize (words s)[k] = p at hp
          have hpm := List.mem_of_getElem? hp
          obtain ⟨e1, e2, e3, e4, e5⟩ := word_B hpm
          obtain ⟨la', lc', hv, hg0⟩ := HR0.out
          cases hv
          obtain ⟨g, rfl, hgl, hcells⟩ := hg0 (fun e => by rw [e] at hp; simp at hp)
          obtain ⟨c0, c1⟩ := hcells k p hp
          have r0 : wr.cell? ⟨g, k * 2, none⟩ = some (.int .i64 p.1) := (hB.cell (p := ⟨g, k * 2, none⟩) hgl).trans c0
          have r1 : wr.cell? ⟨g, k * 2 + 1, none⟩ = some (.int .i64 p.2) := (hB.cell (p := ⟨g, k * 2 + 1, none⟩) hgl).trans c1
          have hgw : g < wr.heap.size := Nat.lt_of_lt_of_le hgl hB.size
          have HRD : Hid (∀ W, Below wr.heap.size wr W → W.cell? ⟨g, k * 2, none⟩ = some (.int .i64 p.1) ∧ W.cell? ⟨g, k * 2 + 1, none⟩ = some (.int .i64 p.2) ∧ g < W.heap.size) := fun W hW => ⟨(hW.cell (p := ⟨g, k * 2, none⟩) hgw).trans r0, (hW.cell (p := ⟨g, k * 2 + 1, none⟩) hgw).trans r1, Nat.lt_of_lt_of_le hgw hW.size⟩
          obtain ⟨b0, b1, b2⟩ := atB_of e1 e2
          have fU := fm_atC (g := fun _ => upc) gd_up b0
          have fK := fm_atC (g := capG (words s)) (gd_cap _) b0
          have gU := fm_atB (g := fun _ => upc) gd_up s p.1
          have gK := fm_atB (g := capG (words s)) (gd_cap _) s p.1
          rw [HU'.out, b1, b2] at fU
          rw [HU'.out, b0] at gU
          rw [HK'.out, b1, b2, at_start hpm] at fK
          rw [HK'.out, b0] at gK
          have A1 : Hid (∀ W, Below wr.heap.size wr W → Calls Tryd.prog 16 #[.string K, .int .i64 p.1] W fun e w' => e = .returned (.tuple #[.agg #[.int .i32 (upc (ch s p.1)), .int .i64 (sz s p.1)], .bool true]) ∧ Below W.heap.size W w') := fun W hW => by
            have := CA.out K p.1 (by omega) W (hBw.trans (hW.mono hBw.size))
            rwa [gK, fK.1, fK.2] at this
          have A2 : Hid (∀ W, Below wr.heap.size wr W → Calls Tryd.prog 16 #[.string U, .int .i64 p.1] W fun e w' => e = .returned (.tuple #[.agg #[.int .i32 (upc (ch s p.1)), .int .i64 (sz s p.1)], .bool true]) ∧ Below W.heap.size W w') := fun W hW => by
            have := CA.out U p.1 (by omega) W (hBw.trans (hW.mono hBw.size))
            rwa [gU, fU.1, fU.2] at this
          have HCL : Hid (K.extract (p.1 + sz s p.1) p.2 = L.extract (p.1 + sz s p.1) p.2) := by
            show _ = _
            have := cap_low hpm
            rwa [HK'.out, HL'.out] at this
          have hzi := sz_in e2
          have HBX : Hid (Below w10.heap.size w10 wr) := hB
          have hkl : (k : Int) < ((words s).length : Int) := by omega
          generalize upc (ch s p.1) = c at A1 A2
          generalize sz s p.1 = z at A1 A2 HCL e3 hzi
          clear hcells c0 c1 b0 b1 b2 fU fK gU gK hp hpm e1 e5 hB hBw CA hg0
          go_wp2_with (first | (go_at_call 16; refine (A1.out _ (Below.refl _ _)).mono ?_; clear A1; rintro e w2 ⟨rfl, hb2⟩; have K2 : Hid (Below wr.heap.size wr (w2.alloc (.cells #[.int .i32 c, .int .i64 z] 33))) := hb2.alloc hb2.size _; obtain ⟨s0, s1, s2⟩ := HRD.out w2 hb2; clear hb2) | (go_at_call 16; refine (A2.out _ K2.out).mono ?_; clear A2; rintro e w3 ⟨rfl, hb3⟩; have K3' : Hid (Below (w2.alloc (.cells #[.int .i32 c, .int .i64 z] 33)).heap.size (w2.alloc (.cells #[.int .i32 c, .int .i64 z] 33)) w3) := hb3; have o0 : w3.cell? ⟨w2.heap.size, 0, none⟩ = some (.int .i32 c) := (by rw [hb3.cell (p := ⟨w2.heap.size, 0, none⟩) (by simp)]; simp); have o1 : w3.cell? ⟨w2.heap.size, 1, none⟩ = some (.int .i64 z) := (by rw [hb3.cell (p := ⟨w2.heap.size, 1, none⟩) (by simp)]; simp); have o2 : w2.heap.size < w3.heap.size := (by have := hb3.size; simp at this; omega); clear hb3))
          obtain ⟨X, hX⟩ : ∃ X, w3.alloc (.cells #[.int .i32 c, .int .i64 z] 33) = X := ⟨_, rfl⟩
          have kX : Below wr.heap.size wr X := by rw [← hX]; exact (K2.out.trans (K3'.out.mono K2.out.size)).alloc (Nat.le_trans K2.out.size K3'.out.size) _
          obtain ⟨x0, x1, _⟩ := HRD.out X kX
          have x2 : X.cell? ⟨w2.heap.size, 1, none⟩ = some (.int .i64 z) := by
            rw [← hX, ((Below.refl _ w3).alloc (Nat.le_refl _) _).cell (p := ⟨w2.heap.size, 1, none⟩) o2]
            exact o1
          have q0 := cell_regrown x0
          have q1 := cell_regrown x1
          have q2 := cell_regrown x2
          have HX : Hid (Below wr.heap.size wr X) := kX
          have a1 : IntKind.i64.wrap ((p.1 : Int) + (z : Int)) = (p.1 : Int) + (z : Int) := by rw [IntKind.wrap_i64]; omega
          have a2 : ((p.1 : Int) + (z : Int)).toNat = p.1 + z := by omega
          have a3 : (0 : Int) ≤ (p.1 : Int) + (z : Int) := by omega
          have a4 : (p.1 : Int) + (z : Int) ≤ (p.2 : Int) := by omega
          have a5 : (p.2 : Int) ≤ (K.size : Int) := by omega
          have a6 : (p.2 : Int) ≤ (L.size : Int) := by omega
          have a7 : (k : Int).toNat = k := by omega
          have hcl := HCL.out
          rw [hX]
          clear hX x0 x1 x2 kX K2 K3' o0 o1 o2 s0 s1 s2 HRD HCL
          refine wp_region_quiet_below HM.out (by kernel_rfl) ?_
          repeat (go_big_quiet_step (fail))
          refine wpQuiet_nil ?_
          intro _ hw'
          obtain ⟨⟨dq, osq⟩, hw''⟩ := hw'
          subst hw''
          have HZ : Hid (Below wr.heap.size wr (grow (redrawn X dq) osq)) := HX.out.trans ((below_regrown X dq osq).mono HX.out.size)
          clear HX q0 q1 q2
          go_wp2
          exact ⟨⟨k + 1, by first | rfl | simp, by omega, HBX.out.trans (HZ.out.mono HBX.out.size)⟩, by simp [intOf]; omega⟩
        · have hkl : ¬ ((k : Int) < ((words s).length : Int)) := by omega
          clear HR0 CA
          go_wp2
          go_ret
          exact ⟨rfl, hBw⟩
theorem walk_of {H : Type} (s : ByteArray) (w : World) (hT : Lib.Utf8Tabs 0 1 w) (hlo0 : 0 < w.heap.size) (hlo1 : 1 < w.heap.size) (_hs : s.size ≤ 140737488351232) (hk : Rows.uptoSmall H ([DataW.lit (.string s.data.toList)] ++ []) = true) :
    Calls Tryd.prog 4 #[.string s] w fun e w' => e = .returned (.bool true) ∧ Below w.heap.size w w' := by
  have h : Rows.uptoBulkAll ([DataW.lit (H := H) (.string s.data.toList)] ++ []) ≤ 1048576 := of_decide_eq_true hk
  simp only [List.append_nil, Rows.uptoBulkAll, Rows.uptoBulk] at h
  exact walk s (by rw [Lib.size_eq]; omega) w hT hlo0 hlo1
end Go.Proofs.YtoijjkbnmicadabDoor.wordCased
