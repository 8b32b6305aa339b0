/-
  The walk of the law WordJoins: for every two texts it returns true: a line's end between them keeps them apart: words and forms are those of each. Conditions: the texts are so short that their lists can be made; the two tables of unicode/utf8 lie as their text lays them.
-/
import Derived.Test.YtoijjkbnmicadabDoorWLaw
import Derived.Test.YtoijjkbnmicadabDoorWMathK
import Derived.Lib.QuietBelow
import Derived.BigQuiet
namespace Go.Proofs.YtoijjkbnmicadabDoor.wordJoins
open Go.RowKit Go.Sort Bod Wid

/-- the first n of a list -/
theorem rd_take {W : World} {g cap : Nat} {l m : List (Nat × Nat)} (hg : g < W.heap.size) (h : ∀ k c, (l ++ m)[k]? = some c → W.cell? ⟨g, k * 2, none⟩ = some (.int .i64 c.1) ∧ W.cell? ⟨g, k * 2 + 1, none⟩ = some (.int .i64 c.2)) : Rd2 W (.slice (some ⟨g, 0, none⟩) l.length cap) l :=
  ⟨_, _, rfl, fun _ => ⟨g, rfl, hg, fun k c hk => h k c (by rw [List.getElem?_append_left (List.getElem?_eq_some_iff.1 hk).1]; exact hk)⟩⟩
/-- how a list of the call's own lies -/
theorem row_form {W : World} {B : Nat} {v : Value} {l : List (Nat × Nat)} (h : W.ownsRow B 37 2 v l.length (spc l)) : (v = .slice none 0 0 ∧ l = []) ∨ ∃ g cap, v = .slice (some ⟨g, 0, none⟩) l.length cap ∧ l.length ≤ cap ∧ g < W.heap.size ∧ ∀ k c, l[k]? = some c → W.cell? ⟨g, k * 2, none⟩ = some (.int .i64 c.1) ∧ W.cell? ⟨g, k * 2 + 1, none⟩ = some (.int .i64 c.2) := by
  rcases h.2 with ⟨h0, h1⟩ | ⟨g, cap, cur, hv, hb, hgb, hnc, hcm, hcs, ht⟩
  · exact .inl ⟨h0, List.length_eq_zero_iff.1 h1⟩
  · subst hv
    refine .inr ⟨g, cap, rfl, hnc, (h.lt g rfl).2, fun k c hk => ?_⟩
    have hkl : k < l.length := (List.getElem?_eq_some_iff.1 hk).1
    have hl := spc_len l
    obtain ⟨e0, e1⟩ := spc_get l k c hk
    exact ⟨(h.cellAt (k * 2) (by omega)).trans e0, (h.cellAt (k * 2 + 1) (by omega)).trans e1⟩

theorem row_sl2 {W : World} {B n : Nat} {v : Value} {xs : List Value} (h : W.ownsRow B 37 2 v n xs) : ∃ a cap, v = .slice a n cap := by
  rcases h.2 with ⟨h0, h1⟩ | ⟨g, cap, cur, hv, _⟩
  · exact ⟨_, _, by rw [h0, h1]⟩
  · exact ⟨_, _, hv⟩
theorem row_bel2 {W W' : World} {B n : Nat} {v : Value} {xs : List Value} (h : W.ownsRow B 37 2 v n xs) (hb : Below W.heap.size W W') : W'.ownsRow B 37 2 v n xs :=
  h.kept ⟨hb.os, hb.tape, hb.output, hb.size, fun k hk _ => hb.block k hk⟩ (row := none) (by cases v.ownBlock <;> simp)
set_option maxRecDepth 100000 in
set_option maxHeartbeats 8000000 in
theorem walk (a b : ByteArray) (hsa : a.size ≤ 1048576) (hsb : b.size ≤ 1048576) (w : World) (hT : Lib.Utf8Tabs 0 1 w) (hlo0 : 0 < w.heap.size) (hlo1 : 1 < w.heap.size) :
    Calls Tryd.prog 5 #[.string a, .string b] w fun e w' => e = .returned (.bool true) ∧ Below w.heap.size w w' := by
  have cA := awake_any w hT hlo0 hlo1
  have hM : Tryd.prog.follows .mixedOrders = true := by kernel_rfl
  have HM : Hid (Tryd.prog.follows .mixedOrders = true) := hM
  clear hM
  have TT : Hid (∀ W, Below w.heap.size w W → Lib.Utf8Tabs 0 1 W ∧ 0 < W.heap.size ∧ 1 < W.heap.size) := fun W hb => ⟨tabs_below hT hb, Nat.lt_of_lt_of_le hlo0 hb.size, Nat.lt_of_lt_of_le hlo1 hb.size⟩
  have CU : Hid (∀ (t r : ByteArray), t.size ≤ 4194304 → fm (fun _ => upc) t = r → ∀ W, Below w.heap.size w W → Calls Tryd.prog 11 #[.string t] W fun e w' => e = .returned (.string r) ∧ Below w.heap.size w w') := fun t r ht hr W hW => by
    obtain ⟨t1, t2, t3⟩ := TT.out W hW
    rw [← hr]
    exact (upper_any t (by unfold maxLen; omega) (by omega) W t1 t2 t3).mono fun e w' ⟨h1, h2⟩ => ⟨h1, hW.trans (h2.mono hW.size)⟩
  have CL : Hid (∀ (t r : ByteArray), t.size ≤ 4194304 → fm (fun _ => lowc) t = r → ∀ W, Below w.heap.size w W → Calls Tryd.prog 12 #[.string t] W fun e w' => e = .returned (.string r) ∧ Below w.heap.size w w') := fun t r ht hr W hW => by
    obtain ⟨t1, t2, t3⟩ := TT.out W hW
    rw [← hr]
    exact (lower_any t (by unfold maxLen; omega) (by omega) W t1 t2 t3).mono fun e w' ⟨h1, h2⟩ => ⟨h1, hW.trans (h2.mono hW.size)⟩
  have CC : Hid (∀ (t r : ByteArray), t.size ≤ 4194304 → fm (capG (words t)) t = r → ∀ W, Below w.heap.size w W → Calls Tryd.prog 13 #[.string t] W fun e w' => e = .returned (.string r) ∧ Below w.heap.size w w') := fun t r ht hr W hW => by
    obtain ⟨t1, t2, t3⟩ := TT.out W hW
    rw [← hr]
    exact (capital_any t (by unfold maxLen; omega) (by omega) W t1 t2 t3).mono fun e w' ⟨h1, h2⟩ => ⟨h1, hW.trans (h2.mono hW.size)⟩
  have CS : Hid (∀ (t : ByteArray) (l : List (Nat × Nat)), t.size ≤ 4194304 → words t = l → ∀ W, Below w.heap.size w W → Calls Tryd.prog 14 #[.string t] W fun e w' => ∃ v, e = .returned v ∧ w'.ownsRow W.heap.size 37 2 v l.length (spc l) ∧ Below W.heap.size W w') := fun t l ht hr W hW => by
    obtain ⟨t1, t2, t3⟩ := TT.out W hW
    have := spans_any t (by unfold maxLen; omega) (by omega) W t1 t2 t3
    rwa [hr] at this
  have hwa := words_len a
  have hwb := words_len b
  have hss : (a ++ ⟨#[10]⟩ ++ b).size ≤ 4194304 := by
    have h1 : (a ++ nl).size = a.size + 1 := size_app a nl
    have h2 : (a ++ nl ++ b).size = (a ++ nl).size + b.size := size_app _ _
    show (a ++ nl ++ b).size ≤ _
    omega
  have CSm : Hid (∀ v1 v2 W, Rd2 W v1 (words a) → Rd2 W v2 (words a) → Calls Tryd.prog 15 #[v1, v2] W fun e w' => e = .returned (.bool true) ∧ Below W.heap.size W w') := fun v1 v2 W h1 h2 => same_any (by omega) h1 h2
  obtain ⟨Ua, hUa⟩ : ∃ U, fm (fun _ => upc) a = U := ⟨_, rfl⟩
  obtain ⟨Ub, hUb⟩ : ∃ U, fm (fun _ => upc) b = U := ⟨_, rfl⟩
  obtain ⟨La, hLa⟩ : ∃ L, fm (fun _ => lowc) a = L := ⟨_, rfl⟩
  obtain ⟨Lb, hLb⟩ : ∃ L, fm (fun _ => lowc) b = L := ⟨_, rfl⟩
  obtain ⟨Ka, hKa⟩ : ∃ K, fm (capG (words a)) a = K := ⟨_, rfl⟩
  obtain ⟨Kb, hKb⟩ : ∃ K, fm (capG (words b)) b = K := ⟨_, rfl⟩
  have z1 : Ua.size = a.size := by rw [← hUa]; exact fm_size gd_up a
  have z2 : Ub.size = b.size := by rw [← hUb]; exact fm_size gd_up b
  have z3 : La.size = a.size := by rw [← hLa]; exact fm_size gd_low a
  have z4 : Lb.size = b.size := by rw [← hLb]; exact fm_size gd_low b
  have z5 : Ka.size = a.size := by rw [← hKa]; exact fm_size (gd_cap _) a
  have z6 : Kb.size = b.size := by rw [← hKb]; exact fm_size (gd_cap _) b
  have zn : (⟨#[10]⟩ : ByteArray).size = 1 := rfl
  have HU0 : Hid (∀ W, Below w.heap.size w W → Calls Tryd.prog 11 #[.string (a ++ ⟨#[10]⟩ ++ b)] W fun e w' => e = .returned (.string (Ua ++ ⟨#[10]⟩ ++ Ub)) ∧ Below w.heap.size w w') := CU.out _ _ hss (by rw [← hUa, ← hUb]; exact up_join a b)
  have HU1 : Hid (∀ W, Below w.heap.size w W → Calls Tryd.prog 11 #[.string a] W fun e w' => e = .returned (.string Ua) ∧ Below w.heap.size w w') := CU.out _ _ (by omega) hUa
  have HU2 : Hid (∀ W, Below w.heap.size w W → Calls Tryd.prog 11 #[.string b] W fun e w' => e = .returned (.string Ub) ∧ Below w.heap.size w w') := CU.out _ _ (by omega) hUb
  have HL0 : Hid (∀ W, Below w.heap.size w W → Calls Tryd.prog 12 #[.string (a ++ ⟨#[10]⟩ ++ b)] W fun e w' => e = .returned (.string (La ++ ⟨#[10]⟩ ++ Lb)) ∧ Below w.heap.size w w') := CL.out _ _ hss (by rw [← hLa, ← hLb]; exact low_join a b)
  have HL1 : Hid (∀ W, Below w.heap.size w W → Calls Tryd.prog 12 #[.string a] W fun e w' => e = .returned (.string La) ∧ Below w.heap.size w w') := CL.out _ _ (by omega) hLa
  have HL2 : Hid (∀ W, Below w.heap.size w W → Calls Tryd.prog 12 #[.string b] W fun e w' => e = .returned (.string Lb) ∧ Below w.heap.size w w') := CL.out _ _ (by omega) hLb
  have HK0 : Hid (∀ W, Below w.heap.size w W → Calls Tryd.prog 13 #[.string (a ++ ⟨#[10]⟩ ++ b)] W fun e w' => e = .returned (.string (Ka ++ ⟨#[10]⟩ ++ Kb)) ∧ Below w.heap.size w w') := CC.out _ _ hss (by rw [← hKa, ← hKb]; exact cap_join a b)
  have HK1 : Hid (∀ W, Below w.heap.size w W → Calls Tryd.prog 13 #[.string a] W fun e w' => e = .returned (.string Ka) ∧ Below w.heap.size w w') := CC.out _ _ (by omega) hKa
  have HK2 : Hid (∀ W, Below w.heap.size w W → Calls Tryd.prog 13 #[.string b] W fun e w' => e = .returned (.string Kb) ∧ Below w.heap.size w w') := CC.out _ _ (by omega) hKb
  have HS0 : Hid (∀ W, Below w.heap.size w W → Calls Tryd.prog 14 #[.string (a ++ ⟨#[10]⟩ ++ b)] W fun e w' => ∃ v, e = .returned v ∧ w'.ownsRow W.heap.size 37 2 v (words a ++ (words b).map (shw (a.size + 1))).length (spc (words a ++ (words b).map (shw (a.size + 1)))) ∧ Below W.heap.size W w') := CS.out _ _ hss (words_join a b)
  have HS1 : Hid (∀ W, Below w.heap.size w W → Calls Tryd.prog 14 #[.string a] W fun e w' => ∃ v, e = .returned v ∧ w'.ownsRow W.heap.size 37 2 v (words a).length (spc (words a)) ∧ Below W.heap.size W w') := CS.out _ _ (by omega) rfl
  have HS2 : Hid (∀ W, Below w.heap.size w W → Calls Tryd.prog 14 #[.string b] W fun e w' => ∃ v, e = .returned v ∧ w'.ownsRow W.heap.size 37 2 v (words b).length (spc (words b)) ∧ Below W.heap.size W w') := CS.out _ _ (by omega) rfl
  have HYB : Hid (∀ y ∈ words b, y.1 ≤ 4194304 ∧ y.2 ≤ 4194304) := fun y hy => by have := words_mem hy; omega
  generalize words a = xs at *
  generalize words b = ys at *
  clear CU CL CC CS hUa hUb hLa hLb hKa hKb hT hlo0 hlo1 TT
  have hlen : (xs ++ ys.map (shw (a.size + 1))).length = xs.length + ys.length := by rw [List.length_append, List.length_map]
  have HLN : Hid ((xs ++ ys.map (shw (a.size + 1))).length = xs.length + ys.length) := hlen
  clear hlen
  go_enter Tryd.func5, Tryd.ntmps5
  go_wp2_with (first | (go_at_call 6; refine cA.mono ?_; clear cA; rintro e w0 ⟨rfl, hb0⟩) | (go_at_call 14; refine (HS0.out _ hb0).mono ?_; clear HS0; rintro e w1 ⟨lv, rfl, rw1, hk1⟩; rw [HLN.out] at rw1; obtain ⟨la, lc, rfl⟩ := row_sl2 rw1; have HB1 : Hid (Below w.heap.size w w1) := hb0.trans (hk1.mono hb0.size); have HW1 : Hid (w1.ownsRow w0.heap.size 37 2 (.slice la (xs.length + ys.length) lc) (xs.length + ys.length) (spc (xs ++ ys.map (shw (a.size + 1))))) := rw1; clear rw1 hk1) | (go_at_call 14; refine (HS1.out _ HB1.out).mono ?_; clear HS1; rintro e w2 ⟨xv, rfl, rw2, hk2⟩; obtain ⟨xa, xc, rfl⟩ := row_sl2 rw2; have HK2' : Hid (Below w1.heap.size w1 w2) := hk2; have HW2 : Hid (w2.ownsRow w1.heap.size 37 2 (.slice xa xs.length xc) xs.length (spc xs)) := rw2; clear rw2 hk2) | (go_at_call 14; refine (HS2.out _ (HB1.out.trans (HK2'.out.mono HB1.out.size))).mono ?_; clear HS2; rintro e w3 ⟨yv, rfl, rw3, hk3⟩; obtain ⟨ya, yc, rfl⟩ := row_sl2 rw3; have HK3' : Hid (Below w2.heap.size w2 w3) := hk3; have HW3 : Hid (w3.ownsRow w2.heap.size 37 2 (.slice ya ys.length yc) ys.length (spc ys)) := rw3; clear rw3 hk3))
  have HB13' : Hid (Below w1.heap.size w1 w3) := HK2'.out.trans (HK3'.out.mono HK2'.out.size)
  have HBW3 : Hid (Below w.heap.size w w3) := HB1.out.trans (HB13'.out.mono HB1.out.size)
  have FL : Hid ((la = none ∧ lc = 0 ∧ xs ++ ys.map (shw (a.size + 1)) = []) ∨ ∃ g, la = some ⟨g, 0, none⟩ ∧ xs.length + ys.length ≤ lc ∧ g < w3.heap.size ∧ ∀ k c, (xs ++ ys.map (shw (a.size + 1)))[k]? = some c → w3.cell? ⟨g, k * 2, none⟩ = some (.int .i64 c.1) ∧ w3.cell? ⟨g, k * 2 + 1, none⟩ = some (.int .i64 c.2)) := by
    have hr := row_bel2 HW1.out HB13'.out
    rw [← HLN.out] at hr
    rcases row_form hr with ⟨h1, h2⟩ | ⟨g, cap, h1, h2, h3, h4⟩
    · injection h1 with e1 e2 e3
      exact .inl ⟨e1, e3, h2⟩
    · injection h1 with e1 e2 e3
      subst e1 e3
      exact .inr ⟨g, rfl, by rw [HLN.out] at h2; exact h2, h3, h4⟩
  have FX : Hid (Rd2 w3 (.slice xa xs.length xc) xs) := Rd2.of_row (row_bel2 HW2.out HK3'.out)
  have FY : Hid (ys ≠ [] → ∃ g, ya = some ⟨g, 0, none⟩ ∧ g < w3.heap.size ∧ ∀ k c, ys[k]? = some c → w3.cell? ⟨g, k * 2, none⟩ = some (.int .i64 c.1) ∧ w3.cell? ⟨g, k * 2 + 1, none⟩ = some (.int .i64 c.2)) := by
    obtain ⟨a', c', e, h⟩ := Rd2.of_row HW3.out
    injection e with e1 e2 e3
    subst e1
    exact h
  clear HW1 HW2 HW3 HK2' HK3' HB1 HB13' hb0
  go_loopw [9] (fun t wr => ∃ i : Nat, t = .int .i64 i ∧ i ≤ ys.length ∧ Below w3.heap.size w3 wr) (fun t _ => ys.length - (intOf t).toNat)
  case atStart => exact ⟨0, rfl, Nat.zero_le _, Below.refl _ _⟩
  case round =>
    obtain ⟨i, rfl, hi, hB⟩ := hrel
    by_cases hlt : i < ys.length
    · have hy : ys[i]? = some ys[i] := List.getElem?_eq_getElem hlt
      generalize ys[i] = y at hy
      have hl : (xs ++ ys.map (shw (a.size + 1)))[xs.length + i]? = some (shw (a.size + 1) y) := by
        rw [List.getElem?_append_right (by omega), Nat.add_sub_cancel_left, List.getElem?_map, hy]; rfl
      obtain ⟨gy, rfl, hgy, cy⟩ := FY.out (fun e => by rw [e] at hy; simp at hy)
      rcases FL.out with ⟨_, _, e⟩ | ⟨gl, rfl, hcap, hgl, cl'⟩
      · rw [e] at hl; simp at hl
      obtain ⟨y0, y1⟩ := cy i y hy
      obtain ⟨l0, l1⟩ := cl' _ _ hl
      have hyb : y.1 ≤ 4194304 ∧ y.2 ≤ 4194304 := HYB.out y (List.mem_of_getElem? hy)
      have e0 : (((shw (a.size + 1) y).1 : Nat) : Int) = (y.1 : Int) + (a.size : Int) + 1 := by show ((y.1 + (a.size + 1) : Nat) : Int) = _; omega
      have e1 : (((shw (a.size + 1) y).2 : Nat) : Int) = (y.2 : Int) + (a.size : Int) + 1 := by show ((y.2 + (a.size + 1) : Nat) : Int) = _; omega
      rw [e0] at l0
      rw [e1] at l1
      have q0 := cell_regrown ((hB.cell (p := ⟨gy, i * 2, none⟩) hgy).trans y0)
      have q1 := cell_regrown ((hB.cell (p := ⟨gy, i * 2 + 1, none⟩) hgy).trans y1)
      have q2 := cell_regrown ((hB.cell (p := ⟨gl, (xs.length + i) * 2, none⟩) hgl).trans l0)
      have q3 := cell_regrown ((hB.cell (p := ⟨gl, (xs.length + i) * 2 + 1, none⟩) hgl).trans l1)
      have a1 : IntKind.i64.wrap ((xs.length : Int) + (i : Int)) = (xs.length : Int) + (i : Int) := by rw [IntKind.wrap_i64]; omega
      have a2 : ((xs.length : Int) + (i : Int)).toNat = xs.length + i := by omega
      have a3 : (0 : Int) ≤ (xs.length : Int) + (i : Int) := by omega
      have a4 : (xs.length : Int) + (i : Int) < (xs.length : Int) + (ys.length : Int) := by omega
      have a5 : (i : Int) < (ys.length : Int) := by omega
      have b1 : IntKind.i64.wrap ((y.1 : Int) + (a.size : Int)) = (y.1 : Int) + (a.size : Int) := by rw [IntKind.wrap_i64]; omega
      have b2 : IntKind.i64.wrap ((y.1 : Int) + (a.size : Int) + 1) = (y.1 : Int) + (a.size : Int) + 1 := by rw [IntKind.wrap_i64]; omega
      have b3 : IntKind.i64.wrap ((y.2 : Int) + (a.size : Int)) = (y.2 : Int) + (a.size : Int) := by rw [IntKind.wrap_i64]; omega
      have b4 : IntKind.i64.wrap ((y.2 : Int) + (a.size : Int) + 1) = (y.2 : Int) + (a.size : Int) + 1 := by rw [IntKind.wrap_i64]; omega
      have HB : Hid (Below w3.heap.size w3 wr) := hB
      clear cy cl' y0 y1 l0 l1 e0 e1 hl hy hB FX FY FL CSm HU0 HU1 HU2 HL0 HL1 HL2 HK0 HK1 HK2
      go_wp2
      refine wp_region_quiet_below HM.out (by kernel_rfl) ?_
      repeat (go_big_quiet_step (fail))
      refine wpQuiet_nil ?_
      intro _ hw'
      obtain ⟨⟨dq, osq⟩, hw''⟩ := hw'
      subst hw''
      have HZ : Hid (Below wr.heap.size wr (grow (redrawn wr dq) osq)) := below_regrown wr dq osq
      clear q0 q1 q2 q3
      go_wp2
      exact ⟨⟨i + 1, by first | rfl | simp, by omega, HB.out.trans (HZ.out.mono HB.out.size)⟩, by simp [intOf]; omega⟩
    · have hnl : ¬ ((i : Int) < (ys.length : Int)) := by omega
      have hBw : Below w.heap.size w wr := HBW3.out.trans (hB.mono HBW3.out.size)
      have rx := FX.out.below hB
      rcases FL.out with ⟨h1, h2, e⟩ | ⟨gl, h1, hcap, hgl, cl'⟩
      · have ex : xs = [] := (List.append_eq_nil_iff.1 e).1
        have ey : ys = [] := by have := (List.append_eq_nil_iff.1 e).2; simpa using this
        subst ex ey h1 h2
        have cM := CSm.out (.slice none 0 0) _ wr ⟨none, 0, rfl, fun h => absurd rfl h⟩ rx
        clear FX FY FL rx CSm HLN e
        go_wp2_with (first | (go_at_call 15; refine cM.mono ?_; clear cM; rintro e w4 ⟨rfl, hk4⟩; have hb4 : Below w.heap.size w w4 := hBw.trans (hk4.mono hBw.size); clear hk4) | (go_at_call 11; refine (HU0.out _ hb4).mono ?_; clear HU0; rintro e w5 ⟨rfl, hb5⟩) | (go_at_call 11; guard_target = Calls _ _ _ w5 _; refine (HU1.out _ hb5).mono ?_; clear HU1; rintro e w6 ⟨rfl, hb6⟩) | (go_at_call 11; refine (HU2.out _ hb6).mono ?_; clear HU2; rintro e w7 ⟨rfl, hb7⟩) | (go_at_call 12; refine (HL0.out _ hb7).mono ?_; clear HL0; rintro e w8 ⟨rfl, hb8⟩) | (go_at_call 12; guard_target = Calls _ _ _ w8 _; refine (HL1.out _ hb8).mono ?_; clear HL1; rintro e w9 ⟨rfl, hb9⟩) | (go_at_call 12; refine (HL2.out _ hb9).mono ?_; clear HL2; rintro e w10 ⟨rfl, hb10⟩) | (go_at_call 13; refine (HK0.out _ hb10).mono ?_; clear HK0; rintro e w11 ⟨rfl, hb11⟩) | (go_at_call 13; guard_target = Calls _ _ _ w11 _; refine (HK1.out _ hb11).mono ?_; clear HK1; rintro e w12 ⟨rfl, hb12⟩) | (go_at_call 13; refine (HK2.out _ hb12).mono ?_; clear HK2; rintro e w13 ⟨rfl, hb13⟩))
        go_ret
        exact ⟨rfl, hb13⟩
      · subst h1
        have cM := CSm.out (.slice (some ⟨gl, 0, none⟩) xs.length lc) _ wr (rd_take (m := ys.map (shw (a.size + 1))) (Nat.lt_of_lt_of_le hgl hB.size) (fun k c hk => ⟨(hB.cell (p := ⟨gl, k * 2, none⟩) hgl).trans (cl' k c hk).1, (hB.cell (p := ⟨gl, k * 2 + 1, none⟩) hgl).trans (cl' k c hk).2⟩)) rx
        have hxc : xs.length ≤ lc := by omega
        clear FX FY FL rx CSm HLN cl'
        go_wp2_with (first | (go_at_call 15; refine cM.mono ?_; clear cM; rintro e w4 ⟨rfl, hk4⟩; have hb4 : Below w.heap.size w w4 := hBw.trans (hk4.mono hBw.size); clear hk4) | (go_at_call 11; refine (HU0.out _ hb4).mono ?_; clear HU0; rintro e w5 ⟨rfl, hb5⟩) | (go_at_call 11; guard_target = Calls _ _ _ w5 _; refine (HU1.out _ hb5).mono ?_; clear HU1; rintro e w6 ⟨rfl, hb6⟩) | (go_at_call 11; refine (HU2.out _ hb6).mono ?_; clear HU2; rintro e w7 ⟨rfl, hb7⟩) | (go_at_call 12; refine (HL0.out _ hb7).mono ?_; clear HL0; rintro e w8 ⟨rfl, hb8⟩) | (go_at_call 12; guard_target = Calls _ _ _ w8 _; refine (HL1.out _ hb8).mono ?_; clear HL1; rintro e w9 ⟨rfl, hb9⟩) | (go_at_call 12; refine (HL2.out _ hb9).mono ?_; clear HL2; rintro e w10 ⟨rfl, hb10⟩) | (go_at_call 13; refine (HK0.out _ hb10).mono ?_; clear HK0; rintro e w11 ⟨rfl, hb11⟩) | (go_at_call 13; guard_target = Calls _ _ _ w11 _; refine (HK1.out _ hb11).mono ?_; clear HK1; rintro e w12 ⟨rfl, hb12⟩) | (go_at_call 13; refine (HK2.out _ hb12).mono ?_; clear HK2; rintro e w13 ⟨rfl, hb13⟩))
        go_ret
        exact ⟨rfl, hb13⟩
theorem walk_of {H : Type} (a b : ByteArray) (w : World) (hT : Lib.Utf8Tabs 0 1 w) (hlo0 : 0 < w.heap.size) (hlo1 : 1 < w.heap.size) (_ha : a.size ≤ 140737488351232) (_hb : b.size ≤ 140737488351232) (hk : Rows.uptoSmall H ([DataW.lit (.string a.data.toList), DataW.lit (.string b.data.toList)] ++ []) = true) :
    Calls Tryd.prog 5 #[.string a, .string b] w fun e w' => e = .returned (.bool true) ∧ Below w.heap.size w w' := by
  have h : Rows.uptoBulkAll ([DataW.lit (H := H) (.string a.data.toList), DataW.lit (.string b.data.toList)] ++ []) ≤ 1048576 := of_decide_eq_true hk
  simp only [List.append_nil, Rows.uptoBulkAll, Rows.uptoBulk] at h
  exact walk a b (by rw [Lib.size_eq]; omega) (by rw [Lib.size_eq]; omega) w hT hlo0 hlo1
end Go.Proofs.YtoijjkbnmicadabDoor.wordJoins
