/-
  The walk of the law LayoutFits: no row of a frame is longer than its width, none ends with a blank cell, wide cells stand with their halves, and each cell's text is one cluster that is drawn as itself. Conditions: those of walk_of.
-/
import Derived.Deep.CutRange
import Derived.Test.YtojkpkokjkjeeabDoorOFit
import Derived.Test.YtojkpkokjkjeeabDoorOAwk
import Derived.Test.YtojkpkokjkjeeabDoorOArg
namespace Go.Proofs.YtojkpkokjkjeeabDoor.layoutFits
open Go.RowKit Go.Shelf Bod Wid
set_option maxRecDepth 100000 in
set_option maxHeartbeats 1000000 in
theorem wid_any (x : Int) (w : World) : Calls Tryd.prog 8 #[.int .i64 x] w fun e w' => e = .returned (.int .i64 (couW x)) ∧ w = w' := by
  unfold couW
  go_enter Tryd.func8, Tryd.ntmps8
  go_wp2
  go_ret
  exact ⟨rfl, rfl⟩
theorem cell_rgO {W : World} {p : Addr} {v : Value} (h : W.cell? p = some v) : ∀ d os, (Go.Sort.grow (redrawn W d) os).cell? p = some v := fun d os => ((below_regrown W d os).cell (p := p) (World.block_lt_of_cell? W p h)).trans h
theorem call_rgO {f : Nat} {args : Array Value} {v : Value} {W : World} (h : ∀ w, Below W.heap.size W w → Calls Tryd.prog f args w fun e w' => e = .returned v ∧ Below w.heap.size w w') :
    ∀ d os, Calls Tryd.prog f args (Go.Sort.grow (redrawn W d) os) fun e w'' => e = .returned v ∧ ∃ p : Regrown, w'' = Go.Sort.grow (redrawn W p.d) p.os := fun d os => Calls.regrown_of (h _ (below_regrown W d os))
set_option maxRecDepth 100000 in
set_option maxHeartbeats 4000000 in
theorem walk (hM : Tryd.prog.follows .mixedOrders = true) (prompt text : ByteArray) (cur W0 : Int) (hp : prompt.size ≤ 1048576) (ht : text.size ≤ 1048576) (w : World) (hT : Lib.Utf8Tabs 0 1 w) (hlo0 : 0 < w.heap.size) (hlo1 : 1 < w.heap.size) :
    Calls Tryd.prog 3 #[.agg #[.string prompt, .string text, .int .i64 cur, .int .i64 W0]] w fun e w' => e = .returned (.bool true) ∧ Below w.heap.size w w' := by
  obtain ⟨Wn, hW⟩ : ∃ Wn : Nat, (Wn : Int) = couW W0 := ⟨(couW W0).toNat, by have := couW_in W0; omega⟩
  have hWb := couW_in W0
  have hW1 : 1 ≤ Wn := by omega
  have hW2 : Wn ≤ 65535 := by omega
  obtain ⟨R, hR⟩ : ∃ R, (layL Wn (layL Wn lst0 (cus prompt (cl prompt))) (cus text (cl text))).all.map trmL = R := ⟨_, rfl⟩
  have h2 : ∀ s : ByteArray, ∀ u ∈ cus s (cl s), u.n ≤ 2 := fun s u hu => by
    obtain ⟨c, hc, rfl⟩ := List.mem_map.1 hu
    exact (cuOf_n hc).1
  have hpc : PcS (layL Wn (layL Wn lst0 (cus prompt (cl prompt))) (cus text (cl text))) := layL_pc (fun _ h => h) (layL_pc (fun _ h => h) lst0_pc)
  have hna : Nar Wn (layL Wn (layL Wn lst0 (cus prompt (cl prompt))) (cus text (cl text))) := layL_nar hW1 (h2 text) (layL_ok hW1 (h2 prompt) (lst0_ok hW1)) (layL_nar hW1 (h2 prompt) (lst0_ok hW1) (lst0_nar _))
  have hsz : ∀ r ∈ (layL Wn (layL Wn lst0 (cus prompt (cl prompt))) (cus text (cl text))).all, ∀ c ∈ r, c.tx.size ≤ 1048579 := layL_cells (fun u hu c hc => Nat.le_trans (put_size u hu c hc) (by omega)) (layL_cells (fun u hu c hc => Nat.le_trans (put_size u hu c hc) (by omega)) (fun r hr c hc => by simp [Lst.all, lst0] at hr; subst hr; cases hc))
  have HRL : Hid (∀ l ∈ R, l.length ≤ Wn ∧ PcR l ∧ (∀ c, l.getLast? = some c → blkC c = false) ∧ ∀ c ∈ l, c.tx.size ≤ 1048579) := fun l hl => by
    rw [← hR] at hl
    obtain ⟨q, hq, rfl⟩ := List.mem_map.1 hl
    exact ⟨Nat.le_trans (trm_le q) (hna q hq), trm_pc (hpc q hq), fun c hc => trm_last q hc, fun c hc => hsz q hq c (trm_mem hc)⟩
  obtain ⟨N, hN⟩ : ∃ N, R.length = N := ⟨_, rfl⟩
  have HN : Hid (R.length = N ∧ N ≤ 16777216) := ⟨hN, by
    have h1 := layL_rows (W := Wn) (l := cus prompt (cl prompt)) (s := lst0)
    have h3 := layL_rows (W := Wn) (l := cus text (cl text)) (s := layL Wn lst0 (cus prompt (cl prompt)))
    have e1 : (lst0).rows.length = 0 := rfl
    have e2 : (cus prompt (cl prompt)).length = (cl prompt).length := by simp [cus]
    have e3 : (cus text (cl text)).length = (cl text).length := by simp [cus]
    have e4 := cl_len prompt
    have e5 := cl_len text
    rw [← hN, ← hR, List.length_map, Lst.all_len]
    show (layL Wn (layL Wn lst0 (cus prompt (cl prompt))) (cus text (cl text))).rows.length + 1 ≤ _
    omega⟩
  have CA : Hid (∀ X, Below w.heap.size w X → Calls Tryd.prog 6 #[] X fun e w' => e = .returned (.bool true) ∧ Hid (Below X.heap.size X w')) := fun X hX => awk_any hM X (tabs_below hT hX) (Nat.lt_of_lt_of_le hlo0 hX.size) (Nat.lt_of_lt_of_le hlo1 hX.size)
  have CL : Hid (∀ X, Below w.heap.size w X → Calls Tryd.prog 7 #[.string prompt, .string text, .int .i64 cur, .int .i64 W0] X fun e Y => ∃ oa ok r c, e = .returned (.agg #[.int .i64 Wn, .slice oa N ok, .int .i64 r, .int .i64 c]) ∧ Hid (Fr X (.slice oa N ok) R Y ∧ Below X.heap.size X Y)) := fun X hX =>
    (lay0_any hM prompt text cur W0 (by omega) (by omega) X (tabs_below hT hX) (Nat.lt_of_lt_of_le hlo0 hX.size) (Nat.lt_of_lt_of_le hlo1 hX.size) Wn hW).mono fun e Y ⟨ov, he, HF⟩ => by
      obtain ⟨hf, hb⟩ := HF.out
      rw [hR] at hf
      obtain ⟨oa, ok, ho⟩ := hf.len
      rw [hN] at ho
      subst ho
      exact ⟨oa, ok, _, _, he, hf, hb⟩
  have CW : Hid (∀ X, Calls Tryd.prog 8 #[.int .i64 W0] X fun e w' => e = .returned (.int .i64 Wn) ∧ X = w') := fun X => by rw [hW]; exact wid_any W0 X
  have CG : Hid (∀ (t : ByteArray) (n : Int) (X : World), Gn t n → t.size ≤ 4194304 → Below w.heap.size w X → Calls Tryd.prog 9 #[.string t] X (fun e w' => e = .returned (.int .i64 1) ∧ Below X.heap.size X w') ∧ Calls Tryd.prog 10 #[.string t] X (fun e w' => e = .returned (.int .i64 n) ∧ Below X.heap.size X w') ∧ Calls Tryd.prog 11 #[.string t] X (fun e w' => e = .returned (.string t) ∧ Below X.heap.size X w')) := fun t n X hg hs hX => by
    have a1 := tabs_below hT hX
    have a2 := Nat.lt_of_lt_of_le hlo0 hX.size
    have a3 := Nat.lt_of_lt_of_le hlo1 hX.size
    have c1 := count_any t (by unfold maxLen; omega) X a1 a2 a3
    have c2 := ccells_any t (by unfold maxLen; omega) (by omega) X a1 a2 a3
    have c3 := drawn_any t (by unfold maxLen; omega) (by omega) X a1 a2 a3
    rw [hg.1] at c1
    rw [hg.2.1] at c2
    rw [hg.2.2] at c3
    exact ⟨c1, c2, c3⟩
  have HM : Hid (Tryd.prog.follows .mixedOrders = true) := hM
  have HWN : Hid (Wn ≤ 65535) := hW2
  have HB0 : Hid (Below w.heap.size w (w.alloc (.cells #[.string prompt, .string text, .int .i64 cur, .int .i64 W0] 23)) ∧ (w.alloc (.cells #[.string prompt, .string text, .int .i64 cur, .int .i64 W0] 23)).heap[w.heap.size]? = some (.cells #[.string prompt, .string text, .int .i64 cur, .int .i64 W0] 23 (0, 0))) := ⟨(Below.refl _ w).alloc (Nat.le_refl _) _, World.alloc_heap_new _ _⟩
  clear hsz hM hT hW hWb hW1 hW2 hpc hna h2 hR hN hp ht
  go_enter Tryd.func3, Tryd.ntmps3
  go_wp2_with (first | (go_at_call 6; refine (CA.out _ HB0.out.1).mono ?_; clear CA; rintro e w1 ⟨rfl, HB1⟩; have hx1 : w1.heap[w.heap.size]? = some (.cells #[.string prompt, .string text, .int .i64 cur, .int .i64 W0] 23 (0, 0)) := (HB1.out.block _ (by simp)).trans HB0.out.2; obtain ⟨⟨x0, x1, x2, x3⟩, -⟩ := box4 hx1; have HX1 : Hid (Below w.heap.size w w1 ∧ w1.heap[w.heap.size]? = some (.cells #[.string prompt, .string text, .int .i64 cur, .int .i64 W0] 23 (0, 0))) := ⟨HB0.out.1.trans (HB1.out.mono HB0.out.1.size), hx1⟩; clear hx1) | (go_at_call 7; refine (CL.out _ HX1.out.1).mono ?_; clear CL x0 x1 x2 x3; rintro e w2 ⟨oa, ok, r, c, rfl, HF⟩))
  have HV0 : Hid (Below w2.heap.size w2 (w2.alloc (.cells #[.int .i64 Wn, .slice oa N ok, .int .i64 r, .int .i64 c] 29)) ∧ (w2.alloc (.cells #[.int .i64 Wn, .slice oa N ok, .int .i64 r, .int .i64 c] 29)).heap[w2.heap.size]? = some (.cells #[.int .i64 Wn, .slice oa N ok, .int .i64 r, .int .i64 c] 29 (0, 0))) := ⟨(Below.refl _ w2).alloc (Nat.le_refl _) _, World.alloc_heap_new _ _⟩
  obtain ⟨fb, hfb⟩ : ∃ fb, w2.heap.size = fb := ⟨_, rfl⟩
  rw [hfb] at HV0 ⊢
  generalize w2.alloc (.cells #[.int .i64 Wn, .slice oa N ok, .int .i64 r, .int .i64 c] 29) = V at HV0 ⊢
  have HVW : Hid (Below w.heap.size w V) := (HX1.out.1.trans (HF.out.2.mono HX1.out.1.size)).trans (HV0.out.1.mono (by have := HX1.out.1.size; have := HF.out.2.size; omega))
  have HA : Hid (∀ Y, Below V.heap.size V Y → Y.cell? ⟨fb, 1, none⟩ = some (.slice oa N ok) ∧ Y.cell? ⟨w.heap.size, 3, none⟩ = some (.int .i64 W0)) := fun Y hY => by
    have e1 := (hY.block _ (Array.getElem?_eq_some_iff.1 HV0.out.2).1).trans HV0.out.2
    have hx2 := (HF.out.2.block _ (Array.getElem?_eq_some_iff.1 HX1.out.2).1).trans HX1.out.2
    have hx3 := (HV0.out.1.block _ (by have := (Array.getElem?_eq_some_iff.1 hx2).1; omega)).trans hx2
    have e2 := (hY.block _ (Array.getElem?_eq_some_iff.1 hx3).1).trans hx3
    exact ⟨(box4 e1).1.2.1, (box4 e2).1.2.2.2⟩
  have HI : Hid (∀ (i : Nat) (l : List Cel), R[i]? = some l → ∃ og a k, oa = some ⟨og, 0, none⟩ ∧ ∀ Y, Below V.heap.size V Y → Y.cell? ⟨og, i, none⟩ = some (.slice a l.length k) ∧ ∀ (j : Nat) (c : Cel), l[j]? = some c → ∃ g, a = some ⟨g, 0, none⟩ ∧ ∀ Z, Below V.heap.size V Z → Z.cell? ⟨g, j * 2, none⟩ = some (.string c.tx) ∧ Z.cell? ⟨g, j * 2 + 1, none⟩ = some (.int .i64 c.sp)) := fun i l hi => by
    have hfr := HF.out.1.below (Z := V) (hfb ▸ HV0.out.1)
    obtain ⟨og, ok', a, k, e1, h1, h2, h3⟩ := hfr.at hi
    have e2 : oa = some ⟨og, 0, none⟩ := by injection e1
    refine ⟨og, a, k, e2, fun Y hY => ⟨(hY.cell (p := ⟨og, i, none⟩) h1).trans h2, fun j c hj => ?_⟩⟩
    obtain ⟨g, e3, e4, e5, e6⟩ := row_at h3 hj
    exact ⟨g, e3, fun Z hZ => ⟨(hZ.cell (p := ⟨g, j * 2, none⟩) e4).trans e5, (hZ.cell (p := ⟨g, j * 2 + 1, none⟩) e4).trans e6⟩⟩
  clear HB0 HB1 HX1 HF HV0 hfb
  go_loopw [4] (fun t4 wr => ∃ i : Nat, i ≤ N ∧ t4 = .int .i64 i ∧ Hid (Below V.heap.size V wr)) (fun t4 _ => N - (intOf t4).toNat)
  case atStart => exact ⟨0, Nat.zero_le _, rfl, Below.refl _ V⟩
  case round =>
    obtain ⟨i, hi, rfl, HB⟩ := hrel
    obtain ⟨p1, p3⟩ := HA.out wr HB.out
    by_cases hlt : i < N
    · obtain ⟨l, hl⟩ : ∃ l, R[i]? = some l := ⟨R[i]'(by rw [HN.out.1]; exact hlt), List.getElem?_eq_getElem _⟩
      obtain ⟨og, a, k, rfl, hrow⟩ := HI.out i l hl
      obtain ⟨hl1, hl2, hl3, hl4⟩ := HRL.out l (List.mem_of_getElem? hl)
      have q1 := (hrow wr HB.out).1
      obtain ⟨n, hn⟩ : ∃ n, l.length = n := ⟨_, rfl⟩
      rw [hn] at q1 hl1
      have hlt' : (i : Int) < N := by omega
      have HLT : Hid (i < N ∧ N ≤ 16777216 ∧ n ≤ 65535) := ⟨hlt, HN.out.2, by have := HWN.out; omega⟩
      have HC : Hid (∀ (j : Nat) (c : Cel), l[j]? = some c → ∃ g, a = some ⟨g, 0, none⟩ ∧ ∀ Z, Below V.heap.size V Z → Z.cell? ⟨g, j * 2, none⟩ = some (.string c.tx) ∧ Z.cell? ⟨g, j * 2 + 1, none⟩ = some (.int .i64 c.sp)) := (hrow wr HB.out).2
      have HL : Hid (l.length = n ∧ PcR l ∧ (∀ c, l.getLast? = some c → blkC c = false) ∧ (∀ c ∈ l, c.tx.size ≤ 1048579) ∧ n ≤ Wn) := ⟨hn, hl2, hl3, hl4, hl1⟩
      have hgt : ¬ (n : Int) > Wn := by omega
      have hgt2 : ¬ (Wn : Int) < n := by omega
      clear hl hrow hl2 hl3 hl4 hn hl1 hlt HI HRL
      go_upto_region 9 with (fail)
      go_cut [51] from 34 to 51 (fun v51 wx => v51 = .bool false ∧ Hid (Below V.heap.size V wx))
      case first =>
        by_cases hn0 : n = 0
        · subst hn0
          clear HC HL hgt HLT
          go_wp2_with (go_at_call 8; refine (CW.out _).mono ?_; rintro e w3 ⟨rfl, rfl⟩)
          go_meet
          exact ⟨rfl, HB⟩
        · obtain ⟨j, hj⟩ : ∃ j, n = j + 1 := ⟨n - 1, by omega⟩
          obtain ⟨x, hx⟩ : ∃ x, l[j]? = some x := ⟨l[j]'(by have := HL.out.1; omega), List.getElem?_eq_getElem _⟩
          obtain ⟨g, rfl, hcell⟩ := HC.out j x hx
          obtain ⟨y1, y2⟩ := hcell wr HB.out
          have hb := HL.out.2.2.1 x (by rw [List.getLast?_eq_getElem?, HL.out.1, hj]; exact hx)
          have hce1 := cel_eq x.tx x.sp
          rw [show blkC ⟨x.tx, x.sp⟩ = false from hb] at hce1
          have hw1 : IntKind.i64.wrap ((n : Int) - 1) = (j : Int) := by rw [IntKind.wrap_i64]; have := HLT.out; omega
          have hj0 : (0 : Int) < (n : Int) := by omega
          have hj1 : (j : Int) < (n : Int) := by omega
          have hjd : decide (0 < n) = true := by simp; omega
          have hj0n : 0 < n := by omega
          have hgd : decide (Wn < n) = false := by simp; omega
          clear hb hx hj hn0 hcell HC HL
          go_wp2_with (go_at_call 8; refine (CW.out _).mono ?_; rintro e w3 ⟨rfl, rfl⟩)
          go_meet
          exact ⟨rfl, HB⟩
      case rest =>
      obtain ⟨rfl, HBc⟩ := hcut
      clear HB p1 p3 q1
      go_wp2
      go_loopw [7] (fun t7 wr => ∃ k : Nat, k ≤ n ∧ t7 = .int .i64 k ∧ Hid (Below V.heap.size V wr)) (fun t7 _ => n - (intOf t7).toNat)
      case atStart => exact ⟨0, Nat.zero_le _, rfl, HBc⟩
      case round =>
        clear HBc
        obtain ⟨kk, hkk, rfl, HB⟩ := hrel
        by_cases hkn : kk < n
        · have hkn' : (kk : Int) < n := by omega
          obtain ⟨x, hx⟩ : ∃ x, l[kk]? = some x := ⟨l[kk]'(by rw [HL.out.1]; exact hkn), List.getElem?_eq_getElem _⟩
          obtain ⟨g, rfl, hcell⟩ := HC.out kk x hx
          obtain ⟨y1, y2⟩ := hcell wr HB.out
          have hxs := HL.out.2.2.2.1 x (List.mem_of_getElem? hx)
          have HKN : Hid (kk < n ∧ n ≤ 65535) := ⟨hkn, HLT.out.2.2⟩
          have lb := World.block_lt_of_cell? wr _ y1
          rcases HL.out.2.1.at hx with ⟨e1, e2, j, d, e3, e4, e5⟩ | ⟨e1, e2⟩ | ⟨e1, e2, d, e3, e4⟩
          · -- a right half
            obtain ⟨g', ha, hd⟩ := HC.out j d e4
            have hg : g = g' := by injection ha with ha; injection ha
            subst hg
            obtain ⟨z1, z2⟩ := hd wr HB.out
            rw [e5] at z2
            rw [e1] at y2
            rw [e2] at y1
            have hw1 : IntKind.i64.wrap ((kk : Int) - 1) = (j : Int) := by rw [IntKind.wrap_i64]; have := HKN.out; omega
            have hk0 : ((kk : Int) == 0) = false := by simp; omega
            have hj1 : (j : Int) < (n : Int) := by omega
            clear e1 e2 e3 e4 e5 hx hcell hd ha HC HL hkn hxs
            go_wp2
            exact ⟨⟨kk + 1, by have := HKN.out; omega, by rw [w64s (by have := HKN.out; omega)], HB.out.alloc HB.out.size _⟩, by have := HKN.out; rw [w64s (by omega)]; simp [intOf]; omega⟩
          · -- a cell of one column
            have HB1 : Hid (Below V.heap.size V (wr.alloc (.cells #[.string x.tx, .int .i64 1] 34)) ∧ (wr.alloc (.cells #[.string x.tx, .int .i64 1] 34)).heap[wr.heap.size]? = some (.cells #[.string x.tx, .int .i64 1] 34 (0, 0))) := ⟨HB.out.alloc HB.out.size _, World.alloc_heap_new _ _⟩
            rw [e1] at y2
            clear e1 hx hcell HC HL hkn
            go_wp2_with (fail)
            generalize wr.alloc (.cells #[.string x.tx, .int .i64 1] 34) = wb at HB1 ⊢
            obtain ⟨⟨b0, b1⟩, -⟩ := obox2 HB1.out.2
            have r0 := cell_rgO b0
            have r1 := cell_rgO b1
            have cg := fun X (hX : Below wb.heap.size wb X) => CG.out x.tx 1 X e2 (by omega) (HVW.out.trans ((HB1.out.1.trans (hX.mono HB1.out.1.size)).mono HVW.out.size))
            have k1 := call_rgO (W := wb) fun X hX => (cg X hX).1
            have k2 := call_rgO (W := wb) fun X hX => (cg X hX).2.1
            have k3 := call_rgO (W := wb) fun X hX => (cg X hX).2.2
            clear cg e2 hxs
            refine wp_region_quiet_below HM.out (by kernel_rfl) ?_
            repeat (go_big_quiet_step (first | exact k1 _ _ | exact k2 _ _ | exact k3 _ _))
            refine wpQuiet_nil ?_
            intro _ hw'
            obtain ⟨⟨dq, osq⟩, hw''⟩ := hw'
            subst hw''
            have hF := HB1.out.1.trans ((below_regrown wb dq osq).mono HB1.out.1.size)
            have HF2 : Hid (Below V.heap.size V (Go.Sort.grow (redrawn wb dq) osq)) := hF
            generalize Go.Sort.grow (redrawn wb dq) osq = wz at HF2 ⊢
            clear hF r0 r1 k1 k2 k3 b0 b1
            go_wp2
            exact ⟨⟨kk + 1, by have := HKN.out; omega, by rw [w64s (by have := HKN.out; omega)], HF2⟩, by have := HKN.out; rw [w64s (by omega)]; simp [intOf]; omega⟩
          · -- the left half of a wide one
            obtain ⟨q, hq⟩ : ∃ q, kk + 1 = q := ⟨_, rfl⟩
            rw [hq] at e3
            obtain ⟨g', ha, hd⟩ := HC.out q d e3
            have hg : g = g' := by injection ha with ha; injection ha
            subst hg
            have hqn : q < n := by have := (List.getElem?_eq_some_iff.1 e3).1; have := HL.out.1; omega
            have HB1 : Hid (Below V.heap.size V (wr.alloc (.cells #[.string x.tx, .int .i64 2] 34)) ∧ (wr.alloc (.cells #[.string x.tx, .int .i64 2] 34)).heap[wr.heap.size]? = some (.cells #[.string x.tx, .int .i64 2] 34 (0, 0))) := ⟨HB.out.alloc HB.out.size _, World.alloc_heap_new _ _⟩
            have HD : Hid (∀ Z, Below V.heap.size V Z → Z.cell? ⟨g, q * 2 + 1, none⟩ = some (.int .i64 0)) := fun Z hZ => by rw [← e4]; exact (hd Z hZ).2
            have hwq : IntKind.i64.wrap ((kk : Int) + 1) = (q : Int) := by rw [IntKind.wrap_i64]; have := HKN.out; omega
            have hq1 : (q : Int) < (n : Int) := by omega
            have hq2 : ((q : Int) == (n : Int)) = false := by simp; omega
            have hq3 : (0 : Int) ≤ (q : Int) := by omega
            have HQ : Hid (kk + 1 = q) := hq
            rw [e1] at y2
            clear e1 hx hcell HC HL hkn e3 e4 ha hd hq hqn
            go_wp2_with (fail)
            generalize wr.alloc (.cells #[.string x.tx, .int .i64 2] 34) = wb at HB1 ⊢
            obtain ⟨⟨b0, b1⟩, -⟩ := obox2 HB1.out.2
            have r0 := cell_rgO b0
            have r1 := cell_rgO b1
            have r2 := cell_rgO (HD.out wb HB1.out.1)
            have cg := fun X (hX : Below wb.heap.size wb X) => CG.out x.tx 2 X e2 (by omega) (HVW.out.trans ((HB1.out.1.trans (hX.mono HB1.out.1.size)).mono HVW.out.size))
            have k1 := call_rgO (W := wb) fun X hX => (cg X hX).1
            have k2 := call_rgO (W := wb) fun X hX => (cg X hX).2.1
            have k3 := call_rgO (W := wb) fun X hX => (cg X hX).2.2
            clear cg e2 hxs
            refine wp_region_quiet_below HM.out (by kernel_rfl) ?_
            repeat (go_big_quiet_step (first | exact k1 _ _ | exact k2 _ _ | exact k3 _ _))
            refine wpQuiet_nil ?_
            intro _ hw'
            obtain ⟨⟨dq, osq⟩, hw''⟩ := hw'
            subst hw''
            have hF := HB1.out.1.trans ((below_regrown wb dq osq).mono HB1.out.1.size)
            have HF2 : Hid (Below V.heap.size V (Go.Sort.grow (redrawn wb dq) osq)) := hF
            generalize Go.Sort.grow (redrawn wb dq) osq = wz at HF2 ⊢
            clear hF r0 r1 r2 k1 k2 k3 b0 b1 hwq hq1 hq2 hq3
            go_wp2
            exact ⟨⟨kk + 1, by have := HKN.out; omega, by rw [w64s (by have := HKN.out; omega)], HF2⟩, by have := HKN.out; rw [w64s (by omega)]; simp [intOf]; omega⟩
        · have hd : ¬ (kk : Int) < n := by omega
          go_wp2
          go_roundw
          case rel => exact ⟨i + 1, by have := HLT.out; omega, by rw [w64s (by have := HLT.out; omega)], HB⟩
          case measure => have := HLT.out; rw [w64s (by omega)]; simp [intOf]; omega
    · have hd : ¬ (i : Int) < N := by omega
      go_wp2
      go_ret
      exact ⟨rfl, HVW.out.trans (HB.out.mono HVW.out.size)⟩
theorem walk_of {H : Type} {d : DataW H} (a : Akf) (w : World) (hT : Lib.Utf8Tabs 0 1 w) (hlo0 : 0 < w.heap.size) (hlo1 : 1 < w.heap.size) (hx : a.p.size + a.t.size ≤ Rows.uptoBulk d) (hk : Rows.uptoSmall H ([d] ++ []) = true) :
    Calls Tryd.prog 3 #[akfv a] w fun e w' => e = .returned (.bool true) ∧ Below w.heap.size w w' := by
  have h : Rows.uptoBulkAll ([d] ++ []) ≤ 1048576 := of_decide_eq_true hk
  simp only [List.append_nil, Rows.uptoBulkAll] at h
  exact walk (by kernel_rfl) a.p a.t a.c a.w (by omega) (by omega) w hT hlo0 hlo1
end Go.Proofs.YtojkpkokjkjeeabDoor.layoutFits
