/-
  The walk of the law LayoutRises: the cursor's places rise, one for each boundary, each is Lay's cursor there and is on the grid. Conditions: those of walk_of.
-/
import Derived.Deep.CutRange
import Derived.Test.YtoopbccpclgciaaDoorORsm
import Derived.Test.YtoopbccpclgciaaDoorCPlaces
import Derived.Test.YtoopbccpclgciaaDoorOAwk
import Derived.Test.YtoopbccpclgciaaDoorOArg
namespace Go.Proofs.YtoopbccpclgciaaDoor.layoutRises
open Go.RowKit Go.Shelf Bod Wid
set_option maxRecDepth 100000 in
set_option maxHeartbeats 1000000 in
theorem wid_any (x : Int) (w : World) : Calls Tryd.prog 19 #[.int .i64 x] w fun e w' => e = .returned (.int .i64 (couW x)) ∧ w = w' := by
  unfold couW
  go_enter Tryd.func19, Tryd.ntmps19
  go_wp2
  go_ret
  exact ⟨rfl, rfl⟩
theorem cell_rgO {W : World} {p : Addr} {v : Value} (h : W.cell? p = some v) : ∀ d os, (Go.Sort.grow (redrawn W d) os).cell? p = some v := fun d os => ((below_regrown W d os).cell (p := p) (World.block_lt_of_cell? W p h)).trans h
theorem call_rgO {f : Nat} {args : Array Value} {v : Value} {W : World} (h : ∀ w, Below W.heap.size W w → Calls Tryd.prog f args w fun e w' => e = .returned v ∧ Below w.heap.size w w') :
    ∀ d os, Calls Tryd.prog f args (Go.Sort.grow (redrawn W d) os) fun e w'' => e = .returned v ∧ ∃ p : Regrown, w'' = Go.Sort.grow (redrawn W p.d) p.os := fun d os => Calls.regrown_of (h _ (below_regrown W d os))
theorem pcs_get : ∀ {l : List (Nat × Nat)} {j : Nat} {p : Nat × Nat}, l[j]? = some p → (pcs l)[j * 2]? = some (.int .i64 (p.1 : Int)) ∧ (pcs l)[j * 2 + 1]? = some (.int .i64 (p.2 : Int))
  | [], _, _, h => by simp at h
  | q :: l, 0, p, h => by have : q = p := by simpa using h
                          subst this; simp [pcs]
  | q :: l, j + 1, p, h => by
    have := pcs_get (l := l) (j := j) (p := p) (by simpa using h)
    have e : pcs (q :: l) = .int .i64 (q.1 : Int) :: .int .i64 (q.2 : Int) :: pcs l := by simp [pcs]
    rw [e, show (j + 1) * 2 = j * 2 + 1 + 1 by omega]
    simpa using this
theorem pl_at {base n g k : Nat} {Y : World} {l : List (Nat × Nat)} (h : Y.ownsRow base 28 2 (.slice (some ⟨g, 0, none⟩) n k) n (pcs l)) {j : Nat} {p : Nat × Nat} (hj : l[j]? = some p) (hn : j < n) : Y.cell? ⟨g, j * 2, none⟩ = some (.int .i64 (p.1 : Int)) ∧ Y.cell? ⟨g, j * 2 + 1, none⟩ = some (.int .i64 (p.2 : Int)) :=
  ⟨(h.cellAt (j * 2) (by omega)).trans (pcs_get hj).1, (h.cellAt (j * 2 + 1) (by omega)).trans (pcs_get hj).2⟩
set_option maxRecDepth 100000 in
set_option maxHeartbeats 4000000 in
theorem walk (hM : Tryd.prog.follows .mixedOrders = true) (prompt text : ByteArray) (cur W0 : Int) (hp : prompt.size ≤ 1048576) (ht : text.size ≤ 1048576) (w : World) (hT : Lib.Utf8Tabs 0 1 w) (hlo0 : 0 < w.heap.size) (hlo1 : 1 < w.heap.size) :
    Calls Tryd.prog 7 #[.agg #[.string prompt, .string text, .int .i64 cur, .int .i64 W0]] w fun e w' => e = .returned (.bool true) ∧ Below w.heap.size w w' := by
  obtain ⟨Wn, hW⟩ : ∃ Wn : Nat, (Wn : Int) = couW W0 := ⟨(couW W0).toNat, by have := couW_in W0; omega⟩
  have hWb := couW_in W0
  have hW1 : 1 ≤ Wn := by omega
  have hW2 : Wn ≤ 65535 := by omega
  obtain ⟨st1, hst1⟩ : ∃ st1, layL Wn lst0 (cus prompt (cl prompt)) = st1 := ⟨_, rfl⟩
  have hok : st1.Ok Wn := by rw [← hst1]; exact layL_ok hW1 (cus_n (s := prompt) (l := cl prompt) (fun _ h => h)) (lst0_ok hW1)
  have hrows := layPT_rows Wn prompt text
  unfold layPT at hrows
  rw [hst1] at hrows
  obtain ⟨N, hN⟩ : ∃ N, (cl text).length = N := ⟨_, rfl⟩
  have hNs := cl_len text
  rw [hN] at hNs
  obtain ⟨R, hR⟩ : ∃ R, (layL Wn st1 (cus text (cl text))).rows.length + 1 = R := ⟨_, rfl⟩
  obtain ⟨pn, hpn⟩ : ∃ pn : Nat → Nat × Nat, pnF Wn st1 text = pn := ⟨_, rfl⟩
  obtain ⟨bd, hbd⟩ : ∃ bd : Nat → Nat, bdF text = bd := ⟨_, rfl⟩
  -- the plain facts
  have HPN : Hid ((∀ i, i ≤ N → (pn i).1 < R ∧ (pn i).2 < Wn) ∧ (∀ i, i < N → (pn i).1 < (pn (i + 1)).1 ∨ ((pn i).1 = (pn (i + 1)).1 ∧ (pn i).2 < (pn (i + 1)).2)) ∧ (pn N).1 + 1 = R) := by
    have e : (pn N).1 + 1 = R := by rw [← hpn, ← hN, pn_end, ← hR]; rfl
    refine ⟨fun i hi => ⟨?_, by rw [← hpn]; exact pn_col hW1 hok text i⟩, fun i hi => by rw [← hpn]; exact pn_rise hW1 (by omega), e⟩
    have := pn_le hW1 (st := st1) (s := text) (i := i) (j := N) hi (by omega)
    rw [hpn] at this
    omega
  have HBD : Hid (bd 0 = 0 ∧ (∀ i, i < N → bd i < bd (i + 1) ∧ bd (i + 1) ≤ text.size ∧ IsNext text (bd i : Int) (bd (i + 1))) ∧ bd N = text.size ∧ bd (N + 1) = text.size ∧ IsNext text (text.size : Int) text.size ∧ ∀ i, bd i ≤ text.size) := by
    subst hbd
    refine ⟨bdF_zero text, fun i hi => bdF_lt (by omega), bdF_end text (by omega), bdF_end text (by omega), bdF_last text, fun i => ?_⟩
    by_cases h : i ≤ N
    · have := bdF_mono (s := text) h
      rw [bdF_end text (i := N) (by omega)] at this
      exact this
    · rw [bdF_end text (i := i) (by omega)]; exact Nat.le_refl _
  have HCU : Hid (∀ (c : Int) (i : Nat), i ≤ N → (i = 0 ∨ (bd i : Int) ≤ c) → (i = N ∨ c < bd (i + 1)) → (curL Wn st1 text c (cl text)).2 = pn i) := fun c i hi h1 h2 => by
    rw [← hpn]
    exact curL_at (by omega) (by rw [hbd]; exact h1) (by rw [hbd, hN]; exact h2)
  -- the contracts
  have tb : ∀ {X : World}, Below w.heap.size w X → Lib.Utf8Tabs 0 1 X ∧ 0 < X.heap.size ∧ 1 < X.heap.size := fun {X} hX => ⟨tabs_below hT hX, Nat.lt_of_lt_of_le hlo0 hX.size, Nat.lt_of_lt_of_le hlo1 hX.size⟩
  have CA : Hid (∀ X, Below w.heap.size w X → Calls Tryd.prog 9 #[] X fun e w' => e = .returned (.bool true) ∧ Hid (Below X.heap.size X w')) := fun X hX => awk_any hM X (tb hX).1 (tb hX).2.1 (tb hX).2.2
  have CP : Hid (∀ X, Below w.heap.size w X → Calls Tryd.prog 15 #[.string prompt, .string text, .int .i64 W0] X fun e Y => ∃ g k, e = .returned (.slice (some ⟨g, 0, none⟩) (N + 1) k) ∧ Hid ((∀ i, i ≤ N → Y.cell? ⟨g, i * 2, none⟩ = some (.int .i64 ((pn i).1 : Int)) ∧ Y.cell? ⟨g, i * 2 + 1, none⟩ = some (.int .i64 ((pn i).2 : Int))) ∧ Below X.heap.size X Y)) := fun X hX =>
    (pls_any prompt text W0 (by omega) (by omega) X (tb hX).1 (tb hX).2.1 (tb hX).2.2 Wn hW).mono fun e Y ⟨v, he, HF⟩ => by
      obtain ⟨hf, hb⟩ := HF.out
      rw [hst1, hN] at hf
      obtain ⟨g, k, rfl⟩ := ownsRow_succ hf
      refine ⟨g, k, he, fun i hi => pl_at hf ?_ (by omega), hb⟩
      rw [plL_get (by omega), hpn]
  have CR : Hid (∀ X, Below w.heap.size w X → Calls Tryd.prog 13 #[.string prompt, .string text, .int .i64 W0] X fun e Y => e = .returned (.int .i64 (R : Int)) ∧ Hid (Below X.heap.size X Y)) := fun X hX => by
    have := rows_any prompt text W0 (by omega) (by omega) X (tb hX).1 (tb hX).2.1 (tb hX).2.2 Wn hW
    unfold layPT at this
    rw [hst1, hR] at this
    exact this
  have CL : Hid (∀ (c : Int) (i : Nat) X, i ≤ N → (i = 0 ∨ (bd i : Int) ≤ c) → (i = N ∨ c < bd (i + 1)) → Below w.heap.size w X → Calls Tryd.prog 12 #[.string prompt, .string text, .int .i64 c, .int .i64 W0] X fun e Y => ∃ oa ok, e = .returned (.agg #[.int .i64 Wn, .slice oa R ok, .int .i64 ((pn i).1 : Int), .int .i64 ((pn i).2 : Int)]) ∧ Hid (Below X.heap.size X Y)) := fun c i X hi h1 h2 hX =>
    (lay0_any hM prompt text c W0 (by omega) (by omega) X (tb hX).1 (tb hX).2.1 (tb hX).2.2 Wn hW).mono fun e Y ⟨ov, he, HF⟩ => by
      obtain ⟨hf, hb⟩ := HF.out
      rw [hst1] at hf he
      obtain ⟨oa, ok, ho⟩ := hf.len
      rw [List.length_map, Lst.all_len] at ho
      have hR' : (layL Wn st1 (cus text (cl text))).pen.1 + 1 = R := hR
      rw [hR'] at ho
      subst ho
      rw [HCU.out c i hi h1 h2] at he
      exact ⟨oa, ok, he, hb⟩
  have CW : Hid (∀ X, Calls Tryd.prog 19 #[.int .i64 W0] X fun e w' => e = .returned (.int .i64 Wn) ∧ X = w') := fun X => by rw [hW]; exact wid_any W0 X
  have CN : Hid (∀ (i : Nat) X, i ≤ N → Below w.heap.size w X → Calls Tryd.prog 20 #[.string text, .int .i64 (bd i : Int)] X fun e Y => e = .returned (.int .i64 (bd (i + 1) : Int)) ∧ Hid (Below X.heap.size X Y)) := fun i X hi hX =>
    (cnext_any text (bd i) (by unfold maxLen; omega) X (tb hX).1).mono fun e Y ⟨m, he, hm, hb⟩ => by
      have : m = bd (i + 1) := by
        by_cases h : i < N
        · exact hm.uniq (HBD.out.2.1 i h).2.2
        · have hi : i = N := by omega
          subst hi
          rw [HBD.out.2.2.1] at hm
          rw [HBD.out.2.2.2.1]
          exact hm.uniq HBD.out.2.2.2.2.1
      rw [this] at he
      exact ⟨he, hb⟩
  have CC : Hid (∀ X, Below w.heap.size w X → Calls Tryd.prog 21 #[.string text] X fun e w' => e = .returned (.int .i64 (N : Int)) ∧ Below X.heap.size X w') := fun X hX => by rw [← hN]; exact count_any text (by unfold maxLen; omega) X (tb hX).1 (tb hX).2.1 (tb hX).2.2
  have HM : Hid (Tryd.prog.follows .mixedOrders = true) := hM
  have HNN : Hid (N ≤ 1048576 ∧ Wn ≤ 65535 ∧ 1 ≤ Wn ∧ R ≤ 16777216 ∧ text.size ≤ 1048576) := ⟨by omega, hW2, hW1, by omega, ht⟩
  have HB0 : Hid (Below w.heap.size w (w.alloc (.cells #[.string prompt, .string text, .int .i64 cur, .int .i64 W0] 25)) ∧ (w.alloc (.cells #[.string prompt, .string text, .int .i64 cur, .int .i64 W0] 25)).heap[w.heap.size]? = some (.cells #[.string prompt, .string text, .int .i64 cur, .int .i64 W0] 25 (0, 0))) := ⟨(Below.refl _ w).alloc (Nat.le_refl _) _, World.alloc_heap_new _ _⟩
  have HT : Hid (∀ X Y : World, Below w.heap.size w X ∧ X.heap[w.heap.size]? = some (.cells #[.string prompt, .string text, .int .i64 cur, .int .i64 W0] 25 (0, 0)) → Below X.heap.size X Y → Below w.heap.size w Y ∧ Y.heap[w.heap.size]? = some (.cells #[.string prompt, .string text, .int .i64 cur, .int .i64 W0] 25 (0, 0))) := fun X Y hX hY => ⟨hX.1.trans (hY.mono hX.1.size), (hY.block _ (Array.getElem?_eq_some_iff.1 hX.2).1).trans hX.2⟩
  clear hM hT hW hWb hW1 hW2 hst1 hok hrows hN hNs hR hpn hbd hp ht tb hlo0 hlo1 HCU
  go_enter Tryd.func7, Tryd.ntmps7
  go_upto_region 3 with (go_at_call 9; refine (CA.out _ HB0.out.1).mono ?_; clear CA; rintro e w1 ⟨rfl, HB1⟩; have HX1 := HT.out _ w1 HB0.out HB1.out; obtain ⟨⟨x0, x1, x2, x3⟩, -⟩ := box4 HX1.2; replace HX1 : Hid _ := HX1)
  go_upto_region 4 with (go_at_call 15; refine (CP.out _ HX1.out.1).mono ?_; clear CP x0 x1 x2 x3; rintro e w2 ⟨g, kk, rfl, HP⟩; have HX2 := HT.out _ w2 HX1.out HP.out.2; obtain ⟨⟨x0, x1, x2, x3⟩, -⟩ := box4 HX2.2; replace HX2 : Hid _ := HX2)
  go_upto_region 5 with (go_at_call 13; refine (CR.out _ HX2.out.1).mono ?_; clear CR x0 x1 x2 x3; rintro e V ⟨rfl, HBV⟩)
  have HXV := HT.out _ V HX2.out HBV.out
  have HA : Hid (∀ Y, Below V.heap.size V Y → Below w.heap.size w Y ∧ Y.cell? ⟨w.heap.size, 0, none⟩ = some (.string prompt) ∧ Y.cell? ⟨w.heap.size, 1, none⟩ = some (.string text) ∧ Y.cell? ⟨w.heap.size, 3, none⟩ = some (.int .i64 W0)) := fun Y hY => by
    have h := HT.out _ Y HXV hY
    obtain ⟨⟨x0, x1, x2, x3⟩, -⟩ := box4 h.2
    exact ⟨h.1, x0, x1, x3⟩
  have HI : Hid (∀ (i : Nat) Y, i ≤ N → Below V.heap.size V Y → Y.cell? ⟨g, i * 2, none⟩ = some (.int .i64 ((pn i).1 : Int)) ∧ Y.cell? ⟨g, i * 2 + 1, none⟩ = some (.int .i64 ((pn i).2 : Int))) := fun i Y hi hY => by
    obtain ⟨h0, h1⟩ := HP.out.1 i hi
    have v0 := (HBV.out.cell (p := ⟨g, i * 2, none⟩) (World.block_lt_of_cell? w2 _ h0)).trans h0
    have v1 := (HBV.out.cell (p := ⟨g, i * 2 + 1, none⟩) (World.block_lt_of_cell? w2 _ h1)).trans h1
    exact ⟨(hY.cell (p := ⟨g, i * 2, none⟩) (World.block_lt_of_cell? V _ v0)).trans v0, (hY.cell (p := ⟨g, i * 2 + 1, none⟩) (World.block_lt_of_cell? V _ v1)).trans v1⟩
  clear HXV HX1 HX2 HB1 HP HBV HB0 HT
  go_upto_region 7 with (fail)
  have hz0 : (0 : Int) = ((bd 0 : Nat) : Int) := by rw [HBD.out.1]; rfl
  go_loopw [5, 6] (fun t5 t6 wr => ∃ i : Nat, i ≤ N + 1 ∧ t6 = .int .i64 i ∧ t5 = .int .i64 (bd i : Int) ∧ Hid (Below V.heap.size V wr)) (fun _ t6 _ => N + 1 - (intOf t6).toNat)
  case atStart => exact ⟨0, Nat.zero_le _, rfl, by rw [HBD.out.1]; rfl, Below.refl _ V⟩
  case round =>
    obtain ⟨i, hi, rfl, rfl, HB⟩ := hrel
    clear hz0
    by_cases hlt : i < N + 1
    · have hlt' : (i : Int) < (N : Int) + 1 := by omega
      have hlt2 : (i : Int) < ((N + 1 : Nat) : Int) := by omega
      have HLT : Hid (i ≤ N) := Nat.le_of_lt_succ hlt
      obtain ⟨hb, x0, x1, x3⟩ := HA.out wr HB.out
      obtain ⟨y0, y1⟩ := HI.out i wr HLT.out HB.out
      obtain ⟨g1, g2⟩ := HPN.out.1 i HLT.out
      have c1 : ¬ ((pn i).1 : Int) < 0 := by omega
      have c2 : ¬ ((pn i).1 : Int) ≥ R := by omega
      have c3 : ¬ ((pn i).2 : Int) < 0 := by omega
      have c4 : ¬ ((pn i).2 : Int) ≥ Wn := by omega
      clear hb hlt g1 g2
      go_upto_region 9 with (fail)
      go_cut [64] from 31 to 64 (fun v64 wx => v64 = .bool false ∧ Hid (Below V.heap.size V wx))
      case first => as_aux_lemma =>
        have r3 := cell_rgO x3
        have s0 := cell_rgO y0
        have s1 := cell_rgO y1
        have k1 := call_rgO (W := wr) fun X hX => (CW.out X).mono (fun e w' h => ⟨h.1, h.2 ▸ Below.refl _ X⟩)
        have hlt3 : i < N + 1 := by have := HLT.out; omega
        clear x0 x1
        refine wp_region_quiet_below HM.out (by kernel_rfl) ?_
        repeat (go_big_quiet_step (first | exact k1 _ _))
        refine wpQuiet_nil ?_
        intro _ hw'
        obtain ⟨⟨dq, osq⟩, hw''⟩ := hw'
        subst hw''
        have HF : Hid (Below V.heap.size V (Go.Sort.grow (redrawn wr dq) osq)) := HB.out.trans ((below_regrown wr dq osq).mono HB.out.size)
        dsimp only
        generalize Go.Sort.grow (redrawn wr dq) osq = wz at HF ⊢
        clear r3 s0 s1 k1 x3 y0 y1 c1 c2 c3 c4
        go_wp2
        go_meet
        exact ⟨rfl, HF⟩
      case rest =>
      obtain ⟨rfl, HBc⟩ := hcut
      clear HB x0 x1 x3 y0 y1 c1 c2 c3 c4
      go_upto_region 11 with (fail)
      go_cut [108] from 65 to 108 (fun v108 wx => v108 = .bool false ∧ Hid (Below V.heap.size V wx))
      case first => as_aux_lemma =>
        obtain ⟨y0, y1⟩ := HI.out i wc HLT.out HBc.out
        have r0 := cell_rgO y0
        have r1 := cell_rgO y1
        have hlt3 : i < N + 1 := by have := HLT.out; omega
        have HF0 : Hid (∀ dq osq, Below V.heap.size V (Go.Sort.grow (redrawn wc dq) osq)) := fun dq osq => HBc.out.trans ((below_regrown wc dq osq).mono HBc.out.size)
        by_cases hi0 : i = 0
        · subst hi0
          clear y0 y1
          refine wp_region_quiet_below HM.out (by kernel_rfl) ?_
          repeat (go_big_quiet_step (fail))
          refine wpQuiet_nil ?_
          intro _ hw'
          obtain ⟨⟨dq, osq⟩, hw''⟩ := hw'
          subst hw''
          have HF : Hid (Below V.heap.size V (Go.Sort.grow (redrawn wc dq) osq)) := HF0.out dq osq
          dsimp only
          generalize Go.Sort.grow (redrawn wc dq) osq = wz at HF ⊢
          clear r0 r1
          go_wp2
          go_meet
          exact ⟨rfl, HF⟩
        · obtain ⟨j, hii⟩ : ∃ j, j + 1 = i := ⟨i - 1, by omega⟩
          obtain ⟨z0, z1⟩ := HI.out j wc (by have := HLT.out; omega) HBc.out
          have s0 := cell_rgO z0
          have s1 := cell_rgO z1
          have hr := HPN.out.2.1 j (by have := HLT.out; omega)
          have hw1 : IntKind.i64.wrap ((i : Int) - 1) = (j : Int) := by rw [IntKind.wrap_i64]; have := HLT.out; have := HNN.out.1; omega
          have hgt : (i : Int) > 0 := by omega
          have hgt2 : (0 : Int) < (i : Int) := by omega
          have hgt3 : 0 < i := by omega
          have hgt4 : decide (0 < i) = true := by simp; omega
          have hj3 : (j : Int) < (N : Int) + 1 := by have := HLT.out; omega
          have hj4 : j < N + 1 := by have := HLT.out; omega
          have hi3 : (i : Int) < (N : Int) + 1 := by have := HLT.out; omega
          have hi4 : i < N + 1 := by have := HLT.out; omega
          have hj5 : (0 : Int) ≤ (j : Int) := by omega
          rw [hii] at hr
          generalize pn i = q at r0 r1 hr
          generalize pn j = q' at s0 s1 hr
          obtain ⟨q1, q2⟩ := q
          obtain ⟨p1, p2⟩ := q'
          simp only at r0 r1 s0 s1 hr
          clear y0 y1 z0 z1 hlt3 hi0 hii
          rcases hr with hr | ⟨hr, hr2⟩
          · have d1 : ¬ (q1 : Int) < p1 := by omega
            have d2 : ((q1 : Int) == p1) = false := by simp; omega
            clear hr
            refine wp_region_quiet_below HM.out (by kernel_rfl) ?_
            repeat (go_big_quiet_step (fail))
            refine wpQuiet_nil ?_
            intro _ hw'
            obtain ⟨⟨dq, osq⟩, hw''⟩ := hw'
            subst hw''
            have HF : Hid (Below V.heap.size V (Go.Sort.grow (redrawn wc dq) osq)) := HF0.out dq osq
            dsimp only
            generalize Go.Sort.grow (redrawn wc dq) osq = wz at HF ⊢
            clear r0 r1 s0 s1
            go_wp2
            go_meet
            exact ⟨rfl, HF⟩
          · subst hr
            have d1 : ¬ (p1 : Int) < p1 := by omega
            have d3 : ¬ (q2 : Int) ≤ p2 := by omega
            clear hr2
            refine wp_region_quiet_below HM.out (by kernel_rfl) ?_
            repeat (go_big_quiet_step (fail))
            refine wpQuiet_nil ?_
            intro _ hw'
            obtain ⟨⟨dq, osq⟩, hw''⟩ := hw'
            subst hw''
            have HF : Hid (Below V.heap.size V (Go.Sort.grow (redrawn wc dq) osq)) := HF0.out dq osq
            dsimp only
            generalize Go.Sort.grow (redrawn wc dq) osq = wz at HF ⊢
            clear r0 r1 s0 s1
            go_wp2
            go_meet
            exact ⟨rfl, HF⟩
      case rest =>
      obtain ⟨rfl, HBd⟩ := hcut
      obtain ⟨hb, x0, x1, x3⟩ := HA.out wc HBd.out
      go_upto_region 14 with (go_at_call 20; refine (CN.out i _ HLT.out hb).mono ?_; clear x0 x1 x3; rintro e w4 ⟨rfl, HB4⟩)
      have HW4 : Hid (Below V.heap.size V w4) := HBd.out.trans (HB4.out.mono HBd.out.size)
      clear hb HB4 HBd HBc
      obtain ⟨a, ha⟩ : ∃ a, bd i = a := ⟨_, rfl⟩
      obtain ⟨b, hb⟩ : ∃ b, bd (i + 1) = b := ⟨_, rfl⟩
      have HAB : Hid ((i < N → a < b) ∧ (i = N → a = b) ∧ a ≤ 1048576 ∧ b ≤ 1048576 ∧ bd i = a ∧ bd (i + 1) = b) := by
        have h1 := HNN.out.2.2.2.2
        have h2 := HBD.out.2.2.2.2.2
        refine ⟨fun h => by rw [← ha, ← hb]; exact (HBD.out.2.1 i h).1, fun h => by rw [← ha, ← hb, h, HBD.out.2.2.1, HBD.out.2.2.2.1], ?_, ?_, ha, hb⟩
        · rw [← ha]; exact Nat.le_trans (h2 i) h1
        · rw [← hb]; exact Nat.le_trans (h2 (i + 1)) h1
      rw [ha, hb]
      clear ha hb
      by_cases h40 : i < 40
      · have h40' : (i : Int) < 40 := by omega
        obtain ⟨hb, x0, x1, x3⟩ := HA.out w4 HW4.out
        have CL1 : Hid (∀ X, Below w.heap.size w X → _) := fun X hX => CL.out (a : Int) i X HLT.out (.inr (by rw [HAB.out.2.2.2.2.1]; exact Int.le_refl _)) (by
          have h := HLT.out
          have h5 := HAB.out
          by_cases q : i < N
          · exact .inr (by rw [h5.2.2.2.2.2]; have := h5.1 q; omega)
          · exact .inl (by omega)) hX
        go_upto_region 16 with (go_at_call 12; refine (CL1.out _ hb).mono ?_; clear CL1 x0 x1 x3; rintro e w5 ⟨oa, ok, rfl, HB5⟩)
        have H6 : Hid (Below V.heap.size V (w5.alloc (.cells #[.int .i64 Wn, .slice oa R ok, .int .i64 ((pn i).1 : Int), .int .i64 ((pn i).2 : Int)] 30)) ∧ (w5.alloc (.cells #[.int .i64 Wn, .slice oa R ok, .int .i64 ((pn i).1 : Int), .int .i64 ((pn i).2 : Int)] 30)).heap[w5.heap.size]? = some (.cells #[.int .i64 Wn, .slice oa R ok, .int .i64 ((pn i).1 : Int), .int .i64 ((pn i).2 : Int)] 30 (0, 0))) := by
          have h1 : Below V.heap.size V w5 := HW4.out.trans (HB5.out.mono HW4.out.size)
          exact ⟨h1.alloc h1.size _, World.alloc_heap_new _ _⟩
        obtain ⟨fb, hfb⟩ : ∃ fb, w5.heap.size = fb := ⟨_, rfl⟩
        rw [hfb] at H6 ⊢
        generalize w5.alloc (.cells #[.int .i64 Wn, .slice oa R ok, .int .i64 ((pn i).1 : Int), .int .i64 ((pn i).2 : Int)] 30) = w6 at H6 ⊢
        clear hfb HB5 hb
        go_cut [144] from 123 to 144 (fun v144 wx => v144 = .bool false ∧ Hid (Below V.heap.size V wx))
        case first => as_aux_lemma =>
          obtain ⟨hb, x0, x1, x3⟩ := HA.out w6 H6.out.1
          obtain ⟨y0, y1⟩ := HI.out i w6 HLT.out H6.out.1
          obtain ⟨⟨z0, z1, z2, z3⟩, -⟩ := box4 H6.out.2
          have r0 := cell_rgO y0
          have r1 := cell_rgO y1
          have s0 := cell_rgO z0
          have s1 := cell_rgO z1
          have s2 := cell_rgO z2
          have s3 := cell_rgO z3
          have r3 := cell_rgO x3
          have k1 := call_rgO (W := w6) fun X hX => (CW.out X).mono (fun e w' h => ⟨h.1, h.2 ▸ Below.refl _ X⟩)
          have hlt3 : i < N + 1 := by have := HLT.out; omega
          have HF0 : Hid (∀ dq osq, Below V.heap.size V (Go.Sort.grow (redrawn w6 dq) osq)) := fun dq osq => H6.out.1.trans ((below_regrown w6 dq osq).mono H6.out.1.size)
          clear x0 x1 hb
          refine wp_region_quiet_below HM.out (by kernel_rfl) ?_
          repeat (go_big_quiet_step (first | exact k1 _ _))
          refine wpQuiet_nil ?_
          intro _ hw'
          obtain ⟨⟨dq, osq⟩, hw''⟩ := hw'
          subst hw''
          have HF : Hid (Below V.heap.size V (Go.Sort.grow (redrawn w6 dq) osq)) := HF0.out dq osq
          dsimp only
          generalize Go.Sort.grow (redrawn w6 dq) osq = wz at HF ⊢
          clear r0 r1 s0 s1 s2 s3 r3 k1 y0 y1 z0 z1 z2 z3 x3
          go_wp2
          go_meet
          exact ⟨rfl, HF⟩
        case rest =>
        obtain ⟨rfl, HBe⟩ := hcut
        clear H6 HW4
        have hsub : IntKind.i64.wrap ((b : Int) - (a : Int)) = ((b - a : Nat) : Int) := by rw [IntKind.wrap_i64]; have h5 := HAB.out; have h6 := HLT.out; by_cases q : i < N; have := h5.1 q; omega; have := h5.2.1 (by omega); omega
        by_cases h1 : 1 < b - a
        · obtain ⟨n, hn⟩ : ∃ n, b - a = n := ⟨_, rfl⟩
          have hiN : i < N := by have h5 := HAB.out; have h6 := HLT.out; by_cases q : i < N; exact q; have := h5.2.1 (by omega); omega
          obtain ⟨m, hm⟩ : ∃ m, b = m + 1 := ⟨b - 1, by omega⟩
          have hm1 : IntKind.i64.wrap ((b : Int) - 1) = (m : Int) := by rw [IntKind.wrap_i64]; have := HAB.out; omega
          have CL2 : Hid (∀ X, Below w.heap.size w X → _) := fun X hX => CL.out (m : Int) i X HLT.out (.inr (by rw [HAB.out.2.2.2.2.1]; omega)) (.inr (by rw [HAB.out.2.2.2.2.2]; omega)) hX
          rw [hn] at hsub h1
          have e1 : (n : Int) > 1 := by omega
          have e2 : (1 : Int) < (n : Int) := by omega
          have e3 : decide (1 < n) = true := by simp; omega
          clear hn hm
          go_upto_region 18 with (fail)
          go_cut [165] from 145 to 165 (fun v165 wx => v165 = .bool false ∧ Hid (Below V.heap.size V wx))
          case first => as_aux_lemma =>
            obtain ⟨hb, x0, x1, x3⟩ := HA.out wc HBe.out
            obtain ⟨y0, y1⟩ := HI.out i wc HLT.out HBe.out
            have hlt3 : i < N + 1 := by have := HLT.out; omega
            have hfd : ∀ oa ok W, (Instr.field 30 (.agg #[.int .i64 Wn, .slice oa R ok, .int .i64 ((pn i).1 : Int), .int .i64 ((pn i).2 : Int)]) 2).run Tryd.prog W = .ok (.agg #[.int .i64 ((pn i).1 : Int), .int .i64 ((pn i).2 : Int)]) W := fun oa ok W => by kernel_rfl
            have HD : Hid (Below V.heap.size V wc.drew) := ⟨HBe.out.os, HBe.out.tape, HBe.out.output, HBe.out.size, HBe.out.block⟩
            clear hb
            go_region_held3 (fun w' => w'.cell? ⟨w.heap.size, 0, none⟩ = some (.string prompt) ∧ w'.cell? ⟨w.heap.size, 1, none⟩ = some (.string text) ∧ w'.cell? ⟨w.heap.size, 3, none⟩ = some (.int .i64 W0) ∧ w'.cell? ⟨g, i * 2, none⟩ = some (.int .i64 ((pn i).1 : Int)) ∧ w'.cell? ⟨g, i * 2 + 1, none⟩ = some (.int .i64 ((pn i).2 : Int))) (first | go_keep | exact ⟨x0, x1, x3, y0, y1⟩) (first | (go_at_call 12; refine (CL2.out _ (HA.out _ HD.out).1).mono ?_; clear CL2; rintro e w7 ⟨oa, ok, rfl, HB7⟩; have HF : Hid (Below V.heap.size V w7) := HD.out.trans (HB7.out.mono HD.out.size); replace x0 := (HA.out w7 HF.out).2.1; replace x1 := (HA.out w7 HF.out).2.2.1; replace x3 := (HA.out w7 HF.out).2.2.2; replace y0 := (HI.out i w7 HLT.out HF.out).1; replace y1 := (HI.out i w7 HLT.out HF.out).2) | fail)
            all_goals
              clear x0 x1 x3 y0 y1
              go_wp2
              go_meet
              exact ⟨rfl, HF⟩
          case rest =>
          obtain ⟨rfl, HF⟩ := hcut
          have hw20 : wrap64 ((i : Int) + 1) = ((i + 1 : Nat) : Int) := w64s (by have := HLT.out; have := HNN.out.1; omega)
          have hbb : (b : Int) = ((bd (i + 1) : Nat) : Int) := by rw [HAB.out.2.2.2.2.2]
          go_upto_region 20 with (fail)
          go_cut [175] from 166 to 175 (fun v175 wx => v175 = .bool false ∧ Hid (Below V.heap.size V wx))
          case first => as_aux_lemma =>
            by_cases q : i < N
            · have q1 : ((i + 1 : Nat) : Int) < (N : Int) + 1 := by omega
              have q2 : ¬ (b : Int) ≤ (a : Int) := by have := HAB.out.1 q; omega
              have q3 : ¬ b ≤ a := by have := HAB.out.1 q; omega
              have q4 : decide (b ≤ a) = false := by simp; omega
              clear hbb
              go_wp2
              go_meet
              exact ⟨rfl, HF⟩
            · exact absurd hiN q
          case rest =>
          clear HF
          obtain ⟨rfl, HF⟩ := hcut
          go_wp2
          exact ⟨⟨i + 1, by have := HLT.out; omega, by first | rw [hw20] | (simp; done), by rw [hbb], HF⟩, by have := HLT.out; first | (rw [hw20]; simp [intOf]; omega) | (simp [intOf]; omega)⟩
        · have HF0 : Hid (∀ dq osq, Below V.heap.size V (Go.Sort.grow (redrawn wc dq) osq)) := fun dq osq => HBe.out.trans ((below_regrown wc dq osq).mono HBe.out.size)
          obtain ⟨n, hn⟩ : ∃ n, b - a = n := ⟨_, rfl⟩
          rw [hn] at hsub h1
          have e1 : ¬ (n : Int) > 1 := by omega
          have e2 : ¬ (1 : Int) < (n : Int) := by omega
          have e3 : decide (1 < n) = false := by simp; omega
          clear hn
          go_upto_region 18 with (fail)
          go_cut [165] from 145 to 165 (fun v165 wx => v165 = .bool false ∧ Hid (Below V.heap.size V wx))
          case first => as_aux_lemma =>
            refine wp_region_quiet_below HM.out (by kernel_rfl) ?_
            repeat (go_big_quiet_step (fail))
            refine wpQuiet_nil ?_
            intro _ hw'
            obtain ⟨⟨dq, osq⟩, hw''⟩ := hw'
            subst hw''
            have HF : Hid (Below V.heap.size V (Go.Sort.grow (redrawn wc dq) osq)) := HF0.out dq osq
            dsimp only
            generalize Go.Sort.grow (redrawn wc dq) osq = wz at HF ⊢
            go_wp2
            go_meet
            exact ⟨rfl, HF⟩
          case rest =>
          obtain ⟨rfl, HF⟩ := hcut
          have hw20 : wrap64 ((i : Int) + 1) = ((i + 1 : Nat) : Int) := w64s (by have := HLT.out; have := HNN.out.1; omega)
          have hbb : (b : Int) = ((bd (i + 1) : Nat) : Int) := by rw [HAB.out.2.2.2.2.2]
          go_upto_region 20 with (fail)
          go_cut [175] from 166 to 175 (fun v175 wx => v175 = .bool false ∧ Hid (Below V.heap.size V wx))
          case first => as_aux_lemma =>
            by_cases q : i < N
            · have q1 : ((i + 1 : Nat) : Int) < (N : Int) + 1 := by omega
              have q2 : ¬ (b : Int) ≤ (a : Int) := by have := HAB.out.1 q; omega
              have q3 : ¬ b ≤ a := by have := HAB.out.1 q; omega
              have q4 : decide (b ≤ a) = false := by simp; omega
              clear hbb
              go_wp2
              go_meet
              exact ⟨rfl, HF⟩
            · have q1 : ¬ ((i + 1 : Nat) : Int) < (N : Int) + 1 := by omega
              have q2 : ¬ i + 1 < N + 1 := by omega
              clear hbb
              go_wp2
              go_meet
              exact ⟨rfl, HF⟩
          case rest =>
          clear HF
          obtain ⟨rfl, HF⟩ := hcut
          go_wp2
          exact ⟨⟨i + 1, by have := HLT.out; omega, by first | rw [hw20] | (simp; done), by rw [hbb], HF⟩, by have := HLT.out; first | (rw [hw20]; simp [intOf]; omega) | (simp [intOf]; omega)⟩
      · have h40' : ¬ (i : Int) < 40 := by omega
        have HF : Hid (Below V.heap.size V w4) := HW4
        clear HW4
        have hw20 : wrap64 ((i : Int) + 1) = ((i + 1 : Nat) : Int) := w64s (by have := HLT.out; have := HNN.out.1; omega)
        have hbb : (b : Int) = ((bd (i + 1) : Nat) : Int) := by rw [HAB.out.2.2.2.2.2]
        go_upto_region 20 with (fail)
        go_cut [175] from 166 to 175 (fun v175 wx => v175 = .bool false ∧ Hid (Below V.heap.size V wx))
        case first => as_aux_lemma =>
          by_cases q : i < N
          · have q1 : ((i + 1 : Nat) : Int) < (N : Int) + 1 := by omega
            have q2 : ¬ (b : Int) ≤ (a : Int) := by have := HAB.out.1 q; omega
            have q3 : ¬ b ≤ a := by have := HAB.out.1 q; omega
            have q4 : decide (b ≤ a) = false := by simp; omega
            clear hbb
            go_wp2
            go_meet
            exact ⟨rfl, HF⟩
          · have q1 : ¬ ((i + 1 : Nat) : Int) < (N : Int) + 1 := by omega
            have q2 : ¬ i + 1 < N + 1 := by omega
            clear hbb
            go_wp2
            go_meet
            exact ⟨rfl, HF⟩
        case rest =>
        clear HF
        obtain ⟨rfl, HF⟩ := hcut
        go_wp2
        exact ⟨⟨i + 1, by have := HLT.out; omega, by first | rw [hw20] | (simp; done), by rw [hbb], HF⟩, by have := HLT.out; first | (rw [hw20]; simp [intOf]; omega) | (simp [intOf]; omega)⟩
    · obtain rfl : i = N + 1 := by omega
      have hR1 : IntKind.i64.wrap ((R : Int) - 1) = ((pn N).1 : Int) := by rw [IntKind.wrap_i64]; have := HPN.out.2.2; have := HNN.out; omega
      have hN1 : wrap64 ((N : Int) + 1) = (N : Int) + 1 := by have := w64s (i := N) (by have := HNN.out; omega); rw [this]; simp
      have hN2 : IntKind.i64.wrap ((N : Int) + 1 - 1) = (N : Int) := by rw [IntKind.wrap_i64]; have := HNN.out; omega
      obtain ⟨hb, x0, x1, x3⟩ := HA.out wr HB.out
      have hN3 : wrap64 (N : Int) = (N : Int) := by unfold wrap64; have := HNN.out; omega
      have hN4 : N < N + 1 := Nat.lt_succ_self N
      have hN5 : (N : Int) < (N : Int) + 1 := by omega
      have hN6 : IntKind.i64.wrap (N : Int) = (N : Int) := by rw [IntKind.wrap_i64]; have := HNN.out; omega
      have hN7 : (0 : Int) ≤ (N : Int) := by omega
      have hs8 : IntKind.i64.wrap ((text.size : Int) + 7) = (text.size : Int) + 7 := by rw [IntKind.wrap_i64]; have := HNN.out; omega
      clear hlt
      go_upto_region 25 with (go_at_call 21; refine (CC.out _ hb).mono ?_; clear CC x0 x1 x3; rintro e w4 ⟨rfl, hB4⟩; have HF : Hid (Below V.heap.size V w4) := HB.out.trans (hB4.mono HB.out.size); clear hB4; obtain ⟨y0, y1⟩ := HI.out N w4 (Nat.le_refl _) HF.out)
      have hs7 : wrap64 ((text.size : Int) + 7) = (text.size : Int) + 7 := by unfold wrap64; have := HNN.out; omega
      have HD : Hid (Below V.heap.size V w4.drew) := ⟨HF.out.os, HF.out.tape, HF.out.output, HF.out.size, HF.out.block⟩
      have CLa : Hid (∀ X, Below w.heap.size w X → _) := fun X hX => CL.out (-5) 0 X (Nat.zero_le _) (.inl rfl) (.inr (by omega)) hX
      have CLb : Hid (∀ X, Below w.heap.size w X → _) := fun X hX => CL.out ((text.size : Int) + 7) N X (Nat.le_refl _) (.inr (by rw [HBD.out.2.2.1]; omega)) (.inl rfl) hX
      obtain ⟨hb, x0, x1, x3⟩ := HA.out w4 HF.out
      obtain ⟨z0, z1⟩ := HI.out 0 w4 (Nat.zero_le _) HF.out
      have hfd : ∀ j oa ok W, (Instr.field 30 (.agg #[.int .i64 Wn, .slice oa R ok, .int .i64 ((pn j).1 : Int), .int .i64 ((pn j).2 : Int)]) 2).run Tryd.prog W = .ok (.agg #[.int .i64 ((pn j).1 : Int), .int .i64 ((pn j).2 : Int)]) W := fun j oa ok W => by kernel_rfl
      simp only [Nat.zero_mul, Nat.zero_add] at z0 z1
      clear hb HB hi
      go_region_held3 (fun w' => w'.cell? ⟨w.heap.size, 0, none⟩ = some (.string prompt) ∧ w'.cell? ⟨w.heap.size, 1, none⟩ = some (.string text) ∧ w'.cell? ⟨w.heap.size, 3, none⟩ = some (.int .i64 W0) ∧ w'.cell? ⟨g, 0, none⟩ = some (.int .i64 ((pn 0).1 : Int)) ∧ w'.cell? ⟨g, 1, none⟩ = some (.int .i64 ((pn 0).2 : Int)) ∧ w'.cell? ⟨g, N * 2, none⟩ = some (.int .i64 ((pn N).1 : Int)) ∧ w'.cell? ⟨g, N * 2 + 1, none⟩ = some (.int .i64 ((pn N).2 : Int))) (first | go_keep | exact ⟨x0, x1, x3, z0, z1, y0, y1⟩) (first | (go_at_call 12; refine (CLa.out _ (HA.out _ HD.out).1).mono ?_; clear CLa; rintro e w7 ⟨oa, ok, rfl, HB7⟩; have HF7 : Hid (Below V.heap.size V w7) := HD.out.trans (HB7.out.mono HD.out.size); replace x0 := (HA.out w7 HF7.out).2.1; replace x1 := (HA.out w7 HF7.out).2.2.1; replace x3 := (HA.out w7 HF7.out).2.2.2; replace y0 := (HI.out N w7 (Nat.le_refl _) HF7.out).1; replace y1 := (HI.out N w7 (Nat.le_refl _) HF7.out).2; replace z0 := (HI.out 0 w7 (Nat.zero_le _) HF7.out).1; replace z1 := (HI.out 0 w7 (Nat.zero_le _) HF7.out).2; simp only [Nat.zero_mul, Nat.zero_add] at z0 z1) | (go_at_call 12; refine (CLb.out _ (HA.out _ HF7.out).1).mono ?_; clear CLb; rintro e w8 ⟨ob, ok2, rfl, HB8⟩; have HF8 : Hid (Below V.heap.size V w8) := HF7.out.trans (HB8.out.mono HF7.out.size); replace x0 := (HA.out w8 HF8.out).2.1; replace x1 := (HA.out w8 HF8.out).2.2.1; replace x3 := (HA.out w8 HF8.out).2.2.2; replace y0 := (HI.out N w8 (Nat.le_refl _) HF8.out).1; replace y1 := (HI.out N w8 (Nat.le_refl _) HF8.out).2; replace z0 := (HI.out 0 w8 (Nat.zero_le _) HF8.out).1; replace z1 := (HI.out 0 w8 (Nat.zero_le _) HF8.out).2; simp only [Nat.zero_mul, Nat.zero_add] at z0 z1) | fail)
      all_goals
        go_wp2
        go_ret
        exact ⟨rfl, (HA.out w8 HF8.out).1⟩
theorem walk_of {H : Type} {d : DataW H} (a : Akf) (w : World) (hT : Lib.Utf8Tabs 0 1 w) (hlo0 : 0 < w.heap.size) (hlo1 : 1 < w.heap.size) (hx : a.p.size + a.t.size ≤ Rows.uptoBulk d) (hk : Rows.uptoSmall H ([d] ++ []) = true) :
    Calls Tryd.prog 7 #[akfv a] w fun e w' => e = .returned (.bool true) ∧ Below w.heap.size w w' := by
  have h : Rows.uptoBulkAll ([d] ++ []) ≤ 1048576 := of_decide_eq_true hk
  simp only [List.append_nil, Rows.uptoBulkAll] at h
  exact walk (by kernel_rfl) a.p a.t a.c a.w (by omega) (by omega) w hT hlo0 hlo1
end Go.Proofs.YtoopbccpclgciaaDoor.layoutRises
