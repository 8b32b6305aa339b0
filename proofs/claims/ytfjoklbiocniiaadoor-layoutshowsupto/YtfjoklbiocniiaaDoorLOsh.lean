/-
  The walk of the law LayoutShows: what is drawn for prompt and text stands in the cells, in order, all of it (widths above 1). Conditions: those of walk_of.
-/
import Derived.Deep.CutRange
import Derived.Test.YtfjoklbiocniiaaDoorOAwk
import Derived.Test.YtfjoklbiocniiaaDoorOArg
import Derived.Test.YtfjoklbiocniiaaDoorPkOK
import Derived.Test.YtfjoklbiocniiaaDoorOBar
namespace Go.Proofs.YtfjoklbiocniiaaDoor.layoutShows
open Go.RowKit Go.Shelf Bod Wid
theorem fr_rdS {w Y : World} {ov : Value} {R : List (List Cel)} (h : Fr w ov R Y) : RdRw Y ov R := by
  obtain ⟨vs, rfl, hown, heach, -⟩ := h
  refine rdrw_of hown (fun i rv l h1 h2 => ?_) (by rw [List.length_map])
  rw [List.getElem?_map] at h1 h2
  cases e : vs[i]? with
  | none => rw [e] at h1; cases h1
  | some o =>
    rw [e] at h1 h2
    obtain rfl := Option.some.inj h1
    obtain rfl := Option.some.inj h2
    exact rdce_of (heach o (List.mem_of_getElem? e)) rfl
set_option maxRecDepth 100000 in
set_option maxHeartbeats 1000000 in
theorem wid_anyS (x : Int) (w : World) : Calls Tryd.prog 16 #[.int .i64 x] w fun e w' => e = .returned (.int .i64 (couW x)) ∧ w = w' := by
  unfold couW
  go_enter Tryd.func16, Tryd.ntmps16
  go_wp2
  go_ret
  exact ⟨rfl, rfl⟩
/-- what is to be shown of the first clusters -/
def wntK (s : ByteArray) (i : Nat) : List UInt8 := ((cl s).take i).flatMap fun c => barL (drC s c)
theorem wntK_zero (s : ByteArray) : wntK s 0 = [] := rfl
theorem wntK_next {s : ByteArray} {i : Nat} {c : Clu} (h : (cl s)[i]? = some c) : wntK s (i + 1) = wntK s i ++ barL (drC s c) := by
  unfold wntK
  rw [List.take_add_one, h]
  simp
theorem wntK_le (s : ByteArray) (i : Nat) : (wntK s i).length ≤ (wnt s).length := by
  have e : wnt s = wntK s i ++ ((cl s).drop i).flatMap fun c => barL (drC s c) := by
    unfold wnt wntK
    rw [← List.flatMap_append, List.take_append_drop]
  rw [e, List.length_append]
  omega
set_option maxRecDepth 100000 in
set_option maxHeartbeats 4000000 in
theorem walk (hM : Tryd.prog.follows .mixedOrders = true) (prompt text : ByteArray) (cur W0 : Int) (hp : prompt.size ≤ 1048576) (ht : text.size ≤ 1048576) (w : World) (hT : Lib.Utf8Tabs 0 1 w) (hlo0 : 0 < w.heap.size) (hlo1 : 1 < w.heap.size) :
    Calls Tryd.prog 6 #[.agg #[.string prompt, .string text, .int .i64 cur, .int .i64 W0]] w fun e w' => e = .returned (.bool true) ∧ Below w.heap.size w w' := by
  obtain ⟨Wn, hW⟩ : ∃ Wn : Nat, (Wn : Int) = couW W0 := ⟨(couW W0).toNat, by have := couW_in W0; omega⟩
  have hWb := couW_in W0
  have hW1 : 1 ≤ Wn := by omega
  have hnar : Nar Wn (layPT Wn prompt text) := layL_nar hW1 (cus_n (s := text) (l := cl text) (fun _ h => h)) (layL_ok hW1 (cus_n (s := prompt) (l := cl prompt) (fun _ h => h)) (lst0_ok hW1)) (layL_nar hW1 (cus_n (s := prompt) (l := cl prompt) (fun _ h => h)) (lst0_ok hW1) (lst0_nar Wn))
  have hrows := layPT_rows Wn prompt text
  have hall : ((layPT Wn prompt text).all.map trmL).length = (layPT Wn prompt text).rows.length + 1 := by rw [List.length_map, Lst.all_len]; rfl
  have hrl : ∀ r ∈ (layPT Wn prompt text).all.map trmL, r.length ≤ 65535 := fun r hr => by
    obtain ⟨r0, h0, rfl⟩ := List.mem_map.1 hr
    obtain ⟨m, hm, e⟩ := trm_pre r0
    rw [e, List.length_take]
    have := hnar r0 h0
    omega
  have tb : ∀ {X : World}, Below w.heap.size w X → Lib.Utf8Tabs 0 1 X ∧ 0 < X.heap.size ∧ 1 < X.heap.size := fun {X} hX => ⟨tabs_below hT hX, Nat.lt_of_lt_of_le hlo0 hX.size, Nat.lt_of_lt_of_le hlo1 hX.size⟩
  have CA : Hid (∀ X, Below w.heap.size w X → Calls Tryd.prog 7 #[] X fun e w' => e = .returned (.bool true) ∧ Hid (Below X.heap.size X w')) := fun X hX => awk_any hM X (tb hX).1 (tb hX).2.1 (tb hX).2.2
  have CL0 := fun X (hX : Below w.heap.size w X) => lay0_any hM prompt text cur W0 (by omega) (by omega) X (tb hX).1 (tb hX).2.1 (tb hX).2.2 Wn hW
  change ∀ X, Below w.heap.size w X → Calls Tryd.prog 10 #[.string prompt, .string text, .int .i64 cur, .int .i64 W0] X fun e Y => ∃ ov, e = .returned (.agg #[.int .i64 Wn, ov, .int .i64 (curL Wn (layL Wn lst0 (cus prompt (cl prompt))) text cur (cl text)).2.1, .int .i64 (curL Wn (layL Wn lst0 (cus prompt (cl prompt))) text cur (cl text)).2.2]) ∧ Hid (Fr X ov ((layPT Wn prompt text).all.map trmL) Y ∧ Below X.heap.size X Y) at CL0
  generalize (curL Wn (layL Wn lst0 (cus prompt (cl prompt))) text cur (cl text)).2 = cu at CL0
  have hsh : 2 ≤ Wn → shR ((layPT Wn prompt text).all.map trmL) = wnt prompt ++ wnt text := fun h => sh_all h prompt text
  have hwl1 := wnt_len prompt
  have hwl2 := wnt_len text
  generalize (layPT Wn prompt text).all.map trmL = R at hall hrl CL0 hsh
  obtain ⟨nR, hnR⟩ : ∃ nR, R.length = nR := ⟨_, rfl⟩
  have CL : Hid (∀ X, Below w.heap.size w X → Calls Tryd.prog 10 #[.string prompt, .string text, .int .i64 cur, .int .i64 W0] X fun e Y => ∃ oa ok, e = .returned (.agg #[.int .i64 (Wn : Int), .slice oa nR ok, .int .i64 (cu.1 : Int), .int .i64 (cu.2 : Int)]) ∧ Hid (RdRw Y (.slice oa nR ok) R ∧ Below X.heap.size X Y)) := fun X hX => (CL0 X hX).mono fun e Y ⟨ov, he, HF⟩ => by
    have hf := fr_rdS HF.out.1
    obtain ⟨oa, ok, ho, -⟩ := id hf
    rw [hnR] at ho
    subst ho
    exact ⟨oa, ok, he, hf, HF.out.2⟩
  have CW : Hid (∀ X, Calls Tryd.prog 16 #[.int .i64 W0] X fun e w' => e = .returned (.int .i64 Wn) ∧ X = w') := fun X => by rw [hW]; exact wid_anyS W0 X
  obtain ⟨Nprompt, hNprompt⟩ : ∃ N, (cl prompt).length = N := ⟨_, rfl⟩
  have Hprompt : Hid (∀ i, i < Nprompt → bdF prompt i < bdF prompt (i + 1) ∧ bdF prompt (i + 1) ≤ prompt.size ∧ ∃ c, (cl prompt)[i]? = some c ∧ wntK prompt (i + 1) = wntK prompt i ++ barL (drC prompt c) ∧ (wntK prompt i).length + (barL (drC prompt c)).length ≤ 3 * prompt.size ∧ (∀ X, Below w.heap.size w X → Calls Tryd.prog 19 #[.string (prompt.extract (bdF prompt i) (bdF prompt (i + 1)))] X fun e Y => e = .returned (.string (drC prompt c)) ∧ Hid (Below X.heap.size X Y)) ∧ (∀ X, Below w.heap.size w X → Calls Tryd.prog 18 #[.string (drC prompt c)] X fun e Y => e = .returned (.string ⟨(barL (drC prompt c)).toArray⟩) ∧ Hid (Below X.heap.size X Y))) := fun i hi => by
    obtain ⟨c, hc⟩ : ∃ c, (cl prompt)[i]? = some c := ⟨_, List.getElem?_eq_getElem (by omega)⟩
    have hm := List.mem_of_getElem? hc
    have hnx := wntK_next hc
    have hle := wntK_le prompt (i + 1)
    rw [hnx, List.length_append] at hle
    have hsp := cl_span hm
    have hdl := dr_len hm
    refine ⟨(bdF_lt (by omega)).1, (bdF_lt (by omega)).2.1, c, hc, hnx, Nat.le_trans hle (wnt_len prompt), fun X hX => ?_, fun X hX => bare_any _ (by omega) X (tb hX).1⟩
    obtain ⟨b1, b2⟩ := bdF_at hc
    rw [b1, b2]
    have := drawn_any (prompt.extract c.fr c.to) (by unfold maxLen; simp; omega) (by simp; omega) X (tb hX).1 (tb hX).2.1 (tb hX).2.2
    rw [drawn_one hm] at this
    exact this
  have HEprompt : Hid (bdF prompt Nprompt = prompt.size ∧ wntK prompt Nprompt = wnt prompt) := ⟨bdF_end prompt (by omega), by unfold wntK wnt; rw [← hNprompt, List.take_length]⟩
  have CNprompt : Hid (∀ (i : Nat) X, i ≤ Nprompt → Below w.heap.size w X → Calls Tryd.prog 17 #[.string prompt, .int .i64 (bdF prompt i : Int)] X fun e Y => e = .returned (.int .i64 (bdF prompt (i + 1) : Int)) ∧ Hid (Below X.heap.size X Y)) := fun i X hi hX => cnx_any prompt (by omega) i (by omega) X (tb hX).1
  obtain ⟨Ntext, hNtext⟩ : ∃ N, (cl text).length = N := ⟨_, rfl⟩
  have Htext : Hid (∀ i, i < Ntext → bdF text i < bdF text (i + 1) ∧ bdF text (i + 1) ≤ text.size ∧ ∃ c, (cl text)[i]? = some c ∧ wntK text (i + 1) = wntK text i ++ barL (drC text c) ∧ (wntK text i).length + (barL (drC text c)).length ≤ 3 * text.size ∧ (∀ X, Below w.heap.size w X → Calls Tryd.prog 19 #[.string (text.extract (bdF text i) (bdF text (i + 1)))] X fun e Y => e = .returned (.string (drC text c)) ∧ Hid (Below X.heap.size X Y)) ∧ (∀ X, Below w.heap.size w X → Calls Tryd.prog 18 #[.string (drC text c)] X fun e Y => e = .returned (.string ⟨(barL (drC text c)).toArray⟩) ∧ Hid (Below X.heap.size X Y))) := fun i hi => by
    obtain ⟨c, hc⟩ : ∃ c, (cl text)[i]? = some c := ⟨_, List.getElem?_eq_getElem (by omega)⟩
    have hm := List.mem_of_getElem? hc
    have hnx := wntK_next hc
    have hle := wntK_le text (i + 1)
    rw [hnx, List.length_append] at hle
    have hsp := cl_span hm
    have hdl := dr_len hm
    refine ⟨(bdF_lt (by omega)).1, (bdF_lt (by omega)).2.1, c, hc, hnx, Nat.le_trans hle (wnt_len text), fun X hX => ?_, fun X hX => bare_any _ (by omega) X (tb hX).1⟩
    obtain ⟨b1, b2⟩ := bdF_at hc
    rw [b1, b2]
    have := drawn_any (text.extract c.fr c.to) (by unfold maxLen; simp; omega) (by simp; omega) X (tb hX).1 (tb hX).2.1 (tb hX).2.2
    rw [drawn_one hm] at this
    exact this
  have HEtext : Hid (bdF text Ntext = text.size ∧ wntK text Ntext = wnt text) := ⟨bdF_end text (by omega), by unfold wntK wnt; rw [← hNtext, List.take_length]⟩
  have CNtext : Hid (∀ (i : Nat) X, i ≤ Ntext → Below w.heap.size w X → Calls Tryd.prog 17 #[.string text, .int .i64 (bdF text i : Int)] X fun e Y => e = .returned (.int .i64 (bdF text (i + 1) : Int)) ∧ Hid (Below X.heap.size X Y)) := fun i X hi hX => cnx_any text (by omega) i (by omega) X (tb hX).1
  have HSZ : Hid (prompt.size ≤ 1048576 ∧ text.size ≤ 1048576 ∧ (wnt prompt).length ≤ 3145728) := ⟨hp, ht, by omega⟩
  have CS0 : Hid (2 ≤ Wn → ∀ oa ok X, RdRw X (.slice oa nR ok) R → Calls Tryd.prog 20 #[.agg #[.int .i64 (Wn : Int), .slice oa nR ok, .int .i64 (cu.1 : Int), .int .i64 (cu.2 : Int)]] X fun e Y => e = .returned (.string ⟨(wnt prompt ++ wnt text).toArray⟩) ∧ Hid (Below X.heap.size X Y)) := fun h2 oa ok X hr => by
    have hs := hsh h2
    have := shown_any Wn cu.1 cu.2 (.slice oa nR ok) R (by omega) (fun l hl => by have := hrl l hl; omega) (by rw [hs, List.length_append]; omega) X hr
    rw [hs] at this
    exact this
  have HB0 : Hid (Below w.heap.size w (w.alloc (.cells #[.string prompt, .string text, .int .i64 cur, .int .i64 W0] 25)) ∧ (w.alloc (.cells #[.string prompt, .string text, .int .i64 cur, .int .i64 W0] 25)).heap[w.heap.size]? = some (.cells #[.string prompt, .string text, .int .i64 cur, .int .i64 W0] 25 (0, 0))) := ⟨(Below.refl _ w).alloc (Nat.le_refl _) _, World.alloc_heap_new _ _⟩
  have HT : Hid (∀ X Y : World, Below w.heap.size w X ∧ X.heap[w.heap.size]? = some (.cells #[.string prompt, .string text, .int .i64 cur, .int .i64 W0] 25 (0, 0)) → Below X.heap.size X Y → Below w.heap.size w Y ∧ Y.heap[w.heap.size]? = some (.cells #[.string prompt, .string text, .int .i64 cur, .int .i64 W0] 25 (0, 0))) := fun X Y hX hY => ⟨hX.1.trans (hY.mono hX.1.size), (hY.block _ (Array.getElem?_eq_some_iff.1 hX.2).1).trans hX.2⟩
  have HN : Hid (1 ≤ Wn ∧ Wn ≤ 65535) := by show _ ∧ _; omega
  clear hM hT hW hWb hW1 hnar hrows hall hrl hp ht tb hlo0 hlo1 CL0 hsh hwl1 hwl2 hNprompt hNtext hnR
  go_enter Tryd.func6, Tryd.ntmps6
  go_upto_region 3 with (go_at_call 7; refine (CA.out _ HB0.out.1).mono ?_; clear CA; rintro e w1 ⟨rfl, HB1⟩; have HX1 := HT.out _ w1 HB0.out HB1.out; obtain ⟨⟨x0, x1, x2, x3⟩, -⟩ := box4 HX1.2; replace HX1 : Hid _ := HX1)
  by_cases hw2 : Wn < 2
  · have hw3 : (Wn : Int) < 2 := by omega
    clear CS0 CL Hprompt Htext CNprompt CNtext HEprompt HEtext
    go_wp2_with (go_at_call 16; refine (CW.out _).mono ?_; clear CW; rintro e w2 ⟨rfl, rfl⟩)
    go_ret
    exact ⟨rfl, HX1.out.1⟩
  have hw3 : ¬ (Wn : Int) < 2 := by omega
  have CS1 : Hid _ := CS0.out (by omega)
  go_upto_region 5 with (go_at_call 16; refine (CW.out _).mono ?_; clear CW; rintro e w2 ⟨rfl, rfl⟩)
  go_upto_region 6 with (go_at_call 10; refine (CL.out _ HX1.out.1).mono ?_; clear CL; rintro e w3 ⟨oa, ok, rfl, H3⟩)
  have HV0 : Hid ((Below w.heap.size w (w3.alloc (.cells #[.int .i64 (Wn : Int), .slice oa nR ok, .int .i64 (cu.1 : Int), .int .i64 (cu.2 : Int)] 30)) ∧ (w3.alloc (.cells #[.int .i64 (Wn : Int), .slice oa nR ok, .int .i64 (cu.1 : Int), .int .i64 (cu.2 : Int)] 30)).heap[w.heap.size]? = some (.cells #[.string prompt, .string text, .int .i64 cur, .int .i64 W0] 25 (0, 0))) ∧ (w3.alloc (.cells #[.int .i64 (Wn : Int), .slice oa nR ok, .int .i64 (cu.1 : Int), .int .i64 (cu.2 : Int)] 30)).heap[w3.heap.size]? = some (.cells #[.int .i64 (Wn : Int), .slice oa nR ok, .int .i64 (cu.1 : Int), .int .i64 (cu.2 : Int)] 30 (0, 0)) ∧ RdRw (w3.alloc (.cells #[.int .i64 (Wn : Int), .slice oa nR ok, .int .i64 (cu.1 : Int), .int .i64 (cu.2 : Int)] 30)) (.slice oa nR ok) R) := by
    have hb : Below w3.heap.size w3 (w3.alloc (.cells #[.int .i64 (Wn : Int), .slice oa nR ok, .int .i64 (cu.1 : Int), .int .i64 (cu.2 : Int)] 30)) := (Below.refl _ w3).alloc (Nat.le_refl _) _
    exact ⟨HT.out _ _ (HT.out _ _ HX1.out H3.out.2) hb, World.alloc_heap_new _ _, H3.out.1.below (Nat.le_refl _) hb⟩
  clear x0 x1 x2 x3 H3 HX1 HB1 HB0 hw2 hw3 CS0
  generalize (w3.alloc (.cells #[.int .i64 (Wn : Int), .slice oa nR ok, .int .i64 (cu.1 : Int), .int .i64 (cu.2 : Int)] 30)) = V at HV0 ⊢
  generalize w3.heap.size = b3 at HV0 ⊢
  have HX : Hid (∀ Y, Below V.heap.size V Y → Below w.heap.size w Y ∧ (Y.cell? ⟨w.heap.size, 0, none⟩ = some (.string prompt) ∧ Y.cell? ⟨w.heap.size, 1, none⟩ = some (.string text)) ∧ (Y.cell? ⟨b3, 0, none⟩ = some (.int .i64 (Wn : Int)) ∧ Y.cell? ⟨b3, 1, none⟩ = some (.slice oa nR ok) ∧ Y.cell? ⟨b3, 2, none⟩ = some (.int .i64 (cu.1 : Int)) ∧ Y.cell? ⟨b3, 3, none⟩ = some (.int .i64 (cu.2 : Int))) ∧ RdRw Y (.slice oa nR ok) R) := fun Y hY => by
    have h := HT.out _ _ HV0.out.1 hY
    obtain ⟨⟨x0, x1, x2, x3⟩, -⟩ := box4 h.2
    obtain ⟨⟨y0, y1, y2, y3⟩, -⟩ := box4 ((hY.block _ (Array.getElem?_eq_some_iff.1 HV0.out.2.1).1).trans HV0.out.2.1)
    exact ⟨h.1, ⟨x0, x1⟩, ⟨y0, y1, y2, y3⟩, HV0.out.2.2.below (Nat.le_refl _) hY⟩
  have CS : Hid (∀ X, Below w.heap.size w X → RdRw X (.slice oa nR ok) R → Calls Tryd.prog 20 #[.agg #[.int .i64 (Wn : Int), .slice oa nR ok, .int .i64 (cu.1 : Int), .int .i64 (cu.2 : Int)]] X fun e Y => e = .returned (.string ⟨(wnt prompt ++ wnt text).toArray⟩) ∧ Hid (Below X.heap.size X Y)) := fun X _ hr => CS1.out oa ok X hr
  clear HV0 HT CS1
  go_wp2
  go_loopw [4, 5] (fun t4 t5 wr => ∃ i : Nat, i ≤ Nprompt ∧ t5 = .int .i64 (bdF prompt i : Int) ∧ t4 = .string ⟨(wntK prompt i).toArray⟩ ∧ Hid (Below V.heap.size V wr)) (fun _ t5 _ => prompt.size - (intOf t5).toNat)
  case atStart => exact ⟨0, Nat.zero_le _, by rw [bdF_zero]; rfl, by rw [wntK_zero], Below.refl _ V⟩
  case round =>
    obtain ⟨i, hi, rfl, rfl, HW⟩ := hrel
    obtain ⟨hbw, ⟨x0, x1⟩, -⟩ := HX.out wr HW.out
    by_cases hlt : i < Nprompt
    · obtain ⟨h1, h2, c, hc, hnx, hle, CD, CB⟩ := Hprompt.out i hlt
      have CT := CNprompt.out i wr hi hbw
      have HI : Hid (i < Nprompt) := hlt
      obtain ⟨a, ha⟩ : ∃ a, bdF prompt i = a := ⟨_, rfl⟩
      obtain ⟨b, hb⟩ : ∃ b, bdF prompt (i + 1) = b := ⟨_, rfl⟩
      rw [ha, hb] at CT CD
      rw [ha, hb] at h1
      rw [hb] at h2
      rw [ha]
      have HBB : Hid (bdF prompt (i + 1) = b) := hb
      have g1 : (a : Int) < (prompt.size : Int) := by omega
      have g2 : ¬ (b : Int) ≤ (a : Int) := by omega
      have g3 : (a : Int) ≤ (b : Int) := by omega
      have g4 : (b : Int) ≤ (prompt.size : Int) := by omega
      have CD2 : Hid _ := CD
      have CB2 : Hid _ := CB
      obtain ⟨bs, hbs⟩ : ∃ bs, barL (drC prompt c) = bs := ⟨_, rfl⟩
      rw [hbs] at CB2 hnx hle
      have HNX : Hid (wntK prompt (i + 1) = wntK prompt i ++ bs) := hnx
      have hq : ¬ 9223372036854775807 < (wntK prompt i).length + bs.length := by have := HSZ.out; omega
      have hq2 : ¬ 9223372036854775807 < (wntK prompt i).length + bs.length := by have := HSZ.out; omega
      clear hnx hc hlt ha hb hle CD CB hbs hbw
      go_wp2_with (first | (go_at_call 17; refine CT.mono ?_; clear CT x0 x1; rintro e w11 ⟨rfl, HB11⟩; have HW1 : Hid (Below V.heap.size V w11) := HW.out.trans (HB11.out.mono HW.out.size); obtain ⟨-, ⟨x0, x1⟩, -⟩ := HX.out w11 HW1.out) | (go_at_call 19; refine (CD2.out w11 (HX.out w11 HW1.out).1).mono ?_; clear CD2 x0 x1; rintro e w12 ⟨rfl, HB12⟩; have HW2 : Hid (Below V.heap.size V w12) := HW1.out.trans (HB12.out.mono HW1.out.size)) | (go_at_call 18; refine (CB2.out w12 (HX.out w12 HW2.out).1).mono ?_; clear CB2; rintro e w13 ⟨rfl, HB13⟩; have HW3 : Hid (Below V.heap.size V w13) := HW2.out.trans (HB13.out.mono HW2.out.size)))
      exact ⟨⟨i + 1, by have := HI.out; omega, by rw [HBB.out], by rw [HNX.out, ← str_app], HW3⟩, by simp [intOf]; omega⟩
    · have e : i = Nprompt := by omega
      subst e
      rw [HEprompt.out.1, HEprompt.out.2]
      go_wp2
      clear x0 x1 hbw
      go_loopw [4, 5] (fun t4 t5 wr => ∃ i : Nat, i ≤ Ntext ∧ t5 = .int .i64 (bdF text i : Int) ∧ t4 = .string ⟨(wnt prompt ++ wntK text i).toArray⟩ ∧ Hid (Below V.heap.size V wr)) (fun _ t5 _ => text.size - (intOf t5).toNat)
      case atStart => exact ⟨0, Nat.zero_le _, by rw [bdF_zero]; rfl, by rw [wntK_zero, List.append_nil], HW⟩
      case round =>
        obtain ⟨i, hi, rfl, rfl, HW⟩ := hrel
        obtain ⟨hbw, ⟨x0, x1⟩, -⟩ := HX.out wr HW.out
        by_cases hlt : i < Ntext
        · obtain ⟨h1, h2, c, hc, hnx, hle, CD, CB⟩ := Htext.out i hlt
          have CT := CNtext.out i wr hi hbw
          have HI : Hid (i < Ntext) := hlt
          obtain ⟨a, ha⟩ : ∃ a, bdF text i = a := ⟨_, rfl⟩
          obtain ⟨b, hb⟩ : ∃ b, bdF text (i + 1) = b := ⟨_, rfl⟩
          rw [ha, hb] at CT CD
          rw [ha, hb] at h1
          rw [hb] at h2
          rw [ha]
          have HBB : Hid (bdF text (i + 1) = b) := hb
          have g1 : (a : Int) < (text.size : Int) := by omega
          have g2 : ¬ (b : Int) ≤ (a : Int) := by omega
          have g3 : (a : Int) ≤ (b : Int) := by omega
          have g4 : (b : Int) ≤ (text.size : Int) := by omega
          have CD2 : Hid _ := CD
          have CB2 : Hid _ := CB
          obtain ⟨bs, hbs⟩ : ∃ bs, barL (drC text c) = bs := ⟨_, rfl⟩
          rw [hbs] at CB2 hnx hle
          have HNX : Hid (wntK text (i + 1) = wntK text i ++ bs) := hnx
          have hq : ¬ 9223372036854775807 < (wnt prompt).length + (wntK text i).length + bs.length := by have := HSZ.out; omega
          have hq2 : ¬ 9223372036854775807 < (wnt prompt ++ wntK text i).length + bs.length := by have := HSZ.out; rw [List.length_append]; omega
          clear hnx hc hlt ha hb hle CD CB hbs hbw
          go_wp2_with (first | (go_at_call 17; refine CT.mono ?_; clear CT x0 x1; rintro e w11 ⟨rfl, HB11⟩; have HW1 : Hid (Below V.heap.size V w11) := HW.out.trans (HB11.out.mono HW.out.size); obtain ⟨-, ⟨x0, x1⟩, -⟩ := HX.out w11 HW1.out) | (go_at_call 19; refine (CD2.out w11 (HX.out w11 HW1.out).1).mono ?_; clear CD2 x0 x1; rintro e w12 ⟨rfl, HB12⟩; have HW2 : Hid (Below V.heap.size V w12) := HW1.out.trans (HB12.out.mono HW1.out.size)) | (go_at_call 18; refine (CB2.out w12 (HX.out w12 HW2.out).1).mono ?_; clear CB2; rintro e w13 ⟨rfl, HB13⟩; have HW3 : Hid (Below V.heap.size V w13) := HW2.out.trans (HB13.out.mono HW2.out.size)))
          exact ⟨⟨i + 1, by have := HI.out; omega, by rw [HBB.out], by rw [HNX.out, ← List.append_assoc, ← str_app], HW3⟩, by simp [intOf]; omega⟩
        · have e : i = Ntext := by omega
          subst e
          rw [HEtext.out.1, HEtext.out.2]
          have CS1 := CS.out wr hbw (HX.out wr HW.out).2.2.2
          obtain ⟨-, -, ⟨y0, y1, y2, y3⟩, -⟩ := HX.out wr HW.out
          have HWB : Hid (Below w.heap.size w wr) := hbw
          clear hbw HN Hprompt Htext CNprompt CNtext HEprompt HEtext
          go_wp2_with (go_at_call 20; refine CS1.mono ?_; clear CS1; rintro e w20 ⟨rfl, HB20⟩)
          go_ret
          exact ⟨by simp, HWB.out.trans (HB20.out.mono HWB.out.size)⟩
theorem walk_of {H : Type} {d : DataW H} (a : Akf) (w : World) (hT : Lib.Utf8Tabs 0 1 w) (hlo0 : 0 < w.heap.size) (hlo1 : 1 < w.heap.size) (hx : a.p.size + a.t.size ≤ Rows.uptoBulk d) (hk : Rows.uptoSmall H ([d] ++ []) = true) :
    Calls Tryd.prog 6 #[akfv a] w fun e w' => e = .returned (.bool true) ∧ Below w.heap.size w w' := by
  have h : Rows.uptoBulkAll ([d] ++ []) ≤ 1048576 := of_decide_eq_true hk
  simp only [List.append_nil, Rows.uptoBulkAll] at h
  exact walk (by kernel_rfl) a.p a.t a.c a.w (by omega) (by omega) w hT hlo0 hlo1
end Go.Proofs.YtfjoklbiocniiaaDoor.layoutShows
