/-
  The walk of the law LayoutLays: the program's Lay and Rows are the document's. Conditions: those of walk_of.
-/
import Derived.Deep.CutRange
import Derived.Deep.RegionHeld3
import Derived.Test.YtfjoklbiocniiaaDoorOAwk
import Derived.Test.YtfjoklbiocniiaaDoorOAks
import Derived.Test.YtfjoklbiocniiaaDoorORws
import Derived.Test.YtfjoklbiocniiaaDoorOSmd
import Derived.Test.YtfjoklbiocniiaaDoorPkOK
namespace Go.Proofs.YtfjoklbiocniiaaDoor
open Go.RowKit Go.Shelf Bod Wid
/-- rows in blocks of their own read as they are -/
theorem fr_rd {w Y : World} {ov : Value} {R : List (List Cel)} (h : Fr w ov R Y) : RdRw Y ov R := by
  obtain ⟨vs, rfl, hown, heach, -⟩ := h
  refine rdrw_of hown (fun i rv l h1 h2 => ?_) (by rw [List.length_map])
  rw [List.getElem?_map] at h1 h2
  cases e : vs[i]? with
  | none => rw [e] at h1; cases h1
  | some o =>
    rw [e] at h1 h2
    obtain rfl := Option.some.inj h1
    obtain rfl := Option.some.inj h2
    exact rdce_of (heach o (List.mem_of_getElem? e)) rfl
end Go.Proofs.YtfjoklbiocniiaaDoor
namespace Go.Proofs.YtfjoklbiocniiaaDoor.layoutLays
open Go.RowKit Go.Shelf Bod Wid
set_option maxRecDepth 100000 in
set_option maxHeartbeats 4000000 in
theorem walk (hM : Tryd.prog.follows .mixedOrders = true) (v : Value) (l : List Akf) (hlen : l.length ≤ 1048576) (hsz : ∀ x ∈ l, x.p.size ≤ 1048576 ∧ x.t.size ≤ 1048576) (w : World) (hT : Lib.Utf8Tabs 0 1 w) (hlo0 : 0 < w.heap.size) (hlo1 : 1 < w.heap.size) (h : RdAk w v l) :
    Calls Tryd.prog 3 #[v] w fun e w' => e = .returned (.bool true) ∧ Below w.heap.size w w' := by
  obtain ⟨a, cap, rfl, hc⟩ := h
  obtain ⟨n, hn⟩ : ∃ n, l.length = n := ⟨_, rfl⟩
  rw [hn] at hlen ⊢
  have tb : ∀ {X : World}, Below w.heap.size w X → Lib.Utf8Tabs 0 1 X ∧ 0 < X.heap.size ∧ 1 < X.heap.size := fun {X} hX => ⟨tabs_below hT hX, Nat.lt_of_lt_of_le hlo0 hX.size, Nat.lt_of_lt_of_le hlo1 hX.size⟩
  have CA : Hid (∀ X, Below w.heap.size w X → Calls Tryd.prog 7 #[] X fun e w' => e = .returned (.bool true) ∧ Hid (Below X.heap.size X w')) := fun X hX => awk_any hM X (tb hX).1 (tb hX).2.1 (tb hX).2.2
  have HC : Hid (l.length = n ∧ ∀ (k : Nat) x, l[k]? = some x → ∃ g o, a = some ⟨g, o, none⟩ ∧ w.cell? ⟨g, o + k * 4, none⟩ = some (.string x.p) ∧ w.cell? ⟨g, o + k * 4 + 1, none⟩ = some (.string x.t) ∧ w.cell? ⟨g, o + k * 4 + 2, none⟩ = some (.int .i64 x.c) ∧ w.cell? ⟨g, o + k * 4 + 3, none⟩ = some (.int .i64 x.w)) := ⟨hn, hc⟩
  have HS : Hid (∀ x ∈ l, ∃ (Wn : Nat) (R : List (List Cel)) (nR : Nat) (cu : Nat × Nat), R.length = nR ∧ Fsz ⟨Wn, R, cu.1, cu.2⟩ ∧ nR ≤ 16777216 ∧
      (∀ X, Below w.heap.size w X → Calls Tryd.prog 8 #[.string x.p, .string x.t, .int .i64 x.c, .int .i64 x.w] X fun e Y => ∃ oa ok, e = .returned (.agg #[.int .i64 (Wn : Int), .slice oa nR ok, .int .i64 (cu.1 : Int), .int .i64 (cu.2 : Int)]) ∧ Hid (RdRw Y (.slice oa nR ok) R ∧ Below X.heap.size X Y)) ∧
      (∀ X, Below w.heap.size w X → Calls Tryd.prog 10 #[.string x.p, .string x.t, .int .i64 x.c, .int .i64 x.w] X fun e Y => ∃ oa ok, e = .returned (.agg #[.int .i64 (Wn : Int), .slice oa nR ok, .int .i64 (cu.1 : Int), .int .i64 (cu.2 : Int)]) ∧ Hid (RdRw Y (.slice oa nR ok) R ∧ Below X.heap.size X Y)) ∧
      (∀ X, Below w.heap.size w X → Calls Tryd.prog 11 #[.string x.p, .string x.t, .int .i64 x.w] X fun e Y => e = .returned (.int .i64 (nR : Int)) ∧ Hid (Below X.heap.size X Y))) := fun x hx => by
    obtain ⟨hp, ht⟩ := hsz x hx
    obtain ⟨Wn, hW⟩ : ∃ Wn : Nat, (Wn : Int) = couW x.w := ⟨(couW x.w).toNat, by have := couW_in x.w; omega⟩
    have hWb := couW_in x.w
    have hW1 : 1 ≤ Wn := by omega
    have hnar : Nar Wn (layPT Wn x.p x.t) := layL_nar hW1 (cus_n (s := x.t) (l := cl x.t) (fun _ h => h)) (layL_ok hW1 (cus_n (s := x.p) (l := cl x.p) (fun _ h => h)) (lst0_ok hW1)) (layL_nar hW1 (cus_n (s := x.p) (l := cl x.p) (fun _ h => h)) (lst0_ok hW1) (lst0_nar Wn))
    have hrows := layPT_rows Wn x.p x.t
    have hall : ((layPT Wn x.p x.t).all.map trmL).length = (layPT Wn x.p x.t).rows.length + 1 := by rw [List.length_map, Lst.all_len]; rfl
    refine ⟨Wn, (layPT Wn x.p x.t).all.map trmL, (layPT Wn x.p x.t).rows.length + 1, (curL Wn (layL Wn lst0 (cus x.p (cl x.p))) x.t x.c (cl x.t)).2, hall, ⟨by show ((layPT Wn x.p x.t).all.map trmL).length ≤ _; omega, fun r hr => ?_⟩, by omega, fun X hX => ?_, fun X hX => ?_, fun X hX => ?_⟩
    · obtain ⟨r0, h0, rfl⟩ := List.mem_map.1 hr
      obtain ⟨m, hm, e⟩ := trm_pre r0
      rw [e, List.length_take]
      have := hnar r0 h0
      omega
    · refine (rlay_any hM x.p x.t x.c x.w (by omega) (by omega) X Wn hW).mono fun e Y ⟨ov, he, HF⟩ => ?_
      obtain ⟨hf, hb⟩ := HF.out
      obtain ⟨oa, ok, ho, -⟩ := id hf
      rw [hall] at ho
      subst ho
      exact ⟨oa, ok, he, hf, hb⟩
    · refine (lay0_any hM x.p x.t x.c x.w (by omega) (by omega) X (tb hX).1 (tb hX).2.1 (tb hX).2.2 Wn hW).mono fun e Y ⟨ov, he, HF⟩ => ?_
      obtain ⟨hf, hb⟩ := HF.out
      have hf := fr_rd hf
      obtain ⟨oa, ok, ho, -⟩ := id hf
      change ov = .slice oa ((layPT Wn x.p x.t).all.map trmL).length ok at ho
      rw [hall] at ho
      subst ho
      exact ⟨oa, ok, he, hf, hb⟩
    · refine (rows_any x.p x.t x.w (by omega) (by omega) X (tb hX).1 (tb hX).2.1 (tb hX).2.2 Wn hW).mono fun e Y ⟨he, hb⟩ => ?_
      exact ⟨he, hb⟩
  have HM : Hid (Tryd.prog.follows .mixedOrders = true) := hM
  clear hM hT hlo0 hlo1 tb hsz hc hn
  go_enter Tryd.func3, Tryd.ntmps3
  go_wp2_with (go_at_call 7; refine (CA.out _ (Below.refl _ w)).mono ?_; clear CA; rintro e w1 ⟨rfl, HB1⟩)
  go_loopw [3] (fun t3 wr => ∃ i : Nat, i ≤ n ∧ t3 = .int .i64 i ∧ Hid (Below w.heap.size w wr)) (fun t3 _ => n - (intOf t3).toNat)
  case atStart => exact ⟨0, Nat.zero_le _, rfl, HB1.out⟩
  case round =>
    obtain ⟨i, hi, rfl, HB⟩ := hrel
    clear HB1
    by_cases hlt : i < n
    · obtain ⟨x, hx⟩ : ∃ x, l[i]? = some x := ⟨l[i]'(by rw [HC.out.1]; exact hlt), List.getElem?_eq_getElem _⟩
      obtain ⟨g, o, rfl, z0, z1, z2, z3⟩ := HC.out.2 i x hx
      obtain ⟨Wn, R, nR, cu, hR1, hR2, hR3, C1, C2, C3⟩ := HS.out x (List.mem_of_getElem? hx)
      have z0 := (HB.out.cell (p := ⟨g, o + i * 4, none⟩) (World.block_lt_of_cell? w _ z0)).trans z0
      have z1 := (HB.out.cell (p := ⟨g, o + i * 4 + 1, none⟩) (World.block_lt_of_cell? w _ z1)).trans z1
      have z2 := (HB.out.cell (p := ⟨g, o + i * 4 + 2, none⟩) (World.block_lt_of_cell? w _ z2)).trans z2
      have z3 := (HB.out.cell (p := ⟨g, o + i * 4 + 3, none⟩) (World.block_lt_of_cell? w _ z3)).trans z3
      obtain ⟨xp, xt, xc, xw⟩ := x
      simp only at z0 z1 z2 z3 C1 C2 C3
      have CR : Hid _ := C1
      have CL : Hid _ := C2
      have CW : Hid _ := C3
      have HRR : Hid (R.length = nR ∧ Fsz ⟨Wn, R, cu.1, cu.2⟩ ∧ i < n) := ⟨hR1, hR2, hlt⟩
      have HA : Hid (Below w.heap.size w (wr.alloc (.cells #[.string xp, .string xt, .int .i64 xc, .int .i64 xw] 25)) ∧ (wr.alloc (.cells #[.string xp, .string xt, .int .i64 xc, .int .i64 xw] 25)).heap[wr.heap.size]? = some (.cells #[.string xp, .string xt, .int .i64 xc, .int .i64 xw] 25 (0, 0))) := ⟨HB.out.alloc HB.out.size _, World.alloc_heap_new _ _⟩
      clear C1 C2 C3 hR1 hR2 hx
      go_wp2_with (go_at_call 8; refine (CR.out _ HA.out.1).mono ?_; clear CR; rintro e w2 ⟨oa, ok, rfl, H2⟩)
      have HV0 : Hid (Below w.heap.size w (w2.alloc (.cells #[.int .i64 (Wn : Int), .slice oa nR ok, .int .i64 (cu.1 : Int), .int .i64 (cu.2 : Int)] 30)) ∧ (w2.alloc (.cells #[.int .i64 (Wn : Int), .slice oa nR ok, .int .i64 (cu.1 : Int), .int .i64 (cu.2 : Int)] 30)).heap[wr.heap.size]? = some (.cells #[.string xp, .string xt, .int .i64 xc, .int .i64 xw] 25 (0, 0)) ∧ (w2.alloc (.cells #[.int .i64 (Wn : Int), .slice oa nR ok, .int .i64 (cu.1 : Int), .int .i64 (cu.2 : Int)] 30)).heap[w2.heap.size]? = some (.cells #[.int .i64 (Wn : Int), .slice oa nR ok, .int .i64 (cu.1 : Int), .int .i64 (cu.2 : Int)] 30 (0, 0)) ∧ RdRw (w2.alloc (.cells #[.int .i64 (Wn : Int), .slice oa nR ok, .int .i64 (cu.1 : Int), .int .i64 (cu.2 : Int)] 30)) (.slice oa nR ok) R) := by
        have hb : Below w2.heap.size w2 (w2.alloc (.cells #[.int .i64 (Wn : Int), .slice oa nR ok, .int .i64 (cu.1 : Int), .int .i64 (cu.2 : Int)] 30)) := (Below.refl _ w2).alloc (Nat.le_refl _) _
        have h2 := HA.out.1.trans (H2.out.2.mono HA.out.1.size)
        have h3 := (H2.out.2.block _ (Array.getElem?_eq_some_iff.1 HA.out.2).1).trans HA.out.2
        exact ⟨h2.trans (hb.mono h2.size), (hb.block _ (Array.getElem?_eq_some_iff.1 h3).1).trans h3, World.alloc_heap_new _ _, H2.out.1.below (Nat.le_refl _) hb⟩
      clear H2 HA z0 z1 z2 z3
      generalize (w2.alloc (.cells #[.int .i64 (Wn : Int), .slice oa nR ok, .int .i64 (cu.1 : Int), .int .i64 (cu.2 : Int)] 30)) = V at HV0 ⊢
      generalize w2.heap.size = fb at HV0 ⊢
      generalize wr.heap.size = ab at HV0 ⊢
      have HX : Hid (∀ Y, Below V.heap.size V Y → Below w.heap.size w Y ∧ (Y.cell? ⟨ab, 0, none⟩ = some (.string xp) ∧ Y.cell? ⟨ab, 1, none⟩ = some (.string xt) ∧ Y.cell? ⟨ab, 2, none⟩ = some (.int .i64 xc) ∧ Y.cell? ⟨ab, 3, none⟩ = some (.int .i64 xw)) ∧ (Y.cell? ⟨fb, 0, none⟩ = some (.int .i64 (Wn : Int)) ∧ Y.cell? ⟨fb, 1, none⟩ = some (.slice oa nR ok) ∧ Y.cell? ⟨fb, 2, none⟩ = some (.int .i64 (cu.1 : Int)) ∧ Y.cell? ⟨fb, 3, none⟩ = some (.int .i64 (cu.2 : Int))) ∧ RdRw Y (.slice oa nR ok) R) := fun Y hY => by
        obtain ⟨⟨x0, x1, x2, x3⟩, -⟩ := box4 ((hY.block _ (Array.getElem?_eq_some_iff.1 HV0.out.2.1).1).trans HV0.out.2.1)
        obtain ⟨⟨y0, y1, y2, y3⟩, -⟩ := box4 ((hY.block _ (Array.getElem?_eq_some_iff.1 HV0.out.2.2.1).1).trans HV0.out.2.2.1)
        exact ⟨HV0.out.1.trans (hY.mono HV0.out.1.size), ⟨x0, x1, x2, x3⟩, ⟨y0, y1, y2, y3⟩, HV0.out.2.2.2.below (Nat.le_refl _) hY⟩
      have CS : Hid (∀ X oa1 ok1, RdRw X (.slice oa1 nR ok1) R → RdRw X (.slice oa nR ok) R → Calls Tryd.prog 9 #[.agg #[.int .i64 (Wn : Int), .slice oa1 nR ok1, .int .i64 (cu.1 : Int), .int .i64 (cu.2 : Int)], .agg #[.int .i64 (Wn : Int), .slice oa nR ok, .int .i64 (cu.1 : Int), .int .i64 (cu.2 : Int)]] X fun e Y => e = .returned (.bool true) ∧ Hid (Below X.heap.size X Y)) := fun X oa1 ok1 h1 h2 => by
        have := rsmf_any ⟨Wn, R, cu.1, cu.2⟩ ⟨Wn, R, cu.1, cu.2⟩ HRR.out.2.1 HRR.out.2.1 X ⟨_, rfl, h1⟩ ⟨_, rfl, h2⟩
        rw [fmE_self] at this
        exact this
      have HD : Hid (Below V.heap.size V V.drew) := (Below.refl _ V).drew
      obtain ⟨-, ⟨x0, x1, x2, x3⟩, ⟨y0, y1, y2, y3⟩, -⟩ := HX.out V (Below.refl _ V)
      clear HV0
      go_region_held3 (fun w' => w'.cell? ⟨ab, 0, none⟩ = some (.string xp) ∧ w'.cell? ⟨ab, 1, none⟩ = some (.string xt) ∧ w'.cell? ⟨ab, 2, none⟩ = some (.int .i64 xc) ∧ w'.cell? ⟨ab, 3, none⟩ = some (.int .i64 xw) ∧ w'.cell? ⟨fb, 0, none⟩ = some (.int .i64 (Wn : Int)) ∧ w'.cell? ⟨fb, 1, none⟩ = some (.slice oa nR ok) ∧ w'.cell? ⟨fb, 2, none⟩ = some (.int .i64 (cu.1 : Int)) ∧ w'.cell? ⟨fb, 3, none⟩ = some (.int .i64 (cu.2 : Int))) (first | go_keep | exact ⟨x0, x1, x2, x3, y0, y1, y2, y3⟩) (first | (go_at_call 10; refine (CL.out _ (HX.out _ HD.out).1).mono ?_; clear CL; rintro e w7 ⟨oa1, ok1, rfl, H7⟩; have HF : Hid (Below V.heap.size V w7) := HD.out.trans (H7.out.2.mono HD.out.size); clear x0 x1 x2 x3 y0 y1 y2 y3; obtain ⟨-, ⟨x0, x1, x2, x3⟩, ⟨y0, y1, y2, y3⟩, -⟩ := HX.out w7 HF.out) | (go_at_call 9; refine (CS.out _ _ _ H7.out.1 (HX.out _ HF.out).2.2.2).mono ?_; clear CS; rintro e w8 ⟨rfl, H8⟩; have HF8 : Hid (Below V.heap.size V w8) := HF.out.trans (H8.out.mono HF.out.size); clear x0 x1 x2 x3 y0 y1 y2 y3; obtain ⟨-, ⟨x0, x1, x2, x3⟩, ⟨y0, y1, y2, y3⟩, -⟩ := HX.out w8 HF8.out) | (go_at_call 11; refine (CW.out _ (HX.out _ HF8.out).1).mono ?_; clear CW; rintro e w9 ⟨rfl, H9⟩; have HF9 : Hid (Below V.heap.size V w9) := HF8.out.trans (H9.out.mono HF8.out.size); clear x0 x1 x2 x3 y0 y1 y2 y3; obtain ⟨-, ⟨x0, x1, x2, x3⟩, ⟨y0, y1, y2, y3⟩, -⟩ := HX.out w9 HF9.out) | fail)
      all_goals
        have HE : Hid (Below w.heap.size w w9) := (HX.out _ HF9.out).1
        clear x0 x1 x2 x3 y0 y1 y2 y3
        go_wp2
        exact ⟨⟨i + 1, by omega, by go_num, HE⟩, by simp [intOf]; omega⟩
    · go_wp2
      go_ret
      exact ⟨rfl, HB.out⟩
theorem walk_of {H : Type} {d : DataW H} (a : Option Addr) (len cap : Nat) (w : World) (hT : Lib.Utf8Tabs 0 1 w) (hlo0 : 0 < w.heap.size) (hlo1 : 1 < w.heap.size) (l : List Akf) (h : RdAk w (.slice a len cap) l) (hx : akwt l + 1 ≤ Rows.uptoBulk d) (hk : Rows.uptoSmall H ([d] ++ []) = true) :
    Calls Tryd.prog 3 #[.slice a len cap] w fun e w' => e = .returned (.bool true) ∧ Below w.heap.size w w' := by
  have hb : Rows.uptoBulkAll ([d] ++ []) ≤ 1048576 := of_decide_eq_true hk
  simp only [List.append_nil, Rows.uptoBulkAll] at hb
  have hl := akwt_len l
  exact walk (by kernel_rfl) _ l (by omega) (fun x hx' => by have := akwt_mem hx'; omega) w hT hlo0 hlo1 h
end Go.Proofs.YtfjoklbiocniiaaDoor.layoutLays
