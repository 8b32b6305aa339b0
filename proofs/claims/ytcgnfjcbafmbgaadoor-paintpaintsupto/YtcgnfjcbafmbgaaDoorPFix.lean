/-
  The statements' own steps, example and fixed of layer 21: they return true. Conditions: the tables lie as their text lays them.
-/
import Derived.Test.YtcgnfjcbafmbgaaDoorPkI
import Derived.Test.YtcgnfjcbafmbgaaDoorPNxt
namespace Go.Proofs.YtcgnfjcbafmbgaaDoor
open Go.RowKit Go.Shelf Bod Wid
def exR1 : List Cel := [⟨⟨#[97]⟩, 1⟩, ⟨⟨#[98]⟩, 1⟩]
def exR3 : List Cel := [⟨⟨#[228, 184, 128]⟩, 2⟩, ⟨⟨#[]⟩, 0⟩, ⟨⟨#[99]⟩, 1⟩, ⟨⟨#[100]⟩, 1⟩]
def exF : Fm := ⟨4, [exR1, [], exR3], 2, 3⟩
def exG : Fm := ⟨4, [exR1, [⟨⟨#[120]⟩, 1⟩]], 0, 0⟩
def exZ : Fm := ⟨0, [exR1, [], exR3], 0, 0⟩
theorem ex_fit : fitF exF = true := by kernel_rfl
theorem ex_fitz : fitF exZ = false := by kernel_rfl
theorem ex_full : fullL exF = [27, 91, 109, 27, 91, 72, 27, 91, 74, 27, 91, 49, 59, 49, 72, 97, 98, 27, 91, 51, 59, 49, 72, 228, 184, 128, 99, 100, 27, 91, 51, 59, 52, 72] := by kernel_rfl
theorem ex_next : nextL exF exG = [27, 91, 50, 59, 49, 72, 120, 27, 91, 75, 27, 91, 51, 59, 49, 72, 27, 91, 74, 27, 91, 49, 59, 49, 72] := by kernel_rfl
theorem ex_goto : gotoL 0 0 = [27, 91, 49, 59, 49, 72] := by kernel_rfl
theorem fs_of {f : Fm} (h : (decide (f.rows.length ≤ 2147483648) && f.rows.all fun l => decide (l.length ≤ 2147483648) && l.all fun c => decide (c.tx.size ≤ 2147483648)) = true) : Fs f := by
  simp only [Bool.and_eq_true, decide_eq_true_eq, List.all_eq_true] at h
  exact ⟨h.1, fun l hl => ⟨(h.2 l hl).1, fun c hc => by have := (h.2 l hl).2 c hc; unfold maxLen; omega⟩⟩
theorem exF_fs : Fs exF := fs_of (by kernel_rfl)
theorem exG_fs : Fs exG := fs_of (by kernel_rfl)
theorem exZ_fs : Fs exZ := fs_of (by kernel_rfl)
theorem exF_wt : fwt exF ≤ 1099511627776 := by have : fwt exF = 17 := by kernel_rfl
                                               omega
theorem exG_wt : fwt exG ≤ 1099511627776 := by have : fwt exG = 9 := by kernel_rfl
                                               omega
theorem func_some (f : Fn) (a b : Array Value) (w : World) : (binOp .neq 59 (.func f a b) .nilFunc).run Tryd.prog w = .ok (.bool true) w := by kernel_rfl
theorem ex_n1 : IsNext ⟨#[97]⟩ 0 1 := ⟨by decide +kernel, .inl (by decide), fun j h1 h2 => by omega⟩
theorem ex_s1 : IsSnap ⟨#[97]⟩ 1 1 := IsSnap.self (by decide +kernel)
set_option maxRecDepth 100000 in
set_option maxHeartbeats 1000000 in
theorem steps_any (w : World) (hT : Lib.Utf8Tabs 1 2 w) :
    Calls Tryd.prog 20 #[] w fun e w' => e = .returned (.bool true) ∧ Below w.heap.size w w' := by
  have cN : Calls Tryd.prog 34 #[.string ⟨#[97]⟩, .int .i64 0] w fun e w' => e = .returned (.int .i64 1) ∧ Below w.heap.size w w' :=
    (cnext_any ⟨#[97]⟩ 0 (by decide +kernel) w hT).mono fun e w' ⟨m, h1, h2, h3⟩ => ⟨by rw [h1, h2.uniq ex_n1]; rfl, h3⟩
  have CS : Hid (∀ W, Below w.heap.size w W → Calls Tryd.prog 35 #[.string ⟨#[97]⟩, .int .i64 1] W fun e w' => e = .returned (.int .i64 1) ∧ Below w.heap.size w w') := fun W hW =>
    (csnap_any ⟨#[97]⟩ 1 (by decide +kernel) W (tabs_below hT hW) (by decide)).mono fun e w' ⟨m, h1, h2, h3⟩ => ⟨by rw [h1, h2.uniq ex_s1]; rfl, hW.trans (h3.mono hW.size)⟩
  have hfn := func_some
  go_enter Tryd.func20, Tryd.ntmps20
  go_wp2_with (first | (go_at_call 34; refine cN.mono ?_; clear cN; rintro e w1 ⟨rfl, hb1⟩; have HB : Hid (Below w.heap.size w w1) := hb1; clear hb1) | (go_at_call 35; refine (CS.out _ HB.out).mono ?_; clear CS HB; rintro e w2 ⟨rfl, hb2⟩; have HB : Hid (Below w.heap.size w w2) := hb2; clear hb2) | (go_at_call 36; refine (walk_any _ _).mono ?_; rintro e w3 ⟨rfl, rfl⟩))
  go_ret
  exact ⟨rfl, HB.out.alloc HB.out.size _⟩
theorem rdce_of {W : World} {b k : Nat} {cs : Array Value} {t : TypeId} (h : W.heap[b]? = some (.cells cs t (0, 0))) (l : List Cel) (hl : ∀ (j : Nat) x, l[j]? = some x → cs[j * 2]? = some (.string x.tx) ∧ cs[j * 2 + 1]? = some (.int .i64 x.sp)) (hk : l.length ≤ k) : RdCe W (.slice (some ⟨b, 0, none⟩) l.length k) l :=
  ⟨_, _, rfl, fun _ => ⟨hk, b, 0, rfl, (Array.getElem?_eq_some_iff.1 h).1, fun j x hj => by
    obtain ⟨h1, h2⟩ := hl j x hj
    constructor
    · simpa [World.cell?, h] using h1
    · simpa [World.cell?, h] using h2⟩⟩
theorem rdce_nil (W : World) : RdCe W (.slice none 0 0) [] := ⟨_, _, rfl, fun h => absurd rfl h⟩
theorem rdrw_of {W : World} {b k : Nat} {cs : Array Value} {t : TypeId} (h : W.heap[b]? = some (.cells cs t (0, 0))) (L : List (List Cel)) (hl : ∀ (j : Nat) l, L[j]? = some l → ∃ rv, cs[j]? = some rv ∧ RdCe W rv l) (hk : L.length ≤ k) : RdRw W (.slice (some ⟨b, 0, none⟩) L.length k) L :=
  ⟨_, _, rfl, fun _ => ⟨hk, b, 0, rfl, (Array.getElem?_eq_some_iff.1 h).1, fun j l hj => by
    obtain ⟨rv, h1, h2⟩ := hl j l hj
    exact ⟨rv, by simpa [World.cell?, h] using h1, h2⟩⟩⟩
theorem push5 (a : Array Obj) (o0 o1 o2 o3 o4 : Obj) : (((((a.push o0).push o1).push o2).push o3).push o4)[a.size]? = some o0 ∧ (((((a.push o0).push o1).push o2).push o3).push o4)[a.size + 1]? = some o1 ∧ (((((a.push o0).push o1).push o2).push o3).push o4)[a.size + 1 + 1]? = some o2 ∧ (((((a.push o0).push o1).push o2).push o3).push o4)[a.size + 1 + 1 + 1]? = some o3 ∧ (((((a.push o0).push o1).push o2).push o3).push o4)[a.size + 1 + 1 + 1 + 1]? = some o4 := by
  obtain ⟨h0, h1, h2, h3⟩ := push4 a o0 o1 o2 o3
  have hs : ((((a.push o0).push o1).push o2).push o3).size = a.size + 1 + 1 + 1 + 1 := by simp only [Array.size_push]
  refine ⟨?_, ?_, ?_, ?_, ?_⟩
  · rw [Array.getElem?_push, if_neg (by omega)]; exact h0
  · rw [Array.getElem?_push, if_neg (by omega)]; exact h1
  · rw [Array.getElem?_push, if_neg (by omega)]; exact h2
  · rw [Array.getElem?_push, if_neg (by omega)]; exact h3
  · rw [Array.getElem?_push, if_pos (by omega)]
theorem exR1_in {W : World} {b : Nat} {t : TypeId} (h : W.heap[b]? = some (.cells #[.string ⟨#[97]⟩, .int .i64 1, .string ⟨#[98]⟩, .int .i64 1] t (0, 0))) : RdCe W (.slice (some ⟨b, 0, none⟩) 2 2) exR1 :=
  rdce_of h exR1 (fun j x hj => by
    rcases j with _ | _ | j
    · cases hj; exact ⟨rfl, rfl⟩
    · cases hj; exact ⟨rfl, rfl⟩
    · cases hj) (Nat.le_refl _)
theorem exR3_in {W : World} {b : Nat} {t : TypeId} (h : W.heap[b]? = some (.cells #[.string ⟨#[228, 184, 128]⟩, .int .i64 2, .string ⟨#[]⟩, .int .i64 0, .string ⟨#[99]⟩, .int .i64 1, .string ⟨#[100]⟩, .int .i64 1] t (0, 0))) : RdCe W (.slice (some ⟨b, 0, none⟩) 4 4) exR3 :=
  rdce_of h exR3 (fun j x hj => by
    rcases j with _ | _ | _ | _ | j
    · cases hj; exact ⟨rfl, rfl⟩
    · cases hj; exact ⟨rfl, rfl⟩
    · cases hj; exact ⟨rfl, rfl⟩
    · cases hj; exact ⟨rfl, rfl⟩
    · cases hj) (Nat.le_refl _)
theorem exRx_in {W : World} {b : Nat} {t : TypeId} (h : W.heap[b]? = some (.cells #[.string ⟨#[120]⟩, .int .i64 1] t (0, 0))) : RdCe W (.slice (some ⟨b, 0, none⟩) 1 1) [⟨⟨#[120]⟩, 1⟩] :=
  rdce_of h [⟨⟨#[120]⟩, 1⟩] (fun j x hj => by
    rcases j with _ | j
    · cases hj; exact ⟨rfl, rfl⟩
    · cases hj) (Nat.le_refl _)
set_option maxRecDepth 100000 in
set_option maxHeartbeats 1000000 in
theorem example_any (w : World) : Calls Tryd.prog 21 #[] w fun e w' => (∃ sa sk, e = .returned (.agg #[.int .i64 4, .slice sa 3 sk, .int .i64 2, .int .i64 3]) ∧ RdRw w' (.slice sa 3 sk) exF.rows) ∧ Below w.heap.size w w' := by
  go_enter Tryd.func21, Tryd.ntmps21
  go_wp2
  refine bodyPost_ret (v := .agg #[.int .i64 4, .slice (some ⟨w.heap.size + 1 + 1 + 1, 0, none⟩) 3 3, .int .i64 2, .int .i64 3]) (by simp [results, Tryd.results21, go_sem]) rfl ⟨⟨_, _, rfl, ?_⟩, ?_⟩
  · obtain ⟨q0, q1, q2, q3⟩ := push4 w.heap (.cells #[.int .i64 4, .slice (some ⟨w.heap.size + 1 + 1 + 1, 0, none⟩) 3 3, .int .i64 2, .int .i64 3] 26) (.cells #[.string ⟨#[97]⟩, .int .i64 1, .string ⟨#[98]⟩, .int .i64 1] 40) (.cells #[.string ⟨#[228, 184, 128]⟩, .int .i64 2, .string ⟨#[]⟩, .int .i64 0, .string ⟨#[99]⟩, .int .i64 1, .string ⟨#[100]⟩, .int .i64 1] 40) (.cells #[.slice (some ⟨w.heap.size + 1, 0, none⟩) 2 2, .slice none 0 0, .slice (some ⟨w.heap.size + 1 + 1, 0, none⟩) 4 4] 29)
    exact rdrw_of q3 exF.rows (fun j l hj => by
      rcases j with _ | _ | _ | j
      · cases hj; exact ⟨_, rfl, exR1_in q1⟩
      · cases hj; exact ⟨_, rfl, rdce_nil _⟩
      · cases hj; exact ⟨_, rfl, exR3_in q2⟩
      · cases hj) (Nat.le_refl _)
  · exact ((((Below.refl _ w).alloc (Nat.le_refl _) _).alloc (by simp) _).alloc (by simp; omega) _).alloc (by simp; omega) _
set_option maxRecDepth 100000 in
set_option maxHeartbeats 2000000 in
theorem fixed_any (w : World) (hw : Pw w) : Calls Tryd.prog 7 #[] w fun e w' => e = .returned (.bool true) ∧ Below w.heap.size w w' := by
  have CS := steps_any w hw.1
  have HP : Hid (∀ X, Below w.heap.size w X → Pw X) := fun X hX => hw.below hX
  have CE : Hid (∀ X, Calls Tryd.prog 21 #[] X fun e w' => (∃ sa sk, e = .returned (.agg #[.int .i64 4, .slice sa 3 sk, .int .i64 2, .int .i64 3]) ∧ RdRw w' (.slice sa 3 sk) exF.rows) ∧ Below X.heap.size X w') := example_any
  clear hw
  go_enter Tryd.func7, Tryd.ntmps7
  go_upto_region 5 with (first
    | (go_at_call 20; refine CS.mono ?_; clear CS; rintro e w1 ⟨rfl, hb1⟩; have HB : Hid (Below w.heap.size w w1) := hb1; clear hb1)
    | (go_at_call 21; refine (CE.out _).mono ?_; clear CE; rintro e w2 ⟨⟨sa, sk, rfl, hrv⟩, hb2⟩; have HR : Hid (RdRw w2 (.slice sa 3 sk) exF.rows ∧ Below w.heap.size w w2) := ⟨hrv, HB.out.trans (hb2.mono HB.out.size)⟩; clear hrv hb2))
  obtain ⟨W5, hW5⟩ : ∃ W, (((((w2.alloc (.cells #[.int .i64 4, .slice sa 3 sk, .int .i64 2, .int .i64 3] 26)).alloc (.cells #[.string ⟨#[97]⟩, .int .i64 1, .string ⟨#[98]⟩, .int .i64 1] 40)).alloc (.cells #[.string ⟨#[120]⟩, .int .i64 1] 40)).alloc (.cells #[.slice (some ⟨w2.heap.size + 1, 0, none⟩) 2 2, .slice (some ⟨w2.heap.size + 1 + 1, 0, none⟩) 1 1] 29)).alloc (.cells #[.int .i64 4, .slice (some ⟨w2.heap.size + 1 + 1 + 1, 0, none⟩) 2 2, .int .i64 0, .int .i64 0] 26)) = W := ⟨_, rfl⟩
  have hq : W5.heap[w2.heap.size]? = some (.cells #[.int .i64 4, .slice sa 3 sk, .int .i64 2, .int .i64 3] 26 (0, 0)) ∧ W5.heap[w2.heap.size + 1 + 1 + 1 + 1]? = some (.cells #[.int .i64 4, .slice (some ⟨w2.heap.size + 1 + 1 + 1, 0, none⟩) 2 2, .int .i64 0, .int .i64 0] 26 (0, 0)) ∧ RdRw W5 (.slice (some ⟨w2.heap.size + 1 + 1 + 1, 0, none⟩) 2 2) exG.rows ∧ Below w2.heap.size w2 W5 := by
    obtain ⟨q0, q1, q2, q3, q4⟩ := push5 w2.heap (.cells #[.int .i64 4, .slice sa 3 sk, .int .i64 2, .int .i64 3] 26) (.cells #[.string ⟨#[97]⟩, .int .i64 1, .string ⟨#[98]⟩, .int .i64 1] 40) (.cells #[.string ⟨#[120]⟩, .int .i64 1] 40) (.cells #[.slice (some ⟨w2.heap.size + 1, 0, none⟩) 2 2, .slice (some ⟨w2.heap.size + 1 + 1, 0, none⟩) 1 1] 29) (.cells #[.int .i64 4, .slice (some ⟨w2.heap.size + 1 + 1 + 1, 0, none⟩) 2 2, .int .i64 0, .int .i64 0] 26)
    rw [← hW5]
    refine ⟨q0, q4, ?_, ?_⟩
    · exact rdrw_of q3 exG.rows (fun j l hj => by
        rcases j with _ | _ | j
        · cases hj; exact ⟨_, rfl, exR1_in q1⟩
        · cases hj; exact ⟨_, rfl, exRx_in q2⟩
        · cases hj) (Nat.le_refl _)
    · exact (((((Below.refl _ w2).alloc (Nat.le_refl _) _).alloc (by simp) _).alloc (by simp; omega) _).alloc (by simp; omega) _).alloc (by simp; omega) _
  rw [hW5]
  obtain ⟨q0, q4, qg, qb⟩ := hq
  have HF : Hid (RdRw W5 (.slice sa 3 sk) exF.rows ∧ RdRw W5 (.slice (some ⟨w2.heap.size + 1 + 1 + 1, 0, none⟩) 2 2) exG.rows) := ⟨HR.out.1.below (Nat.le_refl _) qb, qg⟩
  have HW : Hid (Below w.heap.size w W5) := HR.out.2.trans (qb.mono HR.out.2.size)
  have HK : Hid (∀ Y, Below W5.heap.size W5 Y → Y.heap[w2.heap.size]? = some (.cells #[.int .i64 4, .slice sa 3 sk, .int .i64 2, .int .i64 3] 26 (0, 0)) ∧ Y.heap[w2.heap.size + 1 + 1 + 1 + 1]? = some (.cells #[.int .i64 4, .slice (some ⟨w2.heap.size + 1 + 1 + 1, 0, none⟩) 2 2, .int .i64 0, .int .i64 0] 26 (0, 0))) := fun Y hY => ⟨(hY.block _ (Array.getElem?_eq_some_iff.1 q0).1).trans q0, (hY.block _ (Array.getElem?_eq_some_iff.1 q4).1).trans q4⟩
  clear hW5 q0 q4 qg qb HR HB
  generalize w2.heap.size = b at HF HK ⊢
  have C1 : Hid (∀ X, Below W5.heap.size W5 X → Calls Tryd.prog 10 #[.agg #[.int .i64 4, .slice sa 3 sk, .int .i64 2, .int .i64 3]] X fun e w' => e = .returned (.bool true) ∧ Hid (Below X.heap.size X w')) := fun X hX => by
    have := fit_any (.agg #[.int .i64 4, .slice sa 3 sk, .int .i64 2, .int .i64 3]) exF exF_fs X (HP.out X (HW.out.trans (hX.mono HW.out.size))).1 ⟨_, rfl, HF.out.1.below (Nat.le_refl _) hX⟩
    rw [ex_fit] at this
    exact this
  have C2 : Hid (∀ X, Below W5.heap.size W5 X → Calls Tryd.prog 15 #[.agg #[.int .i64 4, .slice sa 3 sk, .int .i64 2, .int .i64 3]] X fun e w' => e = .returned (.string ⟨#[27, 91, 109, 27, 91, 72, 27, 91, 74, 27, 91, 49, 59, 49, 72, 97, 98, 27, 91, 51, 59, 49, 72, 228, 184, 128, 99, 100, 27, 91, 51, 59, 52, 72]⟩) ∧ Hid (Below X.heap.size X w')) := fun X hX => by
    have := full_any (.agg #[.int .i64 4, .slice sa 3 sk, .int .i64 2, .int .i64 3]) exF exF_fs exF_wt X (HP.out X (HW.out.trans (hX.mono HW.out.size))) ⟨_, rfl, HF.out.1.below (Nat.le_refl _) hX⟩
    rw [ex_full] at this
    exact this
  have C3 : Hid (∀ X, Below W5.heap.size W5 X → Calls Tryd.prog 17 #[.agg #[.int .i64 4, .slice sa 3 sk, .int .i64 2, .int .i64 3], .agg #[.int .i64 4, .slice (some ⟨b + 1 + 1 + 1, 0, none⟩) 2 2, .int .i64 0, .int .i64 0]] X fun e w' => e = .returned (.string ⟨#[27, 91, 50, 59, 49, 72, 120, 27, 91, 75, 27, 91, 51, 59, 49, 72, 27, 91, 74, 27, 91, 49, 59, 49, 72]⟩) ∧ Hid (Below X.heap.size X w')) := fun X hX => by
    have := pnxt_any (.agg #[.int .i64 4, .slice sa 3 sk, .int .i64 2, .int .i64 3]) (.agg #[.int .i64 4, .slice (some ⟨b + 1 + 1 + 1, 0, none⟩) 2 2, .int .i64 0, .int .i64 0]) exF exG exF_fs exG_fs exG_wt X (HP.out X (HW.out.trans (hX.mono HW.out.size))) ⟨_, rfl, HF.out.1.below (Nat.le_refl _) hX⟩ ⟨_, rfl, HF.out.2.below (Nat.le_refl _) hX⟩
    rw [ex_next] at this
    exact this
  have C4 : Hid (∀ X, Below W5.heap.size W5 X → Calls Tryd.prog 10 #[.agg #[.int .i64 0, .slice sa 3 sk, .int .i64 0, .int .i64 0]] X fun e w' => e = .returned (.bool false) ∧ Hid (Below X.heap.size X w')) := fun X hX => by
    have := fit_any (.agg #[.int .i64 0, .slice sa 3 sk, .int .i64 0, .int .i64 0]) exZ exZ_fs X (HP.out X (HW.out.trans (hX.mono HW.out.size))).1 ⟨_, rfl, HF.out.1.below (Nat.le_refl _) hX⟩
    rw [ex_fitz] at this
    exact this
  have C5 : Hid (∀ X, Below W5.heap.size W5 X → Calls Tryd.prog 12 #[.agg #[.int .i64 0, .int .i64 0]] X fun e w' => e = .returned (.string ⟨#[27, 91, 49, 59, 49, 72]⟩) ∧ Hid (Below X.heap.size X w')) := fun X hX => by
    have := goto_any 0 0 X (HP.out X (HW.out.trans (hX.mono HW.out.size)))
    rw [ex_goto] at this
    exact this
  obtain ⟨⟨x0, x1, x2, x3⟩, -⟩ := box4 (HK.out W5 (Below.refl _ W5)).1
  clear HF HP
  go_wp2_with (first
    | (go_at_call 10; refine (C1.out _ (Below.refl _ W5)).mono ?_; clear C1 x0 x1 x2 x3; rintro e w3 ⟨rfl, HB3⟩; obtain ⟨⟨x0, x1, x2, x3⟩, -⟩ := box4 (HK.out w3 HB3.out).1)
    | (go_at_call 15; refine (C2.out _ HB3.out).mono ?_; clear C2 x0 x1 x2 x3; rintro e w4 ⟨rfl, HB4⟩; have HB5 : Hid (Below W5.heap.size W5 w4) := HB3.out.trans (HB4.out.mono HB3.out.size); obtain ⟨⟨x0, x1, x2, x3⟩, -⟩ := box4 (HK.out w4 HB5.out).1; obtain ⟨⟨y0, y1, y2, y3⟩, -⟩ := box4 (HK.out w4 HB5.out).2)
    | (go_at_call 17; refine (C3.out _ HB5.out).mono ?_; clear C3 x0 x1 x2 x3 y0 y1 y2 y3; rintro e w6 ⟨rfl, HB6⟩; have HB7 : Hid (Below W5.heap.size W5 w6) := HB5.out.trans (HB6.out.mono HB5.out.size); obtain ⟨⟨x0, x1, x2, x3⟩, -⟩ := box4 (HK.out w6 HB7.out).1)
    | (go_at_call 10; refine (C4.out _ HB7.out).mono ?_; clear C4 x0 x1 x2 x3; rintro e w8 ⟨rfl, HB8⟩; have HB9 : Hid (Below W5.heap.size W5 w8) := HB7.out.trans (HB8.out.mono HB7.out.size))
    | (go_at_call 12; refine (C5.out _ HB9.out).mono ?_; clear C5; rintro e w10 ⟨rfl, HB10⟩; have HB11 : Hid (Below W5.heap.size W5 w10) := HB9.out.trans (HB10.out.mono HB9.out.size)))
  go_ret
  exact ⟨rfl, HW.out.trans (HB11.out.mono HW.out.size)⟩
end Go.Proofs.YtcgnfjcbafmbgaaDoor
