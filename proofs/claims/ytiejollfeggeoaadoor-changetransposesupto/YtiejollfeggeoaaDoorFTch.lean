/-
  Package change's transposeChars. Conditions: those of each theorem.
-/
import Derived.Test.YtiejollfeggeoaaDoorFMak
namespace Go.Proofs.YtiejollfeggeoaaDoor
open Go.RowKit Go.Shelf Bod Wid

/-- .. and the box of a span -/
structure Fs (w : World) (s : ByteArray) (a : Nat) (r : Int) (n : Nat) (b x y : Nat) (W : World) : Prop where
  f : Fb w s a r n W
  bx : W.heap[b]? = some (.cells #[.int .i64 x, .int .i64 y] 70 (0, 0))
theorem Fs.below {w W X : World} {s : ByteArray} {a n b x y : Nat} {r : Int} (h : Fs w s a r n b x y W) (hb : Below W.heap.size W X) : Fs w s a r n b x y X :=
  ⟨h.f.below hb, (hb.block _ (Array.getElem?_eq_some_iff.1 h.bx).1).trans h.bx⟩
theorem Fb.span {w W : World} {s : ByteArray} {a n : Nat} {r : Int} (h : Fb w s a r n W) (x y : Nat) : Fs w s a r n W.heap.size x y (W.alloc (.cells #[.int .i64 x, .int .i64 y] 70)) :=
  ⟨h.below ((Below.refl _ W).alloc (Nat.le_refl _) _), World.alloc_heap_new _ _⟩
/-- .. and a second one -/
structure Fs2 (w : World) (s : ByteArray) (a : Nat) (r : Int) (n : Nat) (b x y c u v : Nat) (W : World) : Prop where
  f : Fs w s a r n b x y W
  cx : W.heap[c]? = some (.cells #[.int .i64 u, .int .i64 v] 70 (0, 0))
theorem Fs.span {w W : World} {s : ByteArray} {a n b x y : Nat} {r : Int} (h : Fs w s a r n b x y W) (u v : Nat) : Fs2 w s a r n b x y W.heap.size u v (W.alloc (.cells #[.int .i64 u, .int .i64 v] 70)) :=
  ⟨h.below ((Below.refl _ W).alloc (Nat.le_refl _) _), World.alloc_heap_new _ _⟩
theorem mid_facts {s : ByteArray} {a : Nat} (ha : cbZ s a = true) (h : ¬ midP s a ≤ (lnP s a).1) : cbZ s (midP s a) = true ∧ midP s a ≤ a ∧ pvC s (midP s a) < midP s a ∧ midP s a < nxt s (midP s a) ∧ nxt s (midP s a) ≤ (lnP s a).2 ∧ (lnP s a).2 ≤ s.size ∧ (lnP s a).1 ≤ pvC s (midP s a) := by
  have hp := lnP_pl ha
  have hle := hp.le
  have hcb := hp.cbs
  have hm : cbZ s (midP s a) = true ∧ midP s a ≤ a ∧ midP s a < (lnP s a).2 := by
    unfold midP at h ⊢
    split
    · rename_i e
      rw [if_pos e] at h
      have := pv_ok s a
      exact ⟨this.1, this.2.1, by have := this.2.2 (by omega); omega⟩
    · exact ⟨ha, Nat.le_refl _, by omega⟩
  have h1 := pv_ok s (midP s a)
  have h2 := nxt_ok s (midP s a)
  have h3 := nxt_is s (midP s a)
  have h4 := pvC_is s (midP s a)
  have h5 := h2.2.2.1 (by omega)
  refine ⟨hm.1, hm.2.1, h1.2.2 (by omega), h5, ?_, hle.2.2, ?_⟩
  · rcases Nat.lt_or_ge (lnP s a).2 (nxt s (midP s a)) with e | e
    · have := h3.no (lnP s a).2 (by omega) (by omega)
      rw [hcb.2] at this; cases this
    · exact e
  · rcases Nat.lt_or_ge (pvC s (midP s a)) (lnP s a).1 with e | e
    · have := h4.no (lnP s a).1 (by omega) (by omega)
      rw [hcb.1] at this; cases this
    · exact e
set_option maxRecDepth 100000 in
set_option maxHeartbeats 2000000 in
theorem transposeChars_any (hM : Tryd.prog.follows .mixedOrders = true) (s : ByteArray) (hs : s.size ≤ 1099511627776) (a : Nat) (ha : cbZ s a = true) (r : Int) (n : Nat) (w : World) (hT : Tw w) :
    Calls Tryd.prog 52 #[scv s a r n] w fun e W' => e = .returned (rsv (charsP s a)) ∧ Below w.heap.size w W' := by
  have hal := cb_le ha
  have hle := (lnP_pl ha).le
  have HF : Hid (Fb w s a r n ((w.alloc (.cells #[.string s, .int .i64 a, .int .i64 r, .int .i64 n] 57)).alloc (.cells #[.int .i64 0, .int .i64 0, .string ⟨#[]⟩, .int .i64 0, .string ⟨#[]⟩, .bool false] 33))) := fb0 w s a r n
  have C1 := fun W (hW : Fb w s a r n W) => (lineEnd_any s hs a ha W (hT.below hW.bel)).mono fun e W' q => (⟨q.1, hW.below q.2⟩ : e = .returned (.int .i64 (lnP s a).2) ∧ Fb w s a r n W')
  have C2 := fun W (hW : Fb w s a r n W) => (lineStart_any s hs a ha W).mono fun e W' q => (⟨q.1, hW.below q.2⟩ : e = .returned (.int .i64 (lnP s a).1) ∧ Fb w s a r n W')
  have C3 := fun (x : Nat) W (hW : Fb w s a r n W) (hx : x ≤ s.size) => (cprev_any s x (by unfold maxLen; omega) W (hT.below hW.bel).t (by omega)).mono fun e W' ⟨m, k1, k2, k3⟩ => (⟨by rw [k1, k2.uniq (pvC_is s x)], hW.below k3⟩ : e = Ending.returned (.int .i64 (pvC s x)) ∧ Fb w s a r n W')
  have C4 := fun (x : Nat) W b u v (hW : Fs w s a r n b u v W) (hx : x ≤ s.size) => (cnext_any s x (by unfold maxLen; omega) W (hT.below hW.f.bel).t).mono fun e W' ⟨m, k1, k2, k3⟩ => (⟨by rw [k1, k2.uniq (nxt_is s x)], hW.below k3⟩ : e = Ending.returned (.int .i64 (nxt s x)) ∧ Fs w s a r n b u v W')
  have C5 := fun W (hW : Fb w s a r n W) => (fun (v x : Nat × Nat) h1 h2 h3 h4 => (swap_any hM W s a r n v x hs h1 h2 h3 h4).mono fun e W' q => (⟨q.1, hW.below q.2⟩ : e = .returned (.agg (chc (swapP s v x))) ∧ Fb w s a r n W'))
  have hmf := mid_facts ha
  unfold charsP
  have hmid : midP s a = if a = (lnP s a).2 then pvC s a else a := rfl
  obtain ⟨m, hm⟩ : ∃ m, midP s a = m := ⟨_, rfl⟩
  have hml : m ≤ a := by
    rw [← hm, hmid]
    have := pv_ok s a
    split <;> omega
  have CPa : Hid (∀ W, Fb w s a r n W → Calls Tryd.prog 44 #[.string s, .int .i64 a] W fun e W' => e = .returned (.int .i64 (pvC s a)) ∧ Hid (Fb w s a r n W')) := fun W hW => C3 a W hW hal
  have CPm : Hid (∀ W, Fb w s a r n W → Calls Tryd.prog 44 #[.string s, .int .i64 m] W fun e W' => e = .returned (.int .i64 (pvC s m)) ∧ Hid (Fb w s a r n W')) := fun W hW => C3 m W hW (by omega)
  have CNm : Hid (∀ W b u v, Fs w s a r n b u v W → Calls Tryd.prog 32 #[.string s, .int .i64 m] W fun e W' => e = .returned (.int .i64 (nxt s m)) ∧ Hid (Fs w s a r n b u v W')) := fun W b u v hW => C4 m W b u v hW (by omega)
  rw [hm] at hmf hmid ⊢
  have hpv : pvC s a ≤ s.size := by have := pv_ok s a; omega
  obtain ⟨pa, hpa⟩ : ∃ x, pvC s a = x := ⟨_, rfl⟩
  obtain ⟨pm, hpm⟩ : ∃ x, pvC s m = x := ⟨_, rfl⟩
  obtain ⟨nm, hnm⟩ : ∃ x, nxt s m = x := ⟨_, rfl⟩
  rw [hpa] at CPa hmid hpv
  rw [hpm] at CPm hmf ⊢
  rw [hnm] at CNm hmf ⊢
  generalize (lnP s a).1 = p at *
  generalize (lnP s a).2 = b at *
  have CE : Hid (∀ W, Fb w s a r n W → Calls Tryd.prog 75 #[.string s, .int .i64 a] W fun e W' => e = .returned (.int .i64 b) ∧ Hid (Fb w s a r n W')) := C1
  have CS : Hid (∀ W, Fb w s a r n W → Calls Tryd.prog 76 #[.string s, .int .i64 a] W fun e W' => e = .returned (.int .i64 p) ∧ Hid (Fb w s a r n W')) := C2
  unfold scv
  by_cases h2 : m ≤ p
  · have h2' : (m : Int) ≤ p := by omega
    rw [if_pos h2]
    clear C1 C2 C3 C4 C5 CPm CNm hmf hpa hpm hnm hm
    by_cases h1 : a = b
    · rw [if_pos h1] at hmid
      subst hmid h1
      go_enter Tryd.func52, Tryd.ntmps52
      go_wp2_with (first | (go_at_call 75; refine (CE.out _ HF.out).mono ?_; clear CE HF; rintro e' w1 ⟨rfl, HF⟩; obtain ⟨⟨y0, y1, y2, y3⟩, -⟩ := HF.out.get) | (go_at_call 44; refine (CPa.out _ HF.out).mono ?_; clear CPa HF y0 y1 y2 y3; rintro e' w2 ⟨rfl, HF⟩; obtain ⟨⟨y0, y1, y2, y3⟩, -⟩ := HF.out.get) | (go_at_call 76; refine (CS.out _ HF.out).mono ?_; clear CS HF y0 y1 y2 y3; rintro e' w3 ⟨rfl, HF⟩; obtain ⟨⟨y0, y1, y2, y3⟩, ⟨f0, f1, f2, f3, f4, f5⟩, ⟨z0, z1, z2, z3, z4, z5⟩⟩ := HF.out.get))
      obtain ⟨k1, k2, k3, k4, k5, k6, k7⟩ := HF.out.fin (.int .i64 0) (.int .i64 0) (.string ⟨#[]⟩) (.int .i64 0) (.string ⟨#[]⟩) (.bool false)
      exact bodyPost_ret (v := rsv (chz, 8)) (by simp [results, Tryd.results52, go_sem, rsv, chc, chz, k2, k3, k4, k5, k6, k7]) rfl ⟨rfl, k1⟩
    · rw [if_neg h1] at hmid
      subst hmid
      have h1' : ¬ ((m : Int) = b) := by omega
      have h1'' : ((m : Int) == b) = false := by simp; omega
      clear CPa
      go_enter Tryd.func52, Tryd.ntmps52
      go_wp2_with (first | (go_at_call 75; refine (CE.out _ HF.out).mono ?_; clear CE HF; rintro e' w1 ⟨rfl, HF⟩; obtain ⟨⟨y0, y1, y2, y3⟩, -⟩ := HF.out.get) | (go_at_call 76; refine (CS.out _ HF.out).mono ?_; clear CS HF y0 y1 y2 y3; rintro e' w3 ⟨rfl, HF⟩; obtain ⟨⟨y0, y1, y2, y3⟩, ⟨f0, f1, f2, f3, f4, f5⟩, ⟨z0, z1, z2, z3, z4, z5⟩⟩ := HF.out.get))
      obtain ⟨k1, k2, k3, k4, k5, k6, k7⟩ := HF.out.fin (.int .i64 0) (.int .i64 0) (.string ⟨#[]⟩) (.int .i64 0) (.string ⟨#[]⟩) (.bool false)
      exact bodyPost_ret (v := rsv (chz, 8)) (by simp [results, Tryd.results52, go_sem, rsv, chc, chz, k2, k3, k4, k5, k6, k7]) rfl ⟨rfl, k1⟩
  · have h2' : ¬ ((m : Int) ≤ p) := by omega
    rw [if_neg h2]
    obtain ⟨m1, m2, m3, m4, m5, m6, m7⟩ := hmf h2
    obtain ⟨x, hx⟩ : ∃ x, swp s (pm, m) (m, nm) = x := ⟨_, rfl⟩
    have CW : Hid (∀ W, Fb w s a r n W → Calls Tryd.prog 77 #[.agg #[.string s, .int .i64 a, .int .i64 r, .int .i64 n], .agg #[.int .i64 pm, .int .i64 m], .agg #[.int .i64 m, .int .i64 nm]] W fun e W' => e = .returned (.agg #[.int .i64 pm, .int .i64 (nm - pm : Nat), .string x, .int .i64 nm, .string ⟨#[]⟩, .bool false]) ∧ Hid (Fb w s a r n W')) := fun W hW => by
      rw [← hx]
      exact C5 W hW (pm, m) (m, nm) (by simp only; omega) (by simp only; omega) (by simp only; omega) (by simp only; omega)
    have hsw : swapP s (pm, m) (m, nm) = ⟨pm, nm - pm, x, nm, ⟨#[]⟩, false⟩ := by rw [← hx]; rfl
    rw [hsw]
    clear C1 C2 C3 C4 C5 hmf hpa hpm hnm hm hx hsw m1 m7
    by_cases h1 : a = b
    · rw [if_pos h1] at hmid
      subst hmid h1
      go_enter Tryd.func52, Tryd.ntmps52
      go_upto_region 6 with (first | (go_at_call 75; refine (CE.out _ HF.out).mono ?_; clear CE HF; rintro e' w1 ⟨rfl, HF⟩; obtain ⟨⟨y0, y1, y2, y3⟩, -⟩ := HF.out.get) | (go_at_call 44; refine (CPa.out _ HF.out).mono ?_; clear CPa HF y0 y1 y2 y3; rintro e' w2 ⟨rfl, HF⟩; obtain ⟨⟨y0, y1, y2, y3⟩, -⟩ := HF.out.get) | (go_at_call 76; refine (CS.out _ HF.out).mono ?_; clear CS HF y0 y1 y2 y3; rintro e' w3 ⟨rfl, HF⟩; obtain ⟨⟨y0, y1, y2, y3⟩, -⟩ := HF.out.get))
      clear h2 h2'
      go_upto_region 7 with (go_at_call 44; refine (CPm.out _ HF.out).mono ?_; clear CPm HF y0 y1 y2 y3; rintro e' w4 ⟨rfl, HF⟩)
      have HG : Hid (Fs w s a r n w4.heap.size pm m (w4.alloc (.cells #[.int .i64 pm, .int .i64 m] 70))) := HF.out.span pm m
      generalize w4.alloc (.cells #[.int .i64 pm, .int .i64 m] 70) = w5 at HG ⊢
      generalize w4.heap.size = b1 at HG ⊢
      clear HF
      obtain ⟨⟨y0, y1, y2, y3⟩, -⟩ := HG.out.f.get
      go_upto_region 8 with (go_at_call 32; refine (CNm.out _ _ _ _ HG.out).mono ?_; clear CNm HG y0 y1 y2 y3; rintro e' w6 ⟨rfl, HG⟩)
      have HK : Hid (Fs2 w s a r n b1 pm m w6.heap.size m nm (w6.alloc (.cells #[.int .i64 m, .int .i64 nm] 70))) := HG.out.span m nm
      generalize w6.alloc (.cells #[.int .i64 m, .int .i64 nm] 70) = w7 at HK ⊢
      generalize w6.heap.size = b2 at HK ⊢
      clear HG
      obtain ⟨⟨y0, y1, y2, y3⟩, -⟩ := HK.out.f.f.get
      obtain ⟨y4, y5⟩ := box2' HK.out.f.bx
      obtain ⟨y6, y7⟩ := box2' HK.out.cx
      go_wp2_with (go_at_call 77; refine (CW.out _ HK.out.f.f).mono ?_; clear CW HK y0 y1 y2 y3 y4 y5 y6 y7; rintro e' w8 ⟨rfl, HD⟩; obtain ⟨-, ⟨f0, f1, f2, f3, f4, f5⟩, ⟨z0, z1, z2, z3, z4, z5⟩⟩ := HD.out.get)
      obtain ⟨k1, k2, k3, k4, k5, k6, k7⟩ := HD.out.fin (.int .i64 pm) (.int .i64 (nm - pm : Nat)) (.string x) (.int .i64 nm) (.string ⟨#[]⟩) (.bool false)
      exact bodyPost_ret (v := rsv (⟨pm, nm - pm, x, nm, ⟨#[]⟩, false⟩, 0)) (by simp [results, Tryd.results52, go_sem, rsv, chc, k2, k3, k4, k5, k6, k7]) rfl ⟨rfl, k1⟩
    · rw [if_neg h1] at hmid
      subst hmid
      have h1' : ¬ ((m : Int) = b) := by omega
      have h1'' : ((m : Int) == b) = false := by simp; omega
      clear CPa
      go_enter Tryd.func52, Tryd.ntmps52
      go_upto_region 6 with (first | (go_at_call 75; refine (CE.out _ HF.out).mono ?_; clear CE HF; rintro e' w1 ⟨rfl, HF⟩; obtain ⟨⟨y0, y1, y2, y3⟩, -⟩ := HF.out.get) | (go_at_call 76; refine (CS.out _ HF.out).mono ?_; clear CS HF y0 y1 y2 y3; rintro e' w3 ⟨rfl, HF⟩; obtain ⟨⟨y0, y1, y2, y3⟩, -⟩ := HF.out.get))
      clear h2 h2'
      go_upto_region 7 with (go_at_call 44; refine (CPm.out _ HF.out).mono ?_; clear CPm HF y0 y1 y2 y3; rintro e' w4 ⟨rfl, HF⟩)
      have HG : Hid (Fs w s m r n w4.heap.size pm m (w4.alloc (.cells #[.int .i64 pm, .int .i64 m] 70))) := HF.out.span pm m
      generalize w4.alloc (.cells #[.int .i64 pm, .int .i64 m] 70) = w5 at HG ⊢
      generalize w4.heap.size = b1 at HG ⊢
      clear HF
      obtain ⟨⟨y0, y1, y2, y3⟩, -⟩ := HG.out.f.get
      go_upto_region 8 with (go_at_call 32; refine (CNm.out _ _ _ _ HG.out).mono ?_; clear CNm HG y0 y1 y2 y3; rintro e' w6 ⟨rfl, HG⟩)
      have HK : Hid (Fs2 w s m r n b1 pm m w6.heap.size m nm (w6.alloc (.cells #[.int .i64 m, .int .i64 nm] 70))) := HG.out.span m nm
      generalize w6.alloc (.cells #[.int .i64 m, .int .i64 nm] 70) = w7 at HK ⊢
      generalize w6.heap.size = b2 at HK ⊢
      clear HG
      obtain ⟨⟨y0, y1, y2, y3⟩, -⟩ := HK.out.f.f.get
      obtain ⟨y4, y5⟩ := box2' HK.out.f.bx
      obtain ⟨y6, y7⟩ := box2' HK.out.cx
      go_wp2_with (go_at_call 77; refine (CW.out _ HK.out.f.f).mono ?_; clear CW HK y0 y1 y2 y3 y4 y5 y6 y7; rintro e' w8 ⟨rfl, HD⟩; obtain ⟨-, ⟨f0, f1, f2, f3, f4, f5⟩, ⟨z0, z1, z2, z3, z4, z5⟩⟩ := HD.out.get)
      obtain ⟨k1, k2, k3, k4, k5, k6, k7⟩ := HD.out.fin (.int .i64 pm) (.int .i64 (nm - pm : Nat)) (.string x) (.int .i64 nm) (.string ⟨#[]⟩) (.bool false)
      exact bodyPost_ret (v := rsv (⟨pm, nm - pm, x, nm, ⟨#[]⟩, false⟩, 0)) (by simp [results, Tryd.results52, go_sem, rsv, chc, k2, k3, k4, k5, k6, k7]) rfl ⟨rfl, k1⟩
end Go.Proofs.YtiejollfeggeoaaDoor
