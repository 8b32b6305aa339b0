/-
  The walk of the law MoveGoal: going down keeps the goal, and as many steps up lead back. Conditions: the two tables of unicode/utf8 lie as their text lays them.
-/
import Derived.Test.YtplieccalmkloaaGreatDoorQLaid
import Derived.Deep.DeepCutAuto
namespace Go.Proofs.YtplieccalmkloaaGreatDoor.Sto
open Go.RowKit Go.Shelf Bod Wid

section
variable {s : ByteArray}
theorem goP_vert {k D : Int} (hk : (k = 11 ∧ D = 1) ∨ (k = 10 ∧ D = -1)) {p : Nat} (hp : cbZ s p = true) {g : Int} (hg : -1 ≤ g) (n : Int) : goP s k p g n = if hl s ((cn s 0 p : Int) + D * cnt n) = (cn s 0 p : Int) then ((p : Int), g, 8) else (((plcF s (hl s ((cn s 0 p : Int) + D * cnt n)) (if g = -1 then colF s p else g) : Nat) : Int), (if g = -1 then colF s p else g), 0) := by
  have hk' : 4 ≤ k ∧ k ≤ 13 := by omega
  have hw : wantF s k p g = if g = -1 then colF s p else g := by unfold wantF; rw [if_pos (by omega)]
  have hl0 : ∀ W, lead s k p W (cnt n) = away s p W (D * cnt n) := fun W => by
    rcases hk with ⟨rfl, rfl⟩ | ⟨rfl, rfl⟩
    · rw [Int.one_mul]; rfl
    · rw [show (-1 : Int) * cnt n = -(cnt n : Int) by omega]; rfl
  rw [goP_in hk', snp_self hp, show max g (-1) = g by omega, hw, hl0]
  unfold away
  by_cases h : hl s ((cn s 0 p : Int) + D * cnt n) = (cn s 0 p : Int)
  · rw [if_pos h, if_neg (by simp [h])]
  · rw [if_neg h, if_pos (by simp [h])]
theorem goP_ls {p : Nat} (hp : cbZ s p = true) (g n : Int) : ∃ x : Nat, goP s 8 p g n = ((x : Int), -1, 0) ∧ cn s 0 x = cn s 0 p ∧ x ≤ p := by
  obtain ⟨x, y, h1, h2, h3, h4, h5, h6, h7⟩ := line_at hp
  refine ⟨x, ?_, h6, h2⟩
  rw [goP_in (by omega), snp_self hp]
  have hw : wantF s 8 p (max g (-1)) = -1 := by unfold wantF; rw [if_neg (by omega)]
  have hl0 : lead s 8 p (-1) (cnt n) = (x, true) := by
    show (((lspF s (cn s 0 p)).getD (0, 0)).1, true) = _
    rw [h1]; rfl
  rw [hw, hl0]; rfl
/-- a place of the column G, so many lines behind -/
structure Dw (s : ByteArray) (f : Nat) (G : Int) (j p : Nat) : Prop where
  in' : (cn s 0 f : Int) + j ≤ cn s 0 s.size
  eq : plcF s ((cn s 0 f : Int) + j) G = p
theorem Dw.cb {f : Nat} {G : Int} {j p : Nat} (h : Dw s f G j p) : cbZ s p = true ∧ (cn s 0 p : Int) = (cn s 0 f : Int) + j ∧ p ≤ s.size := by
  have := plc_cb (s := s) (l := (cn s 0 f : Int) + j) (c := G) ⟨by omega, h.in'⟩
  rw [h.eq] at this
  exact this
theorem dw0 {f : Nat} (hf : cbZ s f = true) : Dw s f (colF s f) 0 f := by
  obtain ⟨p, b, hP⟩ := pl_ex hf
  have := cn_mono (s := s) (a := 0) (b := f) (c := s.size) (by omega) (cb_le hf)
  refine ⟨by omega, ?_⟩
  rw [show (cn s 0 f : Int) + (0 : Nat) = cn s 0 f by omega, col_pl hP]
  exact plcF_eq hP.back
theorem Dw.step {f : Nat} {G : Int} (hG : 0 ≤ G) {j p : Nat} (h : Dw s f G j p) : (goP s 11 p G 1 = ((p : Int), G, 8)) ∨ ∃ q : Nat, goP s 11 p G 1 = ((q : Int), G, 0) ∧ Dw s f G (j + 1) q := by
  obtain ⟨h1, h2, h3⟩ := h.cb
  rw [goP_vert (D := 1) (.inl ⟨rfl, rfl⟩) h1 (by omega), h2, if_neg (show ¬ G = -1 by omega), show cnt 1 = 1 from rfl]
  have hin := h.in'
  by_cases hc : hl s ((cn s 0 f : Int) + j + 1 * ((1 : Nat) : Int)) = (cn s 0 f : Int) + j
  · rw [if_pos hc]; exact .inl rfl
  · rw [if_neg hc]
    have e : hl s ((cn s 0 f : Int) + j + 1 * ((1 : Nat) : Int)) = (cn s 0 f : Int) + (j + 1 : Nat) := by unfold hl at hc ⊢; omega
    rw [e]
    have : (cn s 0 f : Int) + (j + 1 : Nat) ≤ cn s 0 s.size := by unfold hl at hc; omega
    exact .inr ⟨_, rfl, this, rfl⟩
theorem Dw.lt {f : Nat} {G : Int} {j p q x : Nat} (h : Dw s f G j p) (k : Dw s f G (j + 1) q) (hx : cn s 0 x = cn s 0 q) : (p : Int) < q ∧ (p : Int) < x := by
  have h1 := h.cb
  have h2 := k.cb
  have e1 := cn_lt (s := s) (m := p) (a := q) (by omega)
  have e2 := cn_lt (s := s) (m := p) (a := x) (by omega)
  omega
theorem Dw.all {f : Nat} (hf : cbZ s f = true) {j p : Nat} (h : Dw s f (colF s f) j p) (hj : 1 ≤ j) (hj2 : j ≤ 255) : goP s 11 f (-1) j = ((p : Int), colF s f, 0) ∧ goP s 10 p (colF s f) j = ((f : Int), colF s f, 0) := by
  obtain ⟨h1, h2, h3⟩ := h.cb
  have hG := (col_bd hf).1
  have hc : cnt j = j := by have := cnt_eq j; omega
  have hin := h.in'
  have hi0 := (dw0 hf).eq
  rw [show (cn s 0 f : Int) + (0 : Nat) = cn s 0 f by omega] at hi0
  constructor
  · rw [goP_vert (D := 1) (.inl ⟨rfl, rfl⟩) hf (by omega), hc, if_pos rfl]
    have e : hl s ((cn s 0 f : Int) + 1 * (j : Int)) = (cn s 0 f : Int) + j := by unfold hl; omega
    rw [e, if_neg (by omega), h.eq]
  · rw [goP_vert (D := -1) (.inr ⟨rfl, rfl⟩) h1 (by omega), hc, h2, if_neg (show ¬ colF s f = -1 by omega)]
    have e : hl s ((cn s 0 f : Int) + j + -1 * (j : Int)) = (cn s 0 f : Int) := by unfold hl; omega
    rw [e, if_neg (by omega), hi0]
end
set_option maxRecDepth 100000 in
set_option maxHeartbeats 4000000 in
theorem goal_walk (kd : Nat) (hkd : kd ≤ 255) (s : ByteArray) (i : Int) (hi : -9223372036854775808 ≤ i ∧ i ≤ 9223372036854775807) (c : Nat) (hc : c ≤ 255) (w : World) (hE : Ev w) :
    Calls Tryz.prog 4 #[.int .u8 kd, .string s, .int .i64 i, .int .u8 c] w fun e W' => e = .returned (.bool true) ∧ Below w.heap.size w W' := by
  have hM : Tryz.prog.follows .mixedOrders = true := by kernel_rfl
  have CA : Hid (Calls Tryz.prog 6 #[] w fun e W' => e = .returned (.bool true) ∧ Hid (Below w.heap.size w W')) := goes_any hM w hE
  by_cases hbig : 1073741824 < s.size
  · have hbig' : (1073741824 : Int) < s.size := by omega
    clear hE hM
    go_enter Tryz.func4, Tryz.ntmps4
    go_wp2_with (go_at_call 6; refine CA.out.mono ?_; clear CA; rintro e w1 ⟨rfl, HB⟩)
    go_ret
    exact ⟨rfl, HB.out⟩
  · have hs : s.size ≤ 1073741824 := by omega
    have hbig' : ¬ ((1073741824 : Int) < s.size) := by omega
    have CL : Hid (∀ W, Hid (Below w.heap.size w W) → Calls Tryz.prog 7 #[.int .u8 kd, .string s] W fun e W' => ∃ p, e = .returned (.pointer p) ∧ Hid (Sv W' (.pointer p) s ∧ Below w.heap.size w W')) := fun W hW => (laid_any W (hE.below hW.out) s hs kd hkd).mono fun e W' ⟨p, q1, q2, q3⟩ => ⟨p, q1, q2, Below.on hW.out q3⟩
    have CS : Hid (∀ W p, Hid (Sv W (.pointer p) s ∧ Below w.heap.size w W) → Calls Tryz.prog 13 #[.string s, .int .i64 i] W fun e W' => e = .returned (.int .i64 (snp s i : Nat)) ∧ Hid (Sv W' (.pointer p) s ∧ Below w.heap.size w W')) := fun W p hW => (csnap_any s i (by unfold maxLen; omega) W hW.out.1.ev.t hi.2).mono fun e W' ⟨m, q1, q2, q3⟩ => ⟨by rw [q1, q2.uniq (snp_is s i)], hW.out.1.below q3, Below.on hW.out.2 q3⟩
    have hfl := snp_le s i
    have hfc := (snp_is s i).cb
    obtain ⟨f, hf⟩ : ∃ f, snp s i = f := ⟨_, rfl⟩
    rw [hf] at CS hfl hfc
    have hG := col_bd hfc
    have CC : Hid (∀ W p, Hid (Sv W (.pointer p) s ∧ Below w.heap.size w W) → Calls Tryz.prog 9 #[.pointer p, .int .i64 f] W fun e W' => e = .returned (.int .i64 (colF s f)) ∧ Hid (Sv W' (.pointer p) s ∧ Below w.heap.size w W')) := fun W p hW => (Column_any hM hW.out.1 f (by omega)).mono fun e W' ⟨q1, q2⟩ => ⟨by rw [q1, snp_self hfc], hW.out.1.below q2, Below.on hW.out.2 q2⟩
    have HS : Hid (s.size ≤ 1073741824) := hs
    have HM : Hid (Tryz.prog.follows .mixedOrders = true) := hM
    have HD0 : Hid (Dw s f (colF s f) 0 f) := dw0 hfc
    have HFC : Hid (cbZ s f = true) := hfc
    obtain ⟨G, hGe⟩ : ∃ G, colF s f = G := ⟨_, rfl⟩
    have HGE : Hid (colF s f = G) := hGe
    rw [hGe] at CC HD0 hG
    have HG : Hid (0 ≤ G ∧ G ≤ 2147483648) := by show 0 ≤ G ∧ G ≤ 2147483648; omega
    clear hE hM hs hf hfc hGe hG
    go_enter Tryz.func4, Tryz.ntmps4
    go_wp2_with (first
      | (go_at_call 6; refine CA.out.mono ?_; clear CA; rintro e w1 ⟨rfl, HB⟩)
      | (go_at_call 7; refine (CL.out _ HB).mono ?_; clear CL HB; rintro e w2 ⟨p, rfl, HB⟩)
      | (go_at_call 13; refine (CS.out _ _ HB).mono ?_; clear CS HB; rintro e w3 ⟨rfl, HB⟩)
      | (go_at_call 9; refine (CC.out _ _ HB).mono ?_; clear CC HB; rintro e X ⟨rfl, HX⟩))
    have HY : Hid (Below X.heap.size X X) := Below.refl _ _
    have HGo : Hid (∀ (k i g n a b d : Int), goP s k i g n = (a, b, d) → i ≤ 9223372036854775807 → g ≤ 9223372036854775807 → ∀ W, Hid (Below X.heap.size X W) → Calls Tryz.prog 8 #[.pointer p, .int .i64 k, .int .i64 i, .int .i64 g, .int .i64 n] W fun e W' => e = .returned (.tuple #[.int .i64 a, .int .i64 b, .int .i64 d]) ∧ Hid (Below X.heap.size X W')) := fun k i g n a b d hgo h1 h2 W hW => (Go_any HM.out (HX.out.1.below hW.out) k i g n h1 h2).mono fun e W' ⟨q1, q2⟩ => ⟨by rw [q1, hgo], Below.on hW.out q2⟩
    go_loopw [12, 13, 41] (fun t12 t13 t41 wr => ∃ (q j : Nat), t12 = .int .i64 q ∧ t13 = .int .i64 j ∧ t41 = .int .i64 j ∧ j ≤ c ∧ Hid (Dw s f G j q) ∧ Hid (Below X.heap.size X wr)) (fun _ _ t41 _ => c - (Go.RowKit.intOf t41).toNat)
    case atStart => exact ⟨f, 0, rfl, rfl, rfl, Nat.zero_le _, HD0, HY⟩
    case round =>
      clear HY HD0
      obtain ⟨q, j, rfl, rfl, rfl, hj, HD, HR⟩ := hrel
      have hql := HD.out.cb.2.2
      have hql' : (q : Int) ≤ 1073741824 := by have := HS.out; omega
      by_cases hjc : j < c
      · have hjc' : (j : Int) < c := by omega
        rcases HD.out.step HG.out.1 with hst | ⟨q2, hst, hD2⟩
        · have C3 : Hid (∀ W, Hid (Below X.heap.size X W) → Calls Tryz.prog 8 #[.pointer p, .int .i64 11, .int .i64 q, .int .i64 G, .int .i64 1] W fun e W' => e = .returned (.tuple #[.int .i64 q, .int .i64 G, .int .i64 8]) ∧ Hid (Below X.heap.size X W')) := HGo.out 11 q G 1 q G 8 hst (by omega) (by have := HG.out; omega)
          clear hst
          by_cases hj0 : j = 0
          · subst hj0
            have hqf : q = f := by
              have h1 := HD.out.eq
              have h2 := (dw0 HFC.out).eq
              rw [HGE.out] at h2
              rw [← h1, h2]
            subst hqf
            clear HD HGo
            go_wp2_with (go_at_call 8; refine (C3.out _ HR).mono ?_; clear C3 HR; rintro e w5 ⟨rfl, HR⟩)
            go_ret
            exact ⟨rfl, Below.on HX.out.2 HR.out⟩
          · have hD := HD.out
            rw [← HGE.out] at hD
            obtain ⟨g1, g2⟩ := hD.all HFC.out (by omega) (by omega)
            rw [HGE.out] at g1 g2
            have C5 : Hid (∀ W, Hid (Below X.heap.size X W) → Calls Tryz.prog 8 #[.pointer p, .int .i64 11, .int .i64 f, .int .i64 (-1), .int .i64 j] W fun e W' => e = .returned (.tuple #[.int .i64 q, .int .i64 G, .int .i64 0]) ∧ Hid (Below X.heap.size X W')) := HGo.out 11 f (-1) j q G 0 g1 (by have := HS.out; omega) (by omega)
            have C6 : Hid (∀ W, Hid (Below X.heap.size X W) → Calls Tryz.prog 8 #[.pointer p, .int .i64 10, .int .i64 q, .int .i64 G, .int .i64 j] W fun e W' => e = .returned (.tuple #[.int .i64 f, .int .i64 G, .int .i64 0]) ∧ Hid (Below X.heap.size X W')) := HGo.out 10 q G j f G 0 g2 (by omega) (by have := HG.out; omega)
            have hj1 : ((j : Int) == 0) = false := by simp; omega
            have hj2 : decide (j = 0) = false := by simp; omega
            have hj3 : ¬ ((j : Int) = 0) := by omega
            have T1 : True := trivial
            have T2 : True := trivial
            clear HD HGo hD g1 g2
            go_wp2_with (first
              | (go_at_call 8; clear T1; refine (C3.out _ HR).mono ?_; clear C3 HR; rintro e w5 ⟨rfl, HR⟩)
              | (go_at_call 8; clear T2; refine (C5.out _ HR).mono ?_; clear C5 HR; rintro e w6 ⟨rfl, HR⟩)
              | (go_at_call 8; refine (C6.out _ HR).mono ?_; clear C6 HR; rintro e w7 ⟨rfl, HR⟩))
            go_ret
            exact ⟨rfl, Below.on HX.out.2 HR.out⟩
        · obtain ⟨x, hx1, hx2, hx3⟩ := goP_ls (s := s) hD2.cb.1 (-1) 1
          have hlt := HD.out.lt hD2 hx2
          have hq2 := hD2.cb.2.2
          have C3 : Hid (∀ W, Hid (Below X.heap.size X W) → Calls Tryz.prog 8 #[.pointer p, .int .i64 11, .int .i64 q, .int .i64 G, .int .i64 1] W fun e W' => e = .returned (.tuple #[.int .i64 q2, .int .i64 G, .int .i64 0]) ∧ Hid (Below X.heap.size X W')) := HGo.out 11 q G 1 q2 G 0 hst (by omega) (by have := HG.out; omega)
          have C4 : Hid (∀ W, Hid (Below X.heap.size X W) → Calls Tryz.prog 8 #[.pointer p, .int .i64 8, .int .i64 q2, .int .i64 (-1), .int .i64 1] W fun e W' => e = .returned (.tuple #[.int .i64 x, .int .i64 (-1), .int .i64 0]) ∧ Hid (Below X.heap.size X W')) := HGo.out 8 q2 (-1) 1 x (-1) 0 hx1 (by have := HS.out; omega) (by omega)
          have HD2 : Hid (Dw s f G (j + 1) q2) := hD2
          have l1 : ¬ ((q2 : Int) ≤ q) := by omega
          have l2 : ¬ ((x : Int) ≤ q) := by omega
          have T1 : True := trivial
          clear hst hx1 hx2 hx3 hD2 hlt hq2 HD HGo
          go_wp2_with (first
            | (go_at_call 8; clear T1; refine (C3.out _ HR).mono ?_; clear C3 HR; rintro e w5 ⟨rfl, HR⟩)
            | (go_at_call 8; refine (C4.out _ HR).mono ?_; clear C4 HR; rintro e w6 ⟨rfl, HR⟩))
          exact ⟨⟨q2, j + 1, rfl, by go_num, by go_num, by omega, HD2, HR⟩, by simp [Go.RowKit.intOf]; omega⟩
      · have hjc' : ¬ ((j : Int) < c) := by omega
        by_cases hj0 : j = 0
        · subst hj0
          have hqf : q = f := by
            have h1 := HD.out.eq
            have h2 := (dw0 HFC.out).eq
            rw [HGE.out] at h2
            rw [← h1, h2]
          subst hqf
          clear HD HGo
          go_wp2
          go_ret
          exact ⟨rfl, Below.on HX.out.2 HR.out⟩
        · have hD := HD.out
          rw [← HGE.out] at hD
          obtain ⟨g1, g2⟩ := hD.all HFC.out (by omega) (by omega)
          rw [HGE.out] at g1 g2
          have C5 : Hid (∀ W, Hid (Below X.heap.size X W) → Calls Tryz.prog 8 #[.pointer p, .int .i64 11, .int .i64 f, .int .i64 (-1), .int .i64 j] W fun e W' => e = .returned (.tuple #[.int .i64 q, .int .i64 G, .int .i64 0]) ∧ Hid (Below X.heap.size X W')) := HGo.out 11 f (-1) j q G 0 g1 (by have := HS.out; omega) (by omega)
          have C6 : Hid (∀ W, Hid (Below X.heap.size X W) → Calls Tryz.prog 8 #[.pointer p, .int .i64 10, .int .i64 q, .int .i64 G, .int .i64 j] W fun e W' => e = .returned (.tuple #[.int .i64 f, .int .i64 G, .int .i64 0]) ∧ Hid (Below X.heap.size X W')) := HGo.out 10 q G j f G 0 g2 (by omega) (by have := HG.out; omega)
          have hj1 : ((j : Int) == 0) = false := by simp; omega
          have hj2 : decide (j = 0) = false := by simp; omega
          have hj3 : ¬ ((j : Int) = 0) := by omega
          have T1 : True := trivial
          have T2 : True := trivial
          clear HD HGo hD g1 g2
          go_wp2_with (first
            | (go_at_call 8; clear T2; refine (C5.out _ HR).mono ?_; clear C5 HR; rintro e w6 ⟨rfl, HR⟩)
            | (go_at_call 8; refine (C6.out _ HR).mono ?_; clear C6 HR; rintro e w7 ⟨rfl, HR⟩))
          go_ret
          exact ⟨rfl, Below.on HX.out.2 HR.out⟩
end Go.Proofs.YtplieccalmkloaaGreatDoor.Sto
namespace Go.Proofs.YtplieccalmkloaaGreatDoor.moveGoal
open Go.RowKit Go.Shelf Sto
theorem walk_of (kd : Int) (s : ByteArray) (i c : Int) (w : World) (hT : Lib.Utf8Tabs 0 1 w) (hlo0 : 0 < w.heap.size) (hlo1 : 1 < w.heap.size) (h0 : 0 ≤ kd ∧ kd ≤ 255) (_hs : s.size ≤ 140737488351232) (h2 : -9223372036854775808 ≤ i ∧ i ≤ 9223372036854775807) (h3 : 0 ≤ c ∧ c ≤ 255) :
    Calls Tryz.prog 4 #[.int .u8 kd, .string s, .int .i64 i, .int .u8 c] w fun e W' => e = .returned (.bool true) ∧ Below w.heap.size w W' := by
  obtain ⟨a, rfl⟩ := Int.eq_ofNat_of_zero_le h0.1
  obtain ⟨b, rfl⟩ := Int.eq_ofNat_of_zero_le h3.1
  exact goal_walk a (by omega) s i h2 b (by omega) w ⟨hT, hlo0, hlo1⟩
end Go.Proofs.YtplieccalmkloaaGreatDoor.moveGoal
