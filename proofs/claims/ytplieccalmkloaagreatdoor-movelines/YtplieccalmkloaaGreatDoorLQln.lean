/-
  The walk of the law MoveLines: a line's beginning and end are found from anywhere in it, and places at columns. Conditions: the two tables of unicode/utf8 lie as their text lays them.
-/
import Derived.Test.YtplieccalmkloaaGreatDoorPkQB
import Derived.Test.YtplieccalmkloaaGreatDoorPkQA
import Derived.Test.YtplieccalmkloaaGreatDoorCList
import Derived.Deep.DeepCutAuto
namespace Go.Proofs.YtplieccalmkloaaGreatDoor.Sto
open Go.RowKit Go.Shelf Bod Wid

section
variable {s : ByteArray}
/-- the newlines that end at x or ahead of it -/
def nlc (x : Nat) : List Clu → Nat
  | [] => 0
  | c :: r => (if c.k = 1 ∧ c.to ≤ x then 1 else 0) + nlc x r
theorem nlc_app (x : Nat) : ∀ a b : List Clu, nlc x (a ++ b) = nlc x a + nlc x b
  | [], b => by simp [nlc]
  | c :: r, b => by
    have := nlc_app x r b
    simp only [List.cons_append, nlc]
    omega
theorem nlc_snoc (x : Nat) (l : List Clu) (c : Clu) : nlc x (l ++ [c]) = nlc x l + (if c.k = 1 ∧ c.to ≤ x then 1 else 0) := by rw [nlc_app]; simp [nlc]
theorem nlc_le (x : Nat) : ∀ l : List Clu, nlc x l ≤ l.length
  | [] => Nat.le_refl _
  | c :: r => by
    have := nlc_le x r
    simp only [nlc, List.length_cons]
    split <;> omega
theorem nlc_all (x : Nat) : ∀ (l : List Clu) (i : Nat), (∀ c ∈ l, c ∈ cl s) → tiled i l x → nlc x l = cn s i x
  | [], i, _, h => by
    have e : i = x := h
    rw [e, cn_self]; rfl
  | c :: r, i, hm, ⟨h1, h2, h3⟩ => by
    have ih := nlc_all x r c.to (fun d hd => hm d (by simp [hd])) h3
    have hle := (tiled_end _ _ _ h3).1
    have hc := cl_cn (s := s) (hm c (by simp))
    have e := cn_add (s := s) (a := i) (b := c.to) (c := x) (by omega) hle
    rw [h1] at hc
    simp only [nlc]
    rw [ih, e, hc]
    by_cases hk : c.k = 1
    · rw [if_pos ⟨hk, hle⟩, if_pos hk]
    · rw [if_neg (fun q => hk q.1), if_neg hk]
theorem nlc_no (x : Nat) : ∀ (l : List Clu) (i j : Nat), tiled i l j → x ≤ i → nlc x l = 0
  | [], _, _, _, _ => rfl
  | c :: r, i, j, ⟨h1, h2, h3⟩, h => by
    have := nlc_no x r c.to j h3 (by omega)
    simp only [nlc, if_neg (show ¬ (c.k = 1 ∧ c.to ≤ x) by omega), this]
theorem nlc_cl {x : Nat} (hx : cbZ s x = true) : nlc x (cl s) = cn s 0 x := by
  obtain ⟨pre, post, hF⟩ := fr_of hx
  rw [← hF.eq, nlc_app, nlc_all (s := s) x pre 0 (fun c hc => hF.mem (by simp [hc])) hF.l, nlc_no x post x s.size hF.r (Nat.le_refl _)]
  rfl
/-- all that the law asks of a line -/
structure Lf (s : ByteArray) (i : Int) (x y : Nat) : Prop where
  ls : goP s 8 i (-1) 1 = ((x : Int), -1, 0)
  le : goP s 9 i (-1) 1 = ((y : Int), -1, 0)
  xy : x ≤ y
  ys : y ≤ s.size
  cx : cbZ s x = true
  cy : cbZ s y = true
  sp : IsS s (cn s 0 x : Int) (some (x, y))
theorem lf_ex (s : ByteArray) (i : Int) : ∃ x y, Lf s i x y := by
  have hp := (snp_is s i).cb
  obtain ⟨x, y, h1, h2, h3, h4, h5, h6, h7⟩ := line_at hp
  have hS := lspF_is s (cn s 0 (snp s i) : Int)
  rw [h1] at hS
  refine ⟨x, y, ?_, ?_, by omega, cb_le h5, h4, h5, by rw [h6]; exact hS⟩
  · rw [goP_in (by omega)]
    have hw : wantF s 8 (snp s i) (max (-1) (-1)) = -1 := by unfold wantF; rw [if_neg (by omega)]
    have hl0 : lead s 8 (snp s i) (-1) (cnt 1) = (x, true) := by
      show (((lspF s (cn s 0 (snp s i))).getD (0, 0)).1, true) = _
      rw [h1]; rfl
    rw [hw, hl0]; rfl
  · rw [goP_in (by omega)]
    have hw : wantF s 9 (snp s i) (max (-1) (-1)) = -1 := by unfold wantF; rw [if_neg (by omega)]
    have hl0 : lead s 9 (snp s i) (-1) (cnt 1) = (y, true) := by
      show (((lspF s (cn s 0 (snp s i))).getD (0, 0)).2, true) = _
      rw [h1]; rfl
    rw [hw, hl0]; rfl
variable {i : Int} {x y : Nat}
theorem Lf.pl (h : Lf s i x y) {p : Nat} (hp : cbZ s p = true) (h1 : x ≤ p) (h2 : p ≤ y) : colF s p = cw s x p := by
  obtain ⟨a, b, hP⟩ := pl_ex hp
  have e := h.sp.num h1 h2
  have hs := hP.sp
  rw [show (cn s 0 p : Int) = (cn s 0 x : Int) by omega] at hs
  have e2 := hs.uniq h.sp
  injection e2 with e2
  injection e2 with e3 e4
  rw [col_pl hP, e3]
theorem Lf.col0 (h : Lf s i x y) : colF s x = 0 := by rw [h.pl h.cx (Nat.le_refl _) h.xy, cw_self]
theorem Lf.no (h : Lf s i x y) {c : Clu} (hc : c ∈ cl s) (hk : c.k = 1) : ¬ (x ≤ c.fr ∧ c.fr < y) ∧ ¬ (x < c.to ∧ c.to ≤ y) := by
  have hm := til_mem _ _ _ (cl_tile s) c hc
  have hb := (cl_k s c hc).1 hk
  have h0 := h.sp.cn0
  have key : x < c.to → c.to ≤ y → False := fun a b => cn_in h0 (i := c.to - 1) (by omega) (by omega) h.ys hb
  refine ⟨fun q => ?_, fun q => key q.1 q.2⟩
  rcases Nat.lt_or_ge y c.to with e | e
  · have := (cl_cb s c hc).2 y (by omega) (by omega)
    rw [h.cy] at this; cases this
  · exact key (by omega) e
theorem Lf.at0 (h : Lf s i x y) (h0 : 0 < x) : byt s (x - 1) = 10 := by
  rcases h.sp.1.2.1 with e | e
  · omega
  · exact e
theorem Lf.atE (h : Lf s i x y) (h0 : y < s.size) : byt s y = 10 ∨ byt s y = 13 := by
  have hS := h.sp
  obtain ⟨-, r, hr, hl⟩ := hS
  simp only at hr hl
  cases r with
  | none => have : y = s.size := hl; omega
  | some q =>
    obtain ⟨k1, k2, k3, k4, k5, k6, k7⟩ := h.sp.nl hr
    rcases k6 with e | ⟨e, e'⟩
    · rw [e] at k5; exact .inl (by simpa using k5)
    · exact .inr e'
theorem Lf.plc (h : Lf s i x y) {q : Int} (hq : 0 ≤ q) : ∃ p : Nat, plcF s (hl s (cn s 0 x)) q = p ∧ x ≤ p ∧ p ≤ y ∧ cbZ s p = true ∧ colF s p ≤ q ∧ (p < y → ∃ m : Nat, IsNext s p m ∧ cbZ s m = true ∧ m ≤ s.size ∧ q < colF s m) := by
  have hR := plc_is (c := q) h.sp
  rw [show max q 0 = q by omega] at hR
  rw [hl_of s (cb_le h.cx)]
  refine ⟨_, rfl, hR.lo, hR.hi, hR.cb, by rw [h.pl hR.cb hR.lo hR.hi]; exact hR.fit, fun hlt => ?_⟩
  have hn := nxt_is s (plcF s (cn s 0 x) q)
  have h1 := nx_ge s (b := plcF s (cn s 0 x) q) (by have := h.ys; omega)
  have h2 : nxt s (plcF s (cn s 0 x) q) ≤ y := by
    rcases Nat.lt_or_ge y (nxt s (plcF s (cn s 0 x) q)) with e | e
    · have := hn.no y (by omega) (by omega); rw [h.cy] at this; cases this
    · exact e
  refine ⟨_, hn, hn.cb, cb_le hn.cb, ?_⟩
  rw [h.pl hn.cb (by have := hR.lo; omega) h2]
  exact hR.no _ h1 h2 hn.cb
end
theorem c_box {W : World} {c : Clu} : (W.alloc (.cells #[.int .i64 c.fr, .int .i64 c.to, .int .i64 c.k, .int .i64 c.n] 34)).cell? ⟨W.heap.size, 0, none⟩ = some (.int .i64 c.fr) ∧ (W.alloc (.cells #[.int .i64 c.fr, .int .i64 c.to, .int .i64 c.k, .int .i64 c.n] 34)).cell? ⟨W.heap.size, 1, none⟩ = some (.int .i64 c.to) ∧ (W.alloc (.cells #[.int .i64 c.fr, .int .i64 c.to, .int .i64 c.k, .int .i64 c.n] 34)).cell? ⟨W.heap.size, 2, none⟩ = some (.int .i64 c.k) := by
  have := World.alloc_heap_new W (.cells #[.int .i64 c.fr, .int .i64 c.to, .int .i64 c.k, .int .i64 c.n] 34)
  exact ⟨by unfold World.cell?; rw [this]; rfl, by unfold World.cell?; rw [this]; rfl, by unfold World.cell?; rw [this]; rfl⟩
theorem byt_u {s : ByteArray} {k : Nat} (h : k < s.size) : ((s[k]'h).toNat : Int) = ((byt s k).toNat : Int) := by
  have h1 := bt_byt h
  have h2 : bt s k = (s[k]'h).toNat := by unfold bt; rw [Utf8W.get!_of_lt s k h]
  omega
set_option maxRecDepth 100000 in
set_option maxHeartbeats 8000000 in
theorem lines_walk (kd : Nat) (hkd : kd ≤ 255) (s : ByteArray) (i : Int) (hi : i ≤ 9223372036854775807) (c : Nat) (hc : c ≤ 255) (w : World) (hE : Ev w) :
    Calls Tryz.prog 3 #[.int .u8 kd, .string s, .int .i64 i, .int .u8 c] w fun e W' => e = .returned (.bool true) ∧ Below w.heap.size w W' := by
  have hM : Tryz.prog.follows .mixedOrders = true := by kernel_rfl
  have CA : Hid (Calls Tryz.prog 6 #[] w fun e W' => e = .returned (.bool true) ∧ Hid (Below w.heap.size w W')) := goes_any hM w hE
  by_cases hbig : 1073741824 < s.size
  · have hbig' : (1073741824 : Int) < s.size := by omega
    clear hE hM
    go_enter Tryz.func3, Tryz.ntmps3
    go_wp2_with (go_at_call 6; refine CA.out.mono ?_; clear CA; rintro e w1 ⟨rfl, HB⟩)
    go_ret
    exact ⟨rfl, HB.out⟩
  · have hs : s.size ≤ 1073741824 := by omega
    have hbig' : ¬ ((1073741824 : Int) < s.size) := by omega
    have CL : Hid (∀ W, Hid (Below w.heap.size w W) → Calls Tryz.prog 7 #[.int .u8 kd, .string s] W fun e W' => ∃ p, e = .returned (.pointer p) ∧ Hid (Sv W' (.pointer p) s ∧ Below w.heap.size w W')) := fun W hW => (laid_any W (hE.below hW.out) s hs kd hkd).mono fun e W' ⟨p, q1, q2, q3⟩ => ⟨p, q1, q2, Below.on hW.out q3⟩
    obtain ⟨x, y, hF⟩ := lf_ex s i
    have HF : Hid (Lf s i x y) := hF
    have hxy := hF.xy
    have hys := hF.ys
    have HM : Hid (Tryz.prog.follows .mixedOrders = true) := hM
    have HS : Hid (s.size ≤ 1073741824) := hs
    have HI : Hid (i ≤ 9223372036854775807) := hi
    have HEv : Hid (Ev w) := hE
    have CG : Hid (∀ W p, Hid (Sv W (.pointer p) s ∧ Below w.heap.size w W) → Calls Tryz.prog 8 #[.pointer p, .int .i64 8, .int .i64 i, .int .i64 (-1), .int .i64 1] W fun e W' => e = .returned (.tuple #[.int .i64 x, .int .i64 (-1), .int .i64 0]) ∧ Hid (Sv W' (.pointer p) s ∧ Below w.heap.size w W')) := fun W p hW => (Go_any hM hW.out.1 8 i (-1) 1 hi (by omega)).mono fun e W' ⟨q1, q2⟩ => ⟨by rw [q1, hF.ls], hW.out.1.below q2, Below.on hW.out.2 q2⟩
    have CH : Hid (∀ W p, Hid (Sv W (.pointer p) s ∧ Below w.heap.size w W) → Calls Tryz.prog 8 #[.pointer p, .int .i64 9, .int .i64 i, .int .i64 (-1), .int .i64 1] W fun e W' => e = .returned (.tuple #[.int .i64 y, .int .i64 (-1), .int .i64 0]) ∧ Hid (Sv W' (.pointer p) s ∧ Below w.heap.size w W')) := fun W p hW => (Go_any hM hW.out.1 9 i (-1) 1 hi (by omega)).mono fun e W' ⟨q1, q2⟩ => ⟨by rw [q1, hF.le], hW.out.1.below q2, Below.on hW.out.2 q2⟩
    have CC : Hid (∀ W p, Hid (Sv W (.pointer p) s ∧ Below w.heap.size w W) → Calls Tryz.prog 9 #[.pointer p, .int .i64 x] W fun e W' => e = .returned (.int .i64 0) ∧ Hid (Sv W' (.pointer p) s ∧ Below w.heap.size w W')) := fun W p hW => (Column_any hM hW.out.1 x (by omega)).mono fun e W' ⟨q1, q2⟩ => ⟨by rw [q1, snp_self hF.cx, hF.col0], hW.out.1.below q2, Below.on hW.out.2 q2⟩
    obtain ⟨N, hN⟩ : ∃ N, (cl s).length = N := ⟨_, rfl⟩
    have hNl : N ≤ s.size := by rw [← hN]; exact cl_len s
    have CT : Hid (∀ W p, Hid (Sv W (.pointer p) s ∧ Below w.heap.size w W) → Calls Tryz.prog 10 #[.string s] W fun e W' => ∃ a cap, e = .returned (.slice a N cap) ∧ Hid (Rd4 W' (.slice a N cap) (cl s) ∧ Sv W' (.pointer p) s ∧ Below w.heap.size w W')) := fun W p hW => (list_any s (by unfold maxLen; omega) (by omega) W hW.out.1.ev.t hW.out.1.ev.l0 hW.out.1.ev.l1).mono fun e W' ⟨v, q1, q2, q3⟩ => by
      have hr := Rd4.of_row q2.1
      have hr0 := hr
      obtain ⟨a, cap, rfl, -⟩ := hr
      rw [hN] at q1 hr0
      exact ⟨a, cap, q1, hr0, hW.out.1.below q3, Below.on hW.out.2 q3⟩
    have HN : Hid ((cl s).length = N) := hN
    have hNi : (N : Int) ≤ 1073741824 := by omega
    have b1 : (x : Int) ≤ y ∧ (y : Int) ≤ s.size ∧ (y : Int) ≤ 1073741824 := by omega
    have b2 : ¬ ((y : Int) < x) := by omega
    have b3 : ¬ ((s.size : Int) < y) := by omega
    have T1 : True := trivial
    clear hF hM hs hi hE hN hNl
    go_enter Tryz.func3, Tryz.ntmps3
    go_upto_region 12 with (first
      | (go_at_call 6; refine CA.out.mono ?_; clear CA; rintro e w1 ⟨rfl, HB⟩)
      | (go_at_call 7; refine (CL.out _ HB).mono ?_; clear CL HB; rintro e w2 ⟨p, rfl, HB⟩)
      | (go_at_call 8; clear T1; refine (CG.out _ _ HB).mono ?_; clear CG HB; rintro e w3 ⟨rfl, HB⟩)
      | (go_at_call 8; refine (CH.out _ _ HB).mono ?_; clear CH HB; rintro e w4 ⟨rfl, HB⟩)
      | (go_at_call 9; refine (CC.out _ _ HB).mono ?_; clear CC HB; rintro e w5 ⟨rfl, HB⟩)
      | (go_at_call 10; refine (CT.out _ _ HB).mono ?_; clear CT HB; rintro e X ⟨la, lc, rfl, HX⟩))
    have HY : Hid (Below X.heap.size X X) := Below.refl _ _
    go_loopw [16, 73] (fun t16 t73 wr => ∃ (m j : Nat), t16 = .int .i64 m ∧ t73 = .int .i64 j ∧ j ≤ N ∧ m ≤ j ∧ Hid (m = nlc x ((cl s).take j)) ∧ Hid (Below X.heap.size X wr)) (fun _ t73 _ => N - (Go.RowKit.intOf t73).toNat)
    case atStart => exact ⟨0, 0, rfl, rfl, Nat.zero_le _, Nat.le_refl _, rfl, HY⟩
    case round =>
      clear HY
      obtain ⟨m, j, rfl, rfl, hj, hmj, HC, HR⟩ := hrel
      by_cases hlt : j < N
      · have hlt' : (j : Int) < N := by omega
        obtain ⟨d, hd⟩ : ∃ d, (cl s)[j]? = some d := ⟨(cl s)[j]'(by rw [HN.out]; exact hlt), List.getElem?_eq_getElem _⟩
        obtain ⟨a', cap', e1, k1⟩ := HX.out.1.below HR.out
        injection e1 with e1 e2 e3
        clear e2
        subst e1 e3
        obtain ⟨g, rfl, hg, hcell⟩ := k1 (fun e => by rw [e] at hd; simp at hd)
        obtain ⟨x0, x1, x2, x3⟩ := hcell j d hd
        have hdm := List.mem_of_getElem? hd
        have HT : Hid (nlc x ((cl s).take (j + 1)) = m + (if d.k = 1 ∧ d.to ≤ x then 1 else 0)) := by
          rw [show (cl s).take (j + 1) = (cl s).take j ++ [d] by rw [List.take_add_one, hd]; rfl, nlc_snoc, ← HC.out]
          exact rfl
        have HNo : Hid (d.k = 1 → ¬ (x ≤ d.fr ∧ d.fr < y) ∧ ¬ (x < d.to ∧ d.to ≤ y)) := HF.out.no hdm
        have hft : d.fr < d.to := (til_mem _ _ _ (cl_tile s) d hdm).2.1
        have HA : Hid (Below X.heap.size X (wr.alloc (.cells #[.int .i64 d.fr, .int .i64 d.to, .int .i64 d.k, .int .i64 d.n] 34))) := HR.out.alloc HR.out.size _
        obtain ⟨y0, y1, y2⟩ := c_box (W := wr) (c := d)
        obtain ⟨df, hdf⟩ : ∃ df, d.fr = df := ⟨_, rfl⟩
        obtain ⟨dt, hdt⟩ : ∃ dt, d.to = dt := ⟨_, rfl⟩
        obtain ⟨dk, hdk⟩ : ∃ dk, d.k = dk := ⟨_, rfl⟩
        obtain ⟨dn, hdn⟩ : ∃ dn, d.n = dn := ⟨_, rfl⟩
        rw [hdf, hdt, hdk, hdn] at HA y0 y1 y2
        rw [hdt, hdk] at HT
        rw [hdf, hdt, hdk] at HNo
        rw [hdf, hdt] at hft
        rw [hdf] at x0
        rw [hdt] at x1
        rw [hdk] at x2
        rw [hdn] at x3
        clear hd hcell k1 hdm hdf hdt hdk hdn HC
        go_upto_region 14 with fail
        generalize wr.alloc (.cells #[.int .i64 df, .int .i64 dt, .int .i64 dk, .int .i64 dn] 34) = W1 at HA y0 y1 y2 ⊢
        clear x0 x1 x2 x3 HR
        by_cases hk : dk = 1
        · subst hk
          have hno := HNo.out rfl
          by_cases hx : dt ≤ x
          · have h1 : (dt : Int) ≤ x := by omega
            have h2 : ¬ ((x : Int) ≤ df) := by omega
            have h3 : ¬ ((x : Int) < dt) := by omega
            have HT2 : Hid (m + 1 = nlc x ((cl s).take (j + 1))) := by
              show _ = _
              rw [HT.out, if_pos ⟨rfl, hx⟩]
            clear HT HNo hno
            go_wp2
            exact ⟨⟨m + 1, j + 1, by go_num, by go_num, by omega, by omega, HT2, HA⟩, by simp [Go.RowKit.intOf]; omega⟩
          · have h1 : ¬ ((dt : Int) ≤ x) := by omega
            have h3 : (x : Int) < dt := by omega
            have h4 : ¬ ((dt : Int) ≤ y) := by omega
            have HT2 : Hid (m = nlc x ((cl s).take (j + 1))) := by
              show _ = _
              rw [HT.out, if_neg (fun q => hx q.2)]; omega
            by_cases hx2 : x ≤ df
            · have h2 : (x : Int) ≤ df := by omega
              have h5 : ¬ ((df : Int) < y) := by omega
              clear HT HNo hno
              go_wp2
              exact ⟨⟨m, j + 1, rfl, by go_num, by omega, by omega, HT2, HA⟩, by simp [Go.RowKit.intOf]; omega⟩
            · have h2 : ¬ ((x : Int) ≤ df) := by omega
              clear HT HNo hno
              go_wp2
              exact ⟨⟨m, j + 1, rfl, by go_num, by omega, by omega, HT2, HA⟩, by simp [Go.RowKit.intOf]; omega⟩
        · have hk1 : (dk == 1) = false := by simp [hk]
          have hk2 : decide (dk = 1) = false := by simp [hk]
          have HT2 : Hid (m = nlc x ((cl s).take (j + 1))) := by
            show _ = _
            rw [HT.out, if_neg (fun q => hk q.1)]; omega
          clear HT HNo
          go_wp2
          exact ⟨⟨m, j + 1, rfl, by go_num, by omega, by omega, HT2, HA⟩, by simp [Go.RowKit.intOf]; omega⟩
      · have hlt' : ¬ ((j : Int) < N) := by omega
        have HMn : Hid (m = cn s 0 x) := by
          show m = _
          rw [HC.out, List.take_of_length_le (by rw [HN.out]; omega)]
          exact nlc_cl HF.out.cx
        obtain ⟨pp, e1, e2, e3, e4, e5, e6⟩ := HF.out.plc (q := (c : Int)) (by omega)
        have DP : Hid (∀ W, Hid (Below X.heap.size X W) → Calls Tryz.prog 11 #[.pointer p, .int .i64 m, .int .i64 c] W fun e W' => e = .returned (.int .i64 pp) ∧ Hid (Below X.heap.size X W')) := fun W hW => (Place_any HM.out (HX.out.2.1.below hW.out) m c (by omega)).mono fun e W' ⟨q1, q2⟩ => ⟨by rw [q1, HMn.out, e1], Below.on hW.out q2⟩
        have DC : Hid (∀ W, Hid (Below X.heap.size X W) → Calls Tryz.prog 9 #[.pointer p, .int .i64 pp] W fun e W' => e = .returned (.int .i64 (colF s pp)) ∧ Hid (Below X.heap.size X W')) := fun W hW => (Column_any HM.out (HX.out.2.1.below hW.out) pp (by have := HS.out; omega)).mono fun e W' ⟨q1, q2⟩ => ⟨by rw [q1, snp_self e4], Below.on hW.out q2⟩
        have HE6 : Hid (pp < y → ∃ m : Nat, IsNext s pp m ∧ cbZ s m = true ∧ m ≤ s.size ∧ (c : Int) < colF s m) := e6
        generalize colF s pp = cp at DC e5
        have g1 : ¬ ((pp : Int) < x) := by omega
        have g2 : ¬ ((y : Int) < pp) := by omega
        have g3 : ¬ ((c : Int) < cp) := by omega
        clear e1 e2 e3 e4 e5 e6 HC HMn
        go_upto_region 20 with fail
        go_cut [144] (fun t144 wc => t144 = .bool false ∧ wr = wc)
        case first =>
          clear DP DC HE6
          have hA0 := HF.out.at0
          have hAE := HF.out.atE
          rcases Nat.eq_zero_or_pos x with hx0 | hx0
          · subst hx0
            rcases Nat.lt_or_ge y s.size with hy | hy
            · have hy' : (y : Int) < s.size := by omega
              have hb := byt_u hy
              rcases hAE hy with hbb | hbb
              · have v1 : ((s[y]'hy).toNat : Int) = 10 := by rw [hb, hbb]; rfl
                clear hb hbb hA0 hAE
                go_wp2
                go_meet
                case rel => exact ⟨rfl, rfl⟩
              · have v1 : ¬ (((s[y]'hy).toNat : Int) = 10) := by rw [hb, hbb]; decide
                have v2 : ((s[y]'hy).toNat : Int) = 13 := by rw [hb, hbb]; rfl
                clear hb hbb hA0 hAE
                go_wp2
                go_meet
                case rel => exact ⟨rfl, rfl⟩
            · have hy' : ¬ ((y : Int) < s.size) := by omega
              clear hA0 hAE
              go_wp2
              go_meet
              case rel => exact ⟨rfl, rfl⟩
          · obtain ⟨k, rfl⟩ : ∃ k, x = k + 1 := ⟨x - 1, by omega⟩
            have hk0 : k < s.size := by omega
            have ha := hA0 (by omega)
            rw [Nat.add_sub_cancel] at ha
            have v0 : ((s[k]'hk0).toNat : Int) = 10 := by rw [byt_u hk0, ha]; rfl
            rcases Nat.lt_or_ge y s.size with hy | hy
            · have hy' : (y : Int) < s.size := by omega
              have hb := byt_u hy
              rcases hAE hy with hbb | hbb
              · have v1 : ((s[y]'hy).toNat : Int) = 10 := by rw [hb, hbb]; rfl
                clear hb hbb hA0 hAE ha
                go_wp2
                go_meet
                case rel => exact ⟨rfl, rfl⟩
              · have v1 : ¬ (((s[y]'hy).toNat : Int) = 10) := by rw [hb, hbb]; decide
                have v2 : ((s[y]'hy).toNat : Int) = 13 := by rw [hb, hbb]; rfl
                clear hb hbb hA0 hAE ha
                go_wp2
                go_meet
                case rel => exact ⟨rfl, rfl⟩
            · have hy' : ¬ ((y : Int) < s.size) := by omega
              clear hA0 hAE ha
              go_wp2
              go_meet
              case rel => exact ⟨rfl, rfl⟩
        case rest =>
          obtain ⟨rfl, rfl⟩ := hcut
          by_cases hpy : pp = y
          · subst hpy
            have T2 : True := trivial
            clear HE6
            go_wp2_with (first
              | (go_at_call 11; refine (DP.out _ HR).mono ?_; clear DP HR; rintro e w6 ⟨rfl, HR⟩)
              | (go_at_call 9; refine (DC.out _ HR).mono ?_; clear DC HR; rintro e w7 ⟨rfl, HR⟩))
            go_ret
            exact ⟨rfl, Below.on HX.out.2.2 HR.out⟩
          · obtain ⟨mn, q1, q2, q3, q4⟩ := HE6.out (by omega)
            have DN : Hid (∀ W, Hid (Below X.heap.size X W) → Calls Tryz.prog 12 #[.string s, .int .i64 pp] W fun e W' => e = .returned (.int .i64 mn) ∧ Hid (Below X.heap.size X W')) := fun W hW => (cnext_any s pp (by unfold maxLen; have := HS.out; omega) W (HX.out.2.1.ev.below hW.out).t).mono fun e W' ⟨m', u1, u2, u3⟩ => ⟨by rw [u1, u2.uniq q1], Below.on hW.out u3⟩
            have DD : Hid (∀ W, Hid (Below X.heap.size X W) → Calls Tryz.prog 9 #[.pointer p, .int .i64 mn] W fun e W' => e = .returned (.int .i64 (colF s mn)) ∧ Hid (Below X.heap.size X W')) := fun W hW => (Column_any HM.out (HX.out.2.1.below hW.out) mn (by have := HS.out; omega)).mono fun e W' ⟨u1, u2⟩ => ⟨by rw [u1, snp_self q2], Below.on hW.out u2⟩
            generalize colF s mn = cm at DD q4
            have hpy1 : ((pp : Int) == y) = false := by simp; omega
            have hpy2 : ¬ ((pp : Int) = y) := by omega
            have T2 : True := trivial
            clear HE6 q1 q2 q3
            go_wp2_with (first
              | (go_at_call 11; refine (DP.out _ HR).mono ?_; clear DP HR; rintro e w6 ⟨rfl, HR⟩)
              | (go_at_call 12; refine (DN.out _ HR).mono ?_; clear DN HR; rintro e w7 ⟨rfl, HR⟩)
              | (go_at_call 9; clear T2; refine (DC.out _ HR).mono ?_; clear DC HR; rintro e w8 ⟨rfl, HR⟩)
              | (go_at_call 9; refine (DD.out _ HR).mono ?_; clear DD HR; rintro e w9 ⟨rfl, HR⟩))
            go_ret
            exact ⟨rfl, Below.on HX.out.2.2 HR.out⟩
end Go.Proofs.YtplieccalmkloaaGreatDoor.Sto
namespace Go.Proofs.YtplieccalmkloaaGreatDoor.moveLines
open Go.RowKit Go.Shelf Sto
theorem walk_of (kd : Int) (s : ByteArray) (i c : Int) (w : World) (hT : Lib.Utf8Tabs 0 1 w) (hlo0 : 0 < w.heap.size) (hlo1 : 1 < w.heap.size) (h0 : 0 ≤ kd ∧ kd ≤ 255) (_hs : s.size ≤ 140737488351232) (h2 : -9223372036854775808 ≤ i ∧ i ≤ 9223372036854775807) (h3 : 0 ≤ c ∧ c ≤ 255) :
    Calls Tryz.prog 3 #[.int .u8 kd, .string s, .int .i64 i, .int .u8 c] w fun e W' => e = .returned (.bool true) ∧ Below w.heap.size w W' := by
  obtain ⟨a, rfl⟩ := Int.eq_ofNat_of_zero_le h0.1
  obtain ⟨b, rfl⟩ := Int.eq_ofNat_of_zero_le h3.1
  exact lines_walk a (by omega) s i h2.2 b (by omega) w ⟨hT, hlo0, hlo1⟩
end Go.Proofs.YtplieccalmkloaaGreatDoor.moveLines
