/-
  The walk of the law LinesBack: every boundary that stands in no newline is found again by its line and its column. Conditions: the two tables of unicode/utf8 lie as their text lays them.
-/
import Derived.Test.YtkcfhcglplnmeaaGreatDoorPkDK
import Derived.Test.YtkcfhcglplnmeaaGreatDoorPkUK
import Derived.Test.YtkcfhcglplnmeaaGreatDoorCPlaces
import Derived.Test.YtkcfhcglplnmeaaGreatDoorPkI
import Derived.Lib.QuietBelow
import Derived.BigQuiet
namespace Go.Proofs.YtkcfhcglplnmeaaGreatDoor.Sto
open Go.RowKit Go.Shelf Bod Wid

/-- a boundary in its line -/
structure Pl (s : ByteArray) (at' p b : Nat) : Prop where
  sp : IsS s (cn s 0 at' : Int) (some (p, b))
  lo : p ≤ at'
  hi : at' ≤ b
  cb : cbZ s at' = true
  l : IsL s at' p
theorem pl_ex {s : ByteArray} {n : Nat} (hn : n ≤ s.size) (hc : cbZ s n = true) : ∃ p b, Pl s n p b := by
  obtain ⟨p, hp⟩ := isL_ex (s := s) n hn
  have hp0 := hp
  obtain ⟨p1, p2, p3⟩ := hp
  have e1 := cn_add (s := s) (a := 0) (b := p) (c := n) (by omega) p1
  have hN : IsN s (cn s 0 n : Int) p := ⟨by omega, p2, by omega⟩
  obtain ⟨o, ho⟩ := isS_ex s (cn s 0 n : Int)
  cases o with
  | none =>
    have h' : (cn s 0 n : Int) < 0 ∨ (cn s 0 s.size : Int) < (cn s 0 n : Int) := ho
    have := cn_mono (s := s) (a := 0) (b := n) (c := s.size) (by omega) hn
    omega
  | some x =>
    obtain ⟨a, b⟩ := x
    obtain rfl : a = p := ho.1.uniq hN
    refine ⟨a, b, ho, p1, ?_, hc, hp0⟩
    rcases Nat.lt_or_ge b n with hb | hb
    · have ho' := ho
      obtain ⟨-, r, hr, hl⟩ := ho
      simp only at hr hl
      cases r with
      | none => have : b = s.size := hl; omega
      | some q =>
        obtain ⟨k1, k2, k3, k4, k5, k6, k7⟩ := ho'.nl hr
        have hq : n < q := by
          rcases Nat.lt_or_ge n q with e | e
          · exact e
          · have := cn_mono (s := s) (a := a) (b := q) (c := n) (by have := hr.1; omega) e
            have := hr.2.2.2
            omega
        have := k3.no n (by omega) (by omega)
        rw [hc] at this; cases this
    · exact hb
section
variable {s : ByteArray} {n p b : Nat}
theorem Pl.col (h : Pl s n p b) : IsCo s n (some (cw s p n)) := by
  refine ⟨n, rfl, by have := h.sp.le; have := h.hi; omega, p, n, h.l, ⟨h.cb, .inl (by omega), fun j j1 j2 => by omega⟩, (cw_ce s p n).symm⟩
theorem Pl.more (h : Pl s n p b) {j : Nat} (h1 : n < j) (h2 : j ≤ b) (hj : cbZ s j = true) : cw s p j = cw s p n + cw s n j ∧ 1 ≤ cw s n j := by
  obtain ⟨ca, -⟩ := h.sp.cb
  have hbs := h.sp.le.2
  have hlo := h.lo
  refine ⟨cw_add ca h.cb hj h.lo (by omega), cw_pos ?_ h1 (by omega)⟩
  have e0 := h.sp.cn0
  have e1 := cn_add (s := s) (a := p) (b := n) (c := b) h.lo h.hi
  have e2 := cn_mono (s := s) (a := n) (b := j) (c := b) (by omega) h2
  omega
theorem Pl.at' (h : Pl s n p b) {c : Int} (h0 : 0 ≤ c) (h1 : cw s p n ≤ c) (h2 : ∀ j, n < j → j ≤ b → cbZ s j = true → c < cw s p j) : IsA s (cn s 0 n : Int) c (some n) :=
  ⟨p, b, h.sp, by rw [show max c 0 = c by omega]; exact ⟨h.lo, h.hi, h.cb, h1, h2⟩⟩
theorem Pl.back (h : Pl s n p b) : IsA s (cn s 0 n : Int) (cw s p n) (some n) :=
  h.at' (cw_nonneg _ _ _) (Int.le_refl _) fun j j1 j2 j3 => by have := h.more j1 j2 j3; omega
theorem Pl.low (h : Pl s n p b) : IsA s (cn s 0 n : Int) (-1) (some p) := by
  obtain ⟨ca, cb⟩ := h.sp.cb
  obtain ⟨h1, h2⟩ := h.sp.le
  refine ⟨p, b, h.sp, Nat.le_refl _, h1, ca, by rw [cw_self]; decide, fun j j1 j2 j3 => ?_⟩
  have e0 := h.sp.cn0
  have e2 := cn_mono (s := s) (a := p) (b := j) (c := b) (by omega) j2
  have := cw_pos (s := s) (a := p) (b := j) (by omega) j1 (by omega)
  show max (-1 : Int) 0 < _
  omega
theorem cw_le (s : ByteArray) {a b : Nat} (h : b ≤ s.size) : cw s a b ≤ 2 * s.size := by
  have h1 := (sumN_bd _ (cl_n (s.extract a b))).2
  have h2 := cl_len (s.extract a b)
  rw [size_extract s a b h] at h2
  unfold cw
  omega
theorem Pl.high (h : Pl s n p b) (hs : s.size ≤ 1073741824) : IsA s (cn s 0 n : Int) 1099511627776 (some b) := by
  obtain ⟨ca, cb⟩ := h.sp.cb
  obtain ⟨h1, h2⟩ := h.sp.le
  exact ⟨p, b, h.sp, h1, Nat.le_refl _, cb, by have := cw_le s (a := p) (b := b) h2; show _ ≤ max (1099511627776 : Int) 0; omega, fun j j1 j2 => by omega⟩
/-- the next boundary, within the line -/
theorem Pl.inner (h : Pl s n p b) {m : Nat} (hm : IsNext s n m) (hb : n < b) : m ≤ b ∧ n < m ∧ IsCo s m (some (cw s p n + cw s n m)) ∧ 1 ≤ cw s n m ∧ IsA s (cn s 0 n : Int) (cw s p n + cw s n m - 1) (some n) := by
  obtain ⟨ca, cb⟩ := h.sp.cb
  obtain ⟨h1, h2⟩ := h.sp.le
  have hnm : n < m := by rcases hm.up with e | ⟨e, e'⟩ <;> omega
  have hmb : m ≤ b := by
    rcases Nat.lt_or_ge b m with e | e
    · have := hm.no b (by omega) (by omega); rw [cb] at this; cases this
    · exact e
  obtain ⟨k1, k2⟩ := h.more hnm hmb hm.cb
  have hlo := h.lo
  refine ⟨hmb, hnm, ?_, k2, ?_⟩
  · rw [← k1]
    refine ⟨m, rfl, by omega, p, m, ⟨by omega, h.l.2.1, ?_⟩, ⟨hm.cb, .inl (by omega), fun j j1 j2 => by omega⟩, (cw_ce s p m).symm⟩
    have e0 := h.sp.cn0
    have e2 := cn_mono (s := s) (a := p) (b := m) (c := b) (by omega) hmb
    omega
  · have := cw_nonneg s p n
    refine h.at' (by omega) (by omega) fun j j1 j2 j3 => ?_
    obtain ⟨e1, -⟩ := h.more j1 j2 j3
    have hmj : m ≤ j := by
      rcases Nat.lt_or_ge j m with e | e
      · have := hm.no j (by omega) (by omega); rw [j3] at this; cases this
      · exact e
    have e2 := cw_add h.cb hm.cb j3 (by omega) hmj
    have := cw_nonneg s m j
    omega
/-- .. and over the newline -/
theorem Pl.outer (h : Pl s n p b) {m : Nat} (hm : IsNext s n m) (hb : ¬ n < b) (hn : n < s.size) : cw s n m = 0 := by
  have hi := h.hi
  obtain rfl : b = n := by omega
  have hS := h.sp
  obtain ⟨-, r, hr, hl⟩ := h.sp
  simp only at hr hl
  cases r with
  | none => have : b = s.size := hl; omega
  | some q =>
    obtain ⟨k1, k2, k3, k4, k5, k6, k7⟩ := hS.nl hr
    rw [hm.uniq k3]
    exact k4
end
set_option maxRecDepth 100000 in
set_option maxHeartbeats 4000000 in
theorem back_walk (s : ByteArray) (kd : Int) (w : World) (hE : Ev w) :
    Calls Tryz.prog 5 #[.agg #[.string s, .int .i64 kd]] w fun e W' => e = .returned (.bool true) ∧ Below w.heap.size w W' := by
  have hM : Tryz.prog.follows .mixedOrders = true := by kernel_rfl
  obtain ⟨W0, hW0⟩ : ∃ W0, w.alloc (.cells #[.string s, .int .i64 kd] 23) = W0 := ⟨_, rfl⟩
  have hb0 : Below w.heap.size w W0 ∧ W0.heap[w.heap.size]? = some (.cells #[.string s, .int .i64 kd] 23 (0, 0)) := by rw [← hW0]; exact ⟨(Below.refl _ w).alloc (Nat.le_refl _) _, World.alloc_heap_new w _⟩
  have HX : Hid (∀ W, Below W0.heap.size W0 W → W.cell? ⟨w.heap.size, 0, none⟩ = some (.string s) ∧ W.cell? ⟨w.heap.size, 1, none⟩ = some (.int .i64 kd)) := fun W hW => by
    have := (hW.block _ (Array.getElem?_eq_some_iff.1 hb0.2).1).trans hb0.2
    simp [World.cell?, this]
  have CA : Hid (Calls Tryz.prog 7 #[] W0 fun e W' => e = .returned (.bool true) ∧ Hid (Below W0.heap.size W0 W')) := awake_any hM W0 (hE.below hb0.1)
  obtain ⟨c0, c1⟩ := HX.out W0 (Below.refl _ _)
  have HB0 : Hid (Below w.heap.size w W0) := hb0.1
  by_cases hbig : 1073741822 < s.size
  · clear hE hM hb0
    go_enter Tryz.func5, Tryz.ntmps5
    go_wp2_with (go_at_call 7; refine CA.out.mono ?_; clear CA c0 c1 hW0; rintro e w1 ⟨rfl, H1⟩; obtain ⟨c0, c1⟩ := HX.out _ H1.out)
    go_ret
    exact ⟨rfl, Below.on HB0.out H1.out⟩
  · have hs : s.size ≤ 1073741824 := by omega
    have CK : Hid (∀ W, Hid (Below W0.heap.size W0 W) → Calls Tryz.prog 8 #[.agg #[.string s, .int .i64 kd]] W fun e W' => ∃ T u, e = .returned (.tuple #[.iface T u, .bool true]) ∧ Hid (Tl W' (.iface T u) s ∧ Below W0.heap.size W0 W')) := fun W hW => (keep_any hM W (hE.below (Below.on hb0.1 hW.out)) s kd hs).mono fun e W' ⟨T, u, q1, q2⟩ => ⟨T, u, q1, (q2.vt (hE.below (Below.on hb0.1 hW.out))).tl hs, Below.on hW.out q2.bel⟩
    have HEV : Hid (∀ W, Below W0.heap.size W0 W → Ev W) := fun W hW => hE.below (Below.on hb0.1 hW)
    have HMM : Hid (Tryz.prog.follows .mixedOrders = true) := hM
    have HSZ : Hid (s.size ≤ 1073741824) := hs
    clear hE hM hb0 hs
    go_enter Tryz.func5, Tryz.ntmps5
    go_wp2_with (first
      | (go_at_call 7; refine CA.out.mono ?_; clear CA c0 c1 hW0; rintro e w1 ⟨rfl, H1⟩; obtain ⟨c0, c1⟩ := HX.out _ H1.out)
      | (go_at_call 8; refine (CK.out _ H1).mono ?_; clear CK H1 c0 c1; rintro e X ⟨T, u, rfl, H2⟩))
    have HC : Hid (∀ W, Below X.heap.size X W → W.cell? ⟨w.heap.size, 0, none⟩ = some (.string s)) := fun W hW => (HX.out W (Below.on H2.out.2 hW)).1
    have HEnd : Hid (∀ W, Below X.heap.size X W → Below w.heap.size w W) := fun W hW => Below.on HB0.out (Below.on H2.out.2 hW)
    have HT : Hid (∀ W, Below X.heap.size X W → Tl W (.iface T u) s) := fun W hW => H2.out.1.below hW
    have HE2 : Hid (∀ W, Below X.heap.size X W → Ev W) := fun W hW => HEV.out W (Below.on H2.out.2 hW)
    have HR0 : Hid (Below X.heap.size X X) := Below.refl _ _
    clear HX HB0 HEV H2
    go_loopw [5, 6] (fun t5 t6 wr => ∃ (n k : Nat), n ≤ s.size ∧ k ≤ 300 ∧ t5 = .int .i64 (n : Int) ∧ t6 = .int .i64 (k : Int) ∧ Hid (cbZ s n = true ∧ Below X.heap.size X wr)) (fun _ t6 _ => 300 - (intOf t6).toNat)
    case atStart => exact ⟨0, 0, Nat.zero_le _, by omega, rfl, rfl, cb_zero s, HR0.out⟩
    case round =>
      obtain ⟨n, k, hn, hk, rfl, rfl, HI⟩ := hrel
      clear HR0
      by_cases hk3 : k < 300
      · obtain ⟨p, b, hP⟩ := pl_ex hn HI.out.1
        obtain ⟨hpb, hbs⟩ := hP.sp.le
        have hpn := hP.lo
        have hnb := hP.hi
        have HP : Hid (Pl s n p b) := hP
        obtain ⟨l, hl⟩ : ∃ l, cn s 0 n = l := ⟨_, rfl⟩
        have hlb : l ≤ 1073741824 := by have := cn_le (s := s) (a := 0) (c := n) hn; have := HSZ.out; omega
        obtain ⟨c, hc⟩ : ∃ c, cw s p n = c := ⟨_, rfl⟩
        have hc0 : 0 ≤ c := by rw [← hc]; exact cw_nonneg _ _ _
        have hc2 : c ≤ 2147483648 := by rw [← hc]; have := cw_le s (a := p) (b := n) hn; have := HSZ.out; omega
        have HR : Hid (Below X.heap.size X wr) := HI.out.2
        have HL : Hid (cn s 0 n = l) := hl
        have HCW : Hid (cw s p n = c) := hc
        have C1 : Hid (Calls Tryz.prog 16 #[.iface T u, .int .i64 n] wr fun e W' => e = .returned (.tuple #[.int .i64 l, .int .i64 0]) ∧ Hid (Below wr.heap.size wr W')) := by
          have := ask_of (HT.out _ HR.out) n
          unfold ofv at this
          rw [if_pos (by omega), if_pos (by omega), Int.toNat_natCast, hl] at this
          exact this
        have C2 : Hid (∀ W, Hid (Below X.heap.size X W) → Calls Tryz.prog 17 #[.iface T u, .int .i64 n] W fun e W' => e = .returned (.tuple #[.int .i64 c, .int .i64 0]) ∧ Hid (Below W.heap.size W W')) := fun W hW => by
          have := ask_col HMM.out (HT.out _ hW.out) (HE2.out _ hW.out) n hP.col
          rw [hc] at this
          exact this
        have C3 : Hid (∀ W, Hid (Below X.heap.size X W) → Calls Tryz.prog 13 #[.iface T u, .int .i64 l] W fun e W' => e = .returned (.tuple #[.agg #[.int .i64 p, .int .i64 b], .int .i64 0]) ∧ Hid (Below W.heap.size W W')) := fun W hW => ask_span (HT.out _ hW.out) l (by omega) (o := some (p, b)) (by rw [← hl]; exact hP.sp)
        have C4 : Hid (∀ W, Hid (Below X.heap.size X W) → Calls Tryz.prog 18 #[.iface T u, .int .i64 l, .int .i64 c] W fun e W' => e = .returned (.tuple #[.int .i64 n, .int .i64 0]) ∧ Hid (Below W.heap.size W W')) := fun W hW => ask_at HMM.out (HT.out _ hW.out) (HE2.out _ hW.out) l c (by omega) (by omega) (o := some n) (by rw [← hl, ← hc]; exact hP.back)
        have C5 : Hid (∀ W, Hid (Below X.heap.size X W) → Calls Tryz.prog 18 #[.iface T u, .int .i64 l, .int .i64 (-1)] W fun e W' => e = .returned (.tuple #[.int .i64 p, .int .i64 0]) ∧ Hid (Below W.heap.size W W')) := fun W hW => ask_at HMM.out (HT.out _ hW.out) (HE2.out _ hW.out) l (-1) (by omega) (by omega) (o := some p) (by rw [← hl]; exact hP.low)
        have C6 : Hid (∀ W, Hid (Below X.heap.size X W) → Calls Tryz.prog 18 #[.iface T u, .int .i64 l, .int .i64 1099511627776] W fun e W' => e = .returned (.tuple #[.int .i64 b, .int .i64 0]) ∧ Hid (Below W.heap.size W W')) := fun W hW => ask_at HMM.out (HT.out _ hW.out) (HE2.out _ hW.out) l 1099511627776 (by omega) (by omega) (o := some b) (by rw [← hl]; exact hP.high HSZ.out)
        have hpc : p = n → c = 0 := fun e => by rw [← hc, e, cw_self]
        clear hP hl hc
        go_upto_region 15 with (first
          | (go_at_call 16; refine C1.out.mono ?_; clear C1; rintro e w3 ⟨rfl, H3⟩; have HB3 : Hid (Below X.heap.size X w3) := Below.on HR.out H3.out; clear H3)
          | (go_at_call 17; refine (C2.out _ HB3).mono ?_; clear C2; rintro e w4 ⟨rfl, H4⟩; have HB4 : Hid (Below X.heap.size X w4) := Below.on HB3.out H4.out; clear H4 HB3)
          | (go_at_call 13; refine (C3.out _ HB4).mono ?_; clear C3; rintro e w5 ⟨rfl, H5⟩; have HB5 : Hid (Below X.heap.size X w5) := Below.on HB4.out H5.out; clear H5 HB4))
        obtain ⟨W5, hW5⟩ : ∃ W5, w5.alloc (.cells #[.int .i64 (p : Int), .int .i64 (b : Int)] 35) = W5 := ⟨_, rfl⟩
        have hb5 : Below w5.heap.size w5 W5 ∧ W5.heap[w5.heap.size]? = some (.cells #[.int .i64 (p : Int), .int .i64 (b : Int)] 35 (0, 0)) := by rw [← hW5]; exact ⟨(Below.refl _ w5).alloc (Nat.le_refl _) _, World.alloc_heap_new _ _⟩
        have HB6 : Hid (Below X.heap.size X W5) := Below.on HB5.out hb5.1
        have HP5 : Hid (∀ W, Below W5.heap.size W5 W → W.cell? ⟨w5.heap.size, 0, none⟩ = some (.int .i64 (p : Int)) ∧ W.cell? ⟨w5.heap.size, 1, none⟩ = some (.int .i64 (b : Int))) := fun W hW => by
          have := (hW.block _ (Array.getElem?_eq_some_iff.1 hb5.2).1).trans hb5.2
          simp [World.cell?, this]
        rw [hW5]
        clear hb5 hW5 HB5
        obtain ⟨y0, y1⟩ := HP5.out _ (Below.refl _ _)
        by_cases hpe : p = n
        · have hc00 : c = 0 := hpc hpe
          have hpe2 : n = p := hpe.symm
          subst hpe2
          subst hc00
          clear hpc hpe
          have K1 : True := trivial
          have K2 : True := trivial
          go_upto_region 22 with (first
            | (go_at_call 18; clear K1; refine (C4.out _ HB6).mono ?_; clear C4 y0 y1; rintro e w6 ⟨rfl, H6⟩; have HB7 : Hid (Below W5.heap.size W5 w6) := H6.out; have HB7' : Hid (Below X.heap.size X w6) := Below.on HB6.out H6.out; clear H6)
            | (go_at_call 18; clear K2; refine (C5.out _ HB7').mono ?_; clear C5 HB7'; rintro e w7 ⟨rfl, H7⟩; have HB8 : Hid (Below W5.heap.size W5 w7) := Below.on HB7.out H7.out; have HB8' : Hid (Below X.heap.size X w7) := Below.on HB6.out HB8.out; clear H7 HB7)
            | (go_at_call 18; refine (C6.out _ HB8').mono ?_; clear C6 HB8'; rintro e w8 ⟨rfl, H8⟩; have HB9 : Hid (Below W5.heap.size W5 w8) := Below.on HB8.out H8.out; have HB9' : Hid (Below X.heap.size X w8) := Below.on HB6.out HB9.out; clear H8 HB8; obtain ⟨y0, y1⟩ := HP5.out _ HB9.out; have x0 := HC.out _ HB9'.out))
          by_cases hend : n = s.size
          · have CN : Hid (Calls Tryz.prog 12 #[.iface T u] w8 fun e W' => e = .returned (.int .i64 ((l : Int) + 1)) ∧ Hid (Below w8.heap.size w8 W')) := by
              have := ask_count (HT.out _ HB9'.out)
              rw [← hend, HL.out] at this
              exact this
            have hend' : (s.size : Int) ≤ (n : Int) := by omega
            have hend2 : (n : Int) = (s.size : Int) := by omega
            go_wp2_with (go_at_call 12; refine CN.out.mono ?_; clear CN; rintro e w9 ⟨rfl, H9⟩)
            go_ret
            exact ⟨rfl, HEnd.out _ (Below.on HB9'.out H9.out)⟩
          · obtain ⟨m, hm⟩ : ∃ m, IsNext s n m := ⟨_, nxC_is (by omega)⟩
            have hnm : n < m := by rcases hm.up with e | ⟨e, e'⟩ <;> omega
            have hms : m ≤ s.size := by obtain ⟨_, e1, hB⟩ := cb_B hm.cb; have := hB.1; omega
            obtain ⟨ce, hce⟩ : ∃ ce, cw s n m = ce := ⟨_, rfl⟩
            have hce0 : 0 ≤ ce := by rw [← hce]; exact cw_nonneg _ _ _
            have hce2 : ce ≤ 2147483648 := by rw [← hce]; have := cw_le s (a := n) (b := m) hms; have := HSZ.out; omega
            have HCB : Hid (cbZ s m = true) := hm.cb
            have CX : Hid (Calls Tryz.prog 15 #[.string s, .int .i64 n] w8 fun e W' => e = .returned (.int .i64 m) ∧ Hid (Below w8.heap.size w8 W')) := (cnext_any s n (by have := HSZ.out; unfold maxLen; omega) w8 (HE2.out _ HB9'.out).t).mono fun e W' ⟨m', q1, q2, q3⟩ => ⟨by rw [q1, q2.uniq hm], q3⟩
            have CC : Hid (∀ W, Hid (Below X.heap.size X W) → Calls Tryz.prog 19 #[.string (s.extract n m)] W fun e W' => e = .returned (.int .i64 ce) ∧ Hid (Below W.heap.size W W')) := fun W hW => by
              obtain ⟨e1, e2, e3⟩ := HE2.out _ hW.out
              have hz := size_extract s n m hms
              have := ccells_any (s.extract n m) (by have := HSZ.out; unfold maxLen; omega) (by have := HSZ.out; omega) W e1 e2 e3
              rw [show sumN (cl (s.extract n m)) = ce from hce] at this
              exact this
            have hend' : ¬ (s.size : Int) ≤ (n : Int) := by omega
            by_cases hnb2 : n < b
            · obtain ⟨k1, k2, k3, k4, k5⟩ := HP.out.inner hm hnb2
              rw [hce, HCW.out, Int.zero_add] at k3 k5
              rw [hce] at k4
              rw [HL.out] at k5
              have CC2 : Hid (∀ W, Hid (Below X.heap.size X W) → Calls Tryz.prog 17 #[.iface T u, .int .i64 m] W fun e W' => e = .returned (.tuple #[.int .i64 ce, .int .i64 0]) ∧ Hid (Below W.heap.size W W')) := fun W hW => ask_col HMM.out (HT.out _ hW.out) (HE2.out _ hW.out) m k3
              have CA2 : Hid (∀ W, Hid (Below X.heap.size X W) → Calls Tryz.prog 18 #[.iface T u, .int .i64 l, .int .i64 (ce - 1)] W fun e W' => e = .returned (.tuple #[.int .i64 n, .int .i64 0]) ∧ Hid (Below W.heap.size W W')) := fun W hW => ask_at HMM.out (HT.out _ hW.out) (HE2.out _ hW.out) l (ce - 1) (by omega) (by omega) (o := some n) k5
              have hlt2 : (n : Int) < (b : Int) := by omega
              clear hm hce k3 k5
              go_wp2_with (first
                | (go_at_call 15; refine CX.out.mono ?_; clear CX y0 y1 x0; rintro e w9 ⟨rfl, H9⟩; have HB10 : Hid (Below W5.heap.size W5 w9) := Below.on HB9.out H9.out; have HB10' : Hid (Below X.heap.size X w9) := Below.on HB6.out HB10.out; clear H9; obtain ⟨y0, y1⟩ := HP5.out _ HB10.out; have x0 := HC.out _ HB10'.out)
                | (go_at_call 19; refine (CC.out _ HB10').mono ?_; clear CC y0 y1 x0 HB10'; rintro e w10 ⟨rfl, H10⟩; have HB11 : Hid (Below W5.heap.size W5 w10) := Below.on HB10.out H10.out; have HB11' : Hid (Below X.heap.size X w10) := Below.on HB6.out HB11.out; clear H10 HB10; obtain ⟨y0, y1⟩ := HP5.out _ HB11.out)
                | (go_at_call 17; refine (CC2.out _ HB11').mono ?_; clear CC2 y0 y1; rintro e w11 ⟨rfl, H11⟩; have HB12' : Hid (Below X.heap.size X w11) := Below.on HB11'.out H11.out; clear H11 HB11 HB11')
                | (go_at_call 18; refine (CA2.out _ HB12').mono ?_; clear CA2; rintro e w12 ⟨rfl, H12⟩; have HB13' : Hid (Below X.heap.size X w12) := Below.on HB12'.out H12.out; clear H12 HB12'))
              exact ⟨⟨m, k + 1, hms, by omega, rfl, by go_num, HCB.out, HB13'.out⟩, by simp [intOf]; omega⟩
            · have k0 := HP.out.outer hm hnb2 (by omega)
              rw [hce] at k0
              subst k0
              have hlt2 : ¬ (n : Int) < (b : Int) := by omega
              clear hm hce
              go_wp2_with (first
                | (go_at_call 15; refine CX.out.mono ?_; clear CX y0 y1 x0; rintro e w9 ⟨rfl, H9⟩; have HB10 : Hid (Below W5.heap.size W5 w9) := Below.on HB9.out H9.out; have HB10' : Hid (Below X.heap.size X w9) := Below.on HB6.out HB10.out; clear H9; obtain ⟨y0, y1⟩ := HP5.out _ HB10.out; have x0 := HC.out _ HB10'.out)
                | (go_at_call 19; refine (CC.out _ HB10').mono ?_; clear CC y0 y1 x0 HB10'; rintro e w10 ⟨rfl, H10⟩; have HB11 : Hid (Below W5.heap.size W5 w10) := Below.on HB10.out H10.out; have HB11' : Hid (Below X.heap.size X w10) := Below.on HB6.out HB11.out; clear H10 HB10; obtain ⟨y0, y1⟩ := HP5.out _ HB11.out))
              exact ⟨⟨m, k + 1, hms, by omega, rfl, by go_num, HCB.out, HB11'.out⟩, by simp [intOf]; omega⟩
        · have hpe' : ¬ (n : Int) = (p : Int) := by omega
          clear hpc
          have K1 : True := trivial
          have K2 : True := trivial
          go_upto_region 22 with (first
            | (go_at_call 18; clear K1; refine (C4.out _ HB6).mono ?_; clear C4 y0 y1; rintro e w6 ⟨rfl, H6⟩; have HB7 : Hid (Below W5.heap.size W5 w6) := H6.out; have HB7' : Hid (Below X.heap.size X w6) := Below.on HB6.out H6.out; clear H6)
            | (go_at_call 18; clear K2; refine (C5.out _ HB7').mono ?_; clear C5 HB7'; rintro e w7 ⟨rfl, H7⟩; have HB8 : Hid (Below W5.heap.size W5 w7) := Below.on HB7.out H7.out; have HB8' : Hid (Below X.heap.size X w7) := Below.on HB6.out HB8.out; clear H7 HB7)
            | (go_at_call 18; refine (C6.out _ HB8').mono ?_; clear C6 HB8'; rintro e w8 ⟨rfl, H8⟩; have HB9 : Hid (Below W5.heap.size W5 w8) := Below.on HB8.out H8.out; have HB9' : Hid (Below X.heap.size X w8) := Below.on HB6.out HB9.out; clear H8 HB8; obtain ⟨y0, y1⟩ := HP5.out _ HB9.out; have x0 := HC.out _ HB9'.out))
          by_cases hend : n = s.size
          · have CN : Hid (Calls Tryz.prog 12 #[.iface T u] w8 fun e W' => e = .returned (.int .i64 ((l : Int) + 1)) ∧ Hid (Below w8.heap.size w8 W')) := by
              have := ask_count (HT.out _ HB9'.out)
              rw [← hend, HL.out] at this
              exact this
            have hend' : (s.size : Int) ≤ (n : Int) := by omega
            have hend2 : (n : Int) = (s.size : Int) := by omega
            go_wp2_with (go_at_call 12; refine CN.out.mono ?_; clear CN; rintro e w9 ⟨rfl, H9⟩)
            go_ret
            exact ⟨rfl, HEnd.out _ (Below.on HB9'.out H9.out)⟩
          · obtain ⟨m, hm⟩ : ∃ m, IsNext s n m := ⟨_, nxC_is (by omega)⟩
            have hnm : n < m := by rcases hm.up with e | ⟨e, e'⟩ <;> omega
            have hms : m ≤ s.size := by obtain ⟨_, e1, hB⟩ := cb_B hm.cb; have := hB.1; omega
            obtain ⟨ce, hce⟩ : ∃ ce, cw s n m = ce := ⟨_, rfl⟩
            have hce0 : 0 ≤ ce := by rw [← hce]; exact cw_nonneg _ _ _
            have hce2 : ce ≤ 2147483648 := by rw [← hce]; have := cw_le s (a := n) (b := m) hms; have := HSZ.out; omega
            have HCB : Hid (cbZ s m = true) := hm.cb
            have CX : Hid (Calls Tryz.prog 15 #[.string s, .int .i64 n] w8 fun e W' => e = .returned (.int .i64 m) ∧ Hid (Below w8.heap.size w8 W')) := (cnext_any s n (by have := HSZ.out; unfold maxLen; omega) w8 (HE2.out _ HB9'.out).t).mono fun e W' ⟨m', q1, q2, q3⟩ => ⟨by rw [q1, q2.uniq hm], q3⟩
            have CC : Hid (∀ W, Hid (Below X.heap.size X W) → Calls Tryz.prog 19 #[.string (s.extract n m)] W fun e W' => e = .returned (.int .i64 ce) ∧ Hid (Below W.heap.size W W')) := fun W hW => by
              obtain ⟨e1, e2, e3⟩ := HE2.out _ hW.out
              have hz := size_extract s n m hms
              have := ccells_any (s.extract n m) (by have := HSZ.out; unfold maxLen; omega) (by have := HSZ.out; omega) W e1 e2 e3
              rw [show sumN (cl (s.extract n m)) = ce from hce] at this
              exact this
            have hend' : ¬ (s.size : Int) ≤ (n : Int) := by omega
            by_cases hnb2 : n < b
            · obtain ⟨k1, k2, k3, k4, k5⟩ := HP.out.inner hm hnb2
              rw [hce, HCW.out] at k3 k5
              rw [hce] at k4
              rw [HL.out] at k5
              have CC2 : Hid (∀ W, Hid (Below X.heap.size X W) → Calls Tryz.prog 17 #[.iface T u, .int .i64 m] W fun e W' => e = .returned (.tuple #[.int .i64 (c + ce), .int .i64 0]) ∧ Hid (Below W.heap.size W W')) := fun W hW => ask_col HMM.out (HT.out _ hW.out) (HE2.out _ hW.out) m k3
              have CA2 : Hid (∀ W, Hid (Below X.heap.size X W) → Calls Tryz.prog 18 #[.iface T u, .int .i64 l, .int .i64 (c + ce - 1)] W fun e W' => e = .returned (.tuple #[.int .i64 n, .int .i64 0]) ∧ Hid (Below W.heap.size W W')) := fun W hW => ask_at HMM.out (HT.out _ hW.out) (HE2.out _ hW.out) l (c + ce - 1) (by omega) (by omega) (o := some n) k5
              have hlt2 : (n : Int) < (b : Int) := by omega
              clear hm hce k3 k5
              go_wp2_with (first
                | (go_at_call 15; refine CX.out.mono ?_; clear CX y0 y1 x0; rintro e w9 ⟨rfl, H9⟩; have HB10 : Hid (Below W5.heap.size W5 w9) := Below.on HB9.out H9.out; have HB10' : Hid (Below X.heap.size X w9) := Below.on HB6.out HB10.out; clear H9; obtain ⟨y0, y1⟩ := HP5.out _ HB10.out; have x0 := HC.out _ HB10'.out)
                | (go_at_call 19; refine (CC.out _ HB10').mono ?_; clear CC y0 y1 x0 HB10'; rintro e w10 ⟨rfl, H10⟩; have HB11 : Hid (Below W5.heap.size W5 w10) := Below.on HB10.out H10.out; have HB11' : Hid (Below X.heap.size X w10) := Below.on HB6.out HB11.out; clear H10 HB10; obtain ⟨y0, y1⟩ := HP5.out _ HB11.out)
                | (go_at_call 17; refine (CC2.out _ HB11').mono ?_; clear CC2 y0 y1; rintro e w11 ⟨rfl, H11⟩; have HB12' : Hid (Below X.heap.size X w11) := Below.on HB11'.out H11.out; clear H11 HB11 HB11')
                | (go_at_call 18; refine (CA2.out _ HB12').mono ?_; clear CA2; rintro e w12 ⟨rfl, H12⟩; have HB13' : Hid (Below X.heap.size X w12) := Below.on HB12'.out H12.out; clear H12 HB12'))
              exact ⟨⟨m, k + 1, hms, by omega, rfl, by go_num, HCB.out, HB13'.out⟩, by simp [intOf]; omega⟩
            · have k0 := HP.out.outer hm hnb2 (by omega)
              rw [hce] at k0
              subst k0
              have hlt2 : ¬ (n : Int) < (b : Int) := by omega
              clear hm hce
              go_wp2_with (first
                | (go_at_call 15; refine CX.out.mono ?_; clear CX y0 y1 x0; rintro e w9 ⟨rfl, H9⟩; have HB10 : Hid (Below W5.heap.size W5 w9) := Below.on HB9.out H9.out; have HB10' : Hid (Below X.heap.size X w9) := Below.on HB6.out HB10.out; clear H9; obtain ⟨y0, y1⟩ := HP5.out _ HB10.out; have x0 := HC.out _ HB10'.out)
                | (go_at_call 19; refine (CC.out _ HB10').mono ?_; clear CC y0 y1 x0 HB10'; rintro e w10 ⟨rfl, H10⟩; have HB11 : Hid (Below W5.heap.size W5 w10) := Below.on HB10.out H10.out; have HB11' : Hid (Below X.heap.size X w10) := Below.on HB6.out HB11.out; clear H10 HB10; obtain ⟨y0, y1⟩ := HP5.out _ HB11.out))
              exact ⟨⟨m, k + 1, hms, by omega, rfl, by go_num, HCB.out, HB11'.out⟩, by simp [intOf]; omega⟩
      · go_wp2
        go_ret
        exact ⟨rfl, HEnd.out _ HI.out.2⟩
end Go.Proofs.YtkcfhcglplnmeaaGreatDoor.Sto
namespace Go.Proofs.YtkcfhcglplnmeaaGreatDoor.linesBack
open Go.RowKit Go.Shelf Sto
theorem walk_of {H : Type} {d0 : DataW H} (s : ByteArray) (kd : Int) (w : World) (hT : Lib.Utf8Tabs 1 2 w) (hlo0 : 1 < w.heap.size) (hlo1 : 2 < w.heap.size) (_hs : s.size ≤ Rows.uptoBulk d0) (_hd : -9223372036854775808 ≤ kd ∧ kd ≤ 9223372036854775807) (_hk : Rows.uptoSmall H ([d0] ++ []) = true) :
    Calls Tryz.prog 5 #[.agg #[.string s, .int .i64 kd]] w fun e W' => e = .returned (.bool true) ∧ Below w.heap.size w W' :=
  back_walk s kd w ⟨hT, hlo0, hlo1⟩
end Go.Proofs.YtkcfhcglplnmeaaGreatDoor.linesBack
