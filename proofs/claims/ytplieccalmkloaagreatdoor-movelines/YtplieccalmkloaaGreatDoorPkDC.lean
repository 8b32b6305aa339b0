/-
  Package lines: pieces between boundaries, the last boundary that fits, At. Conditions: those of each theorem.
-/
import Derived.Test.YtplieccalmkloaaGreatDoorPkDB
namespace Go.Proofs.YtplieccalmkloaaGreatDoor.Sto
open Bod Wid Go.Lib

theorem ext_join {s : ByteArray} {a f b : Nat} (h1 : a ≤ f) (h2 : f ≤ b) : s.extract a b = s.extract a f ++ s.extract f b := by
  apply ByteArray.ext
  apply Array.ext'
  rw [ByteArray.data_append, Array.toList_append, data_extract', data_extract', data_extract', show b - a = (f - a) + (b - f) by omega, List.take_add, List.drop_drop, show a + (f - a) = f by omega]
theorem sub_un {s : ByteArray} {a b k : Nat} (hb : B s b) (hk : a + k < b) : un (s.extract a b) k = un s (a + k) := by
  have hbs := hb.1
  have e0 : s = s.extract 0 a ++ (s.extract a b ++ s.extract b s.size) := by
    rw [← ext_join (by omega) hbs, ← ext_join (by omega) (by omega)]
    apply ByteArray.ext
    apply Array.ext'
    rw [data_extract']
    simp [List.take_of_length_le]
  have hz0 : (s.extract 0 a).size = a := by rw [size_extract s 0 a (by omega)]; omega
  have hz1 : (s.extract a b).size = b - a := size_extract s a b hbs
  have e1 : un s (a + k) = un (s.extract a b ++ s.extract b s.size) k := by
    conv => lhs; rw [e0]
    have := un_right (s.extract 0 a) (s.extract a b ++ s.extract b s.size) k
    rw [hz0] at this
    exact this
  rw [e1]
  refine un_left _ _ k (by omega) ?_
  have h1 := hb.2 (a + k) hk
  unfold sz at h1 ⊢
  rw [← e1]
  omega
theorem sub_sz {s : ByteArray} {a b k : Nat} (hb : B s b) (hk : a + k < b) : sz (s.extract a b) k = sz s (a + k) := by unfold sz; rw [sub_un hb hk]
theorem sub_ch {s : ByteArray} {a b k : Nat} (hb : B s b) (hk : a + k < b) : ch (s.extract a b) k = ch s (a + k) := by unfold ch; rw [sub_un hb hk]
theorem sub_B {s : ByteArray} {a b k : Nat} (ha : B s a) (hb : B s b) (hk : a + k ≤ b) : B (s.extract a b) k ↔ B s (a + k) := by
  have hz := size_extract s a b hb.1
  have hbs := hb.1
  constructor
  · intro h
    refine ⟨by omega, fun i hi => ?_⟩
    rcases Nat.lt_or_ge i a with e | e
    · have := ha.2 i e; omega
    · obtain ⟨j, rfl⟩ : ∃ j, i = a + j := ⟨i - a, by omega⟩
      have := h.2 j (by omega)
      rw [sub_sz hb (by omega)] at this
      omega
  · intro h
    refine ⟨by omega, fun i hi => ?_⟩
    have := h.2 (a + i) (by omega)
    rw [sub_sz hb (by omega)]
    omega
/-- a piece between two boundaries has the boundaries of the text -/
theorem sub_cb {s : ByteArray} {a b k : Nat} (ha : cbZ s a = true) (hb : cbZ s b = true) (hk : a + k ≤ b) : cbZ (s.extract a b) k = cbZ s ((a + k : Nat) : Int) := by
  have hA : B s a := by obtain ⟨m, h1, h2⟩ := cb_B ha; rw [show a = m by omega]; exact h2
  have hB : B s b := by obtain ⟨m, h1, h2⟩ := cb_B hb; rw [show b = m by omega]; exact h2
  have hz := size_extract s a b hB.1
  have hbs := hB.1
  by_cases e0 : k = 0
  · subst e0; rw [Nat.add_zero, ha]; exact cb_zero _
  by_cases e1 : a + k = b
  · rw [e1, hb, show k = (s.extract a b).size by omega]; exact cb_end _
  by_cases hk2 : B (s.extract a b) k
  · obtain ⟨P, -, hP⟩ := us_to hk2 k 0 0 (B_zero _) (Nat.zero_le _) (by omega)
    obtain ⟨p, p1, p2, p3, -⟩ := hP (by omega)
    have q1 := (sub_B hA hB (k := p) (by omega)).1 p1
    have q2 := sub_sz (s := s) (a := a) hB (k := p) (by omega)
    have c1 := cb_at p1 p2 (by omega)
    have c2 := cb_at q1 (by omega) (by omega)
    rw [← q2, show a + p + sz (s.extract a b) p = a + k by omega, ← sub_ch hB (by omega), ← sub_ch hB (by omega)] at c2
    rw [p3] at c1
    rw [c1, c2]
  · have n1 : cbZ (s.extract a b) k = false := by
      cases h : cbZ (s.extract a b) k with
      | false => rfl
      | true => obtain ⟨m, h1, h2⟩ := cb_B h; exact absurd (by rw [show k = m by omega]; exact h2) hk2
    have n2 : cbZ s ((a + k : Nat) : Int) = false := by
      cases h : cbZ s ((a + k : Nat) : Int) with
      | false => rfl
      | true => obtain ⟨m, h1, h2⟩ := cb_B h; exact absurd ((sub_B hA hB hk).2 (by rw [show a + k = m by omega]; exact h2)) hk2
    rw [n1, n2]
/-- the cells between two boundaries -/
def cw (s : ByteArray) (a b : Nat) : Int := sumN (cl (s.extract a b))
theorem cw_ce (s : ByteArray) (a b : Nat) : (smr (s.extract a b)).ce = cw s a b := kN_of _
theorem cw_add {s : ByteArray} {a f b : Nat} (ha : cbZ s a = true) (hf : cbZ s f = true) (hb : cbZ s b = true) (h1 : a ≤ f) (h2 : f ≤ b) : cw s a b = cw s a f + cw s f b := by
  have hz : (s.extract a f).size = f - a := by
    obtain ⟨m, e1, e2⟩ := cb_B hb
    exact size_extract s a f (by have := e2.1; omega)
  have h : cbZ (s.extract a f ++ s.extract f b) (s.extract a f).size = true := by
    rw [← ext_join h1 h2, hz, sub_cb ha hb (by omega), show a + (f - a) = f by omega]
    exact hf
  unfold cw
  rw [ext_join h1 h2, cl_cut h, sumN_app, sumN_sh]
theorem low_B {s : ByteArray} {i : Nat} (h : i < s.size) (hb : bt s i < 128) : B s i := by
  refine ⟨by omega, fun k hk => ?_⟩
  rcases Nat.lt_or_ge i (k + sz s k) with e | e
  · have := cont (s := s) (i := k) (k := i) hk e
    omega
  · exact e
theorem dec_cr (n b0 b1 b2 b3 : Nat) (h : (decodeN n b0 b1 b2 b3).1 = 13) : b0 = 13 ∧ (decodeN n b0 b1 b2 b3).2 = 1 := by
  revert h
  unfold decodeN
  repeat' split
  all_goals first | (intro h; exact ⟨h, rfl⟩) | (intro h; exfalso; simp only at h; omega)
theorem ch_cr {s : ByteArray} {i : Nat} (h : ch s i = 13) : bt s i = 13 ∧ sz s i = 1 := by
  have h1 : (un s i).1 = 13 := by
    unfold ch at h
    split at h <;> omega
  exact dec_cr _ _ _ _ _ h1
theorem cr_un {s : ByteArray} {i : Nat} (h : bt s i = 13) : un s i = (13, 1) := by
  unfold un decodeN
  rw [h]
  repeat' split
  all_goals first | rfl | (exfalso; omega)
theorem cr_ch {s : ByteArray} {i : Nat} (h : bt s i = 13) : ch s i = 13 := by
  unfold ch
  rw [cr_un h]
  rfl
theorem jn_cr (a : Int) : jn a 13 = false := by
  have : cls 13 ≠ 3 := by decide +kernel
  unfold jn
  rw [if_neg (by omega)]
  simp [this]
/-- ahead of a unit that does not join the one ahead of it -/
theorem cb_before {s : ByteArray} {i : Nat} (h0 : 0 < i) (h : i < s.size) (hB : B s i) (hj : ∀ p, B s p → p + sz s p = i → jn (ch s p) (ch s i) = false) : cbZ s i = true := by
  obtain ⟨P, -, hP⟩ := us_to hB i 0 0 (B_zero _) (Nat.zero_le _) (by omega)
  obtain ⟨p, p1, p2, p3, -⟩ := hP h0
  have := cb_at p1 p2 (by omega)
  rw [p3, hj p p1 p3] at this
  exact this
theorem cr_cb {s : ByteArray} {i : Nat} (h : i < s.size) (hb : byt s i = 13) : cbZ s i = true := by
  have hb2 : bt s i = 13 := by rw [bt_byt h, hb]; rfl
  by_cases e : i = 0
  · rw [e]; exact cb_zero s
  · exact cb_before (by omega) h (low_B h (by omega)) (fun p _ _ => by rw [cr_ch hb2]; exact jn_cr _)
theorem lf_cb0 {s : ByteArray} {i : Nat} (h0 : 0 < i) (h : i < s.size) (hb : byt s i = 10) (hn : byt s (i - 1) ≠ 13) : cbZ s i = true := by
  refine cb_before h0 h (lf_B h hb) (fun p _ hp => ?_)
  rw [(lf_ch (lf_bt h hb)).1]
  unfold jn
  rw [if_pos rfl]
  simp only [decide_eq_false_iff_not]
  intro e
  obtain ⟨e1, e2⟩ := ch_cr e
  have hpi : p = i - 1 := by omega
  rw [hpi, bt_byt (by omega)] at e1
  exact hn (UInt8.toNat_inj.1 e1)
/-- both ends of a line are boundaries -/
theorem IsS.cb {s : ByteArray} {l : Int} {a b : Nat} (h : IsS s l (some (a, b))) : cbZ s a = true ∧ cbZ s b = true := by
  have hle := h.le
  obtain ⟨h1, r, h2, h3⟩ := h
  simp only at h1 h2 h3
  have ca : cbZ s a = true := by
    by_cases e : a = 0
    · rw [e]; exact cb_zero s
    · refine lf_cb (by omega) h1.1 ?_
      rcases h1.2.1 with x | x
      · omega
      · exact x
  refine ⟨ca, ?_⟩
  cases r with
  | none => rw [h3]; exact cb_end s
  | some p =>
    obtain ⟨r1, r2, r3, -⟩ := h2
    unfold lend at h3
    simp only at h3
    by_cases e : a < p - 1 ∧ byt s (p - 2) = 13
    · rw [if_pos e] at h3
      rw [h3]
      exact cr_cb (by omega) e.2
    · rw [if_neg e] at h3
      by_cases e2 : a < p - 1
      · rw [h3]
        exact lf_cb0 (by omega) (by omega) r3 (by rw [show p - 1 - 1 = p - 2 by omega]; exact fun x => e ⟨e2, x⟩)
      · rw [show b = a by omega]; exact ca
/-- the last boundary from a up to b ahead of which there are no more than c cells -/
structure IsR (s : ByteArray) (a b : Nat) (c : Int) (m : Nat) : Prop where
  lo : a ≤ m
  hi : m ≤ b
  cb : cbZ s m = true
  fit : cw s a m ≤ c
  no : ∀ j : Nat, m < j → j ≤ b → cbZ s j = true → c < cw s a j
theorem IsR.uniq {s : ByteArray} {a b : Nat} {c : Int} {m n : Nat} (h : IsR s a b c m) (k : IsR s a b c n) : m = n := by
  rcases Nat.lt_trichotomy m n with e | e | e
  · have := h.no n e k.hi k.cb; have := k.fit; omega
  · exact e
  · have := k.no m e h.hi h.cb; have := h.fit; omega
/-- .. found behind a boundary that fits -/
theorem IsR.behind {s : ByteArray} {a f b : Nat} {c : Int} {m : Nat} (ha : cbZ s a = true) (hf : cbZ s f = true) (h1 : a ≤ f) (h : IsR s f b (c - cw s a f) m) : IsR s a b c m := by
  have hl := h.lo
  have e0 := cw_add ha hf h.cb h1 hl
  refine ⟨by omega, h.hi, h.cb, by have := h.fit; omega, fun j j1 j2 j3 => ?_⟩
  have e1 := cw_add ha hf j3 h1 (by omega)
  have := h.no j j1 j2 j3
  omega
end Go.Proofs.YtplieccalmkloaaGreatDoor.Sto
namespace Go.Proofs.YtplieccalmkloaaGreatDoor.Sto
open Bod Wid Go.Lib

/-- the clusters ahead of a boundary are those of the piece ahead of it -/
theorem cl_prefix {x : ByteArray} {P Q : List Clu} {e : Nat} (h : cl x = P ++ Q) (h1 : tiled 0 P e) (h2 : tiled e Q x.size) (hc : cbZ x e = true) : cl (x.extract 0 e) = P := by
  have hle := tiled_le h2
  have hz : (x.extract 0 e).size = e := by rw [size_extract x 0 e hle]; omega
  have e0 : x = x.extract 0 e ++ x.extract e x.size := by
    rw [← ext_join (by omega) hle]
    apply ByteArray.ext
    apply Array.ext'
    rw [data_extract']
    simp [List.take_of_length_le]
  have e1 : cl x = cl (x.extract 0 e) ++ (cl (x.extract e x.size)).map (sh e) := by
    have := cl_cut (a := x.extract 0 e) (b := x.extract e x.size) (by rw [← e0, hz]; exact hc)
    rw [← e0, hz] at this
    exact this
  have f1 : ∀ c ∈ P, decide (c.to ≤ e) = true := fun c hc => by have := (tiled_mem h1 c hc).2.2; simp; omega
  have f2 : ∀ c ∈ Q, decide (c.to ≤ e) = false := fun c hc => by have := tiled_mem h2 c hc; simp; omega
  have f3 : ∀ c ∈ cl (x.extract 0 e), decide (c.to ≤ e) = true := fun c hc => by have := (tiled_mem (cl_tile _) c hc).2.2; simp; omega
  have f4 : ∀ c ∈ (cl (x.extract e x.size)).map (sh e), decide (c.to ≤ e) = false := fun c hc => by
    obtain ⟨d, hd, rfl⟩ := List.mem_map.1 hc
    have := tiled_mem (cl_tile _) d hd
    exact decide_eq_false (by show ¬ d.to + e ≤ e; omega)
  have g1 : (cl x).filter (fun c => decide (c.to ≤ e)) = P := by
    rw [h, List.filter_append, List.filter_eq_self.2 f1, List.filter_eq_nil_iff.2 (fun c hc => by rw [f2 c hc]; simp), List.append_nil]
  have g2 : (cl x).filter (fun c => decide (c.to ≤ e)) = cl (x.extract 0 e) := by
    rw [e1, List.filter_append, List.filter_eq_self.2 f3, List.filter_eq_nil_iff.2 (fun c hc => by rw [f4 c hc]; simp), List.append_nil]
  rw [← g1, g2]
theorem cw_nonneg (s : ByteArray) (a b : Nat) : 0 ≤ cw s a b := (sumN_bd _ (cl_n _)).1
theorem ext_ext {s : ByteArray} {f o e : Nat} (h : f + e ≤ o) : (s.extract f o).extract 0 e = s.extract f (f + e) := by
  apply ByteArray.ext
  apply Array.ext'
  rw [data_extract', data_extract', data_extract', List.drop_zero, Nat.sub_zero, List.take_take]
  congr 1
  omega
/-- every cluster fits -/
theorem IsR.all {s : ByteArray} {f o : Nat} {c : Int} (ho : cbZ s o = true) (h : f ≤ o) (hc : sumN (cl (s.extract f o)) ≤ c) : IsR s f o c o := ⟨h, Nat.le_refl _, ho, hc, fun j h1 h2 => by omega⟩
/-- the first cluster that does not fit -/
theorem IsR.stop {s : ByteArray} {f o : Nat} {c : Int} {pre post : List Clu} {d : Clu} (hf : cbZ s f = true) (ho : cbZ s o = true) (h : f ≤ o) (hl : cl (s.extract f o) = pre ++ d :: post) (h1 : sumN pre ≤ c) (h2 : c < sumN pre + d.n) : IsR s f o c (f + d.fr) := by
  have hos : o ≤ s.size := by obtain ⟨m, e1, e2⟩ := cb_B ho; have := e2.1; omega
  have hz := size_extract s f o hos
  have ht := cl_tile (s.extract f o)
  rw [hl] at ht
  obtain ⟨e, t1, t2⟩ := tiled_app ht
  have hd : d.fr = e := t2.1
  have hdm : d ∈ cl (s.extract f o) := by rw [hl]; simp
  have hsp := cl_span hdm
  have hfr := cl_fr _ d hdm
  have hSp := cl_cb _ d hdm
  have c1 : cbZ s ((f + d.fr : Nat) : Int) = true := by rw [← sub_cb hf ho (by omega)]; exact hfr
  have c2 : cbZ s ((f + d.to : Nat) : Int) = true := by rw [← sub_cb hf ho (by omega)]; exact hSp.1
  have p1 : cw s f (f + d.fr) = sumN pre := by
    unfold cw
    rw [← ext_ext (o := o) (by omega)]
    rw [cl_prefix hl (by rw [hd]; exact t1) (by rw [hd]; exact t2) hfr]
  have hl2 : cl (s.extract f o) = (pre ++ [d]) ++ post := by rw [hl]; simp
  have p2 : cw s f (f + d.to) = sumN pre + d.n := by
    unfold cw
    rw [← ext_ext (o := o) (by omega)]
    have ht2 := cl_tile (s.extract f o)
    rw [hl2] at ht2
    obtain ⟨e', t3, t4⟩ := tiled_app ht2
    obtain ⟨e'', t5, t6⟩ := tiled_app t3
    have hde : d.to = e' := t6.2.2
    rw [cl_prefix hl2 (by rw [hde]; exact t3) (by rw [hde]; exact t4) hSp.1, sumN_app]
    simp [sumN]
  refine ⟨by omega, by omega, c1, by omega, fun j j1 j2 j3 => ?_⟩
  have hj : f + d.to ≤ j := by
    rcases Nat.lt_or_ge j (f + d.to) with x | x
    · have k1 := hSp.2 ((j - f : Nat) : Int) (by omega) (by omega)
      rw [sub_cb hf ho (by omega), show f + (j - f) = j by omega, j3] at k1
      cases k1
    · exact x
  have e3 := cw_add hf c2 j3 (by omega) hj
  have e4 := cw_nonneg s (f + d.to) j
  omega
/-- what does not fit may be left out -/
theorem IsR.cut {s : ByteArray} {f o b : Nat} {c : Int} {m : Nat} (hf : cbZ s f = true) (ho : cbZ s o = true) (h1 : f ≤ o) (h2 : o ≤ b) (hc : o = b ∨ c < cw s f o) (h : IsR s f o c m) : IsR s f b c m := by
  refine ⟨h.lo, by have := h.hi; omega, h.cb, h.fit, fun j j1 j2 j3 => ?_⟩
  rcases Nat.lt_or_ge o j with e | e
  · have e3 := cw_add hf ho j3 h1 (by omega)
    have e4 := cw_nonneg s o j
    omega
  · exact h.no j j1 e j3
end Go.Proofs.YtplieccalmkloaaGreatDoor.Sto
namespace Go.Proofs.YtplieccalmkloaaGreatDoor.Sto
open Go.RowKit Go.Shelf Bod Wid
open Gap (Gp Is gSlice gMea gRng)

/-- what At answers -/
def IsA (s : ByteArray) (l c : Int) : Option Nat → Prop
  | some m => ∃ a b, IsS s l (some (a, b)) ∧ IsR s a b (max c 0) m
  | none => IsS s l none
section
variable {w : World} {t : Value} {s : ByteArray}
set_option maxRecDepth 100000 in
set_option maxHeartbeats 2000000 in
theorem at_of (h : Tl w t s) (l c : Int) (hl : l ≤ 9223372036854775807)
    (CR : ∀ (t' : Value) (W : World) (a b : Nat), Vt W t' s → Below w.heap.size w W → IsS s l (some (a, b)) → Calls Tryz.prog 57 #[.agg #[t', .int .i64 s.size], .agg #[.int .i64 a, .int .i64 b], .int .i64 (max c 0)] W fun e W' => (∃ m : Nat, e = .returned (.int .i64 m) ∧ IsR s a b (max c 0) m) ∧ Below W.heap.size W W') :
    Calls Tryz.prog 27 #[t, .int .i64 l, .int .i64 c] w fun e W' => (∃ o : Option Nat, e = .returned (.tuple #[.int .i64 ((o.getD 0 : Nat) : Int), .int .i64 (if o.isSome then 0 else 1)]) ∧ IsA s l c o) ∧ Below w.heap.size w W' := by
  obtain ⟨t', h1, h2⟩ := h.ex
  obtain ⟨T, u, rfl⟩ := h1.iface
  have hs := h.le
  obtain ⟨n, hn⟩ : ∃ n, s.size = n := ⟨_, rfl⟩
  have CL : Hid (Calls Tryz.prog 38 #[t] w fun e W' => e = .returned (.agg #[.iface T u, .int .i64 s.size]) ∧ Hid (Below w.heap.size w W')) := h2 w (Below.refl _ _)
  have CS : Hid (∀ W, Below w.heap.size w W → Calls Tryz.prog 56 #[.agg #[.iface T u, .int .i64 s.size], .int .i64 l] W fun e W' => ∃ o, e = .returned (spa o) ∧ Hid (IsS s l o ∧ Below W.heap.size W W')) := fun W hW => (span_any (h1.below hW) l hs hl).mono fun e W' q => by
    obtain ⟨⟨o, rfl, q1⟩, q2⟩ := q
    exact ⟨o, rfl, q1, q2⟩
  have CP : Hid (∀ W (x y : Nat), Below w.heap.size w W → IsS s l (some (x, y)) → Calls Tryz.prog 57 #[.agg #[.iface T u, .int .i64 s.size], .agg #[.int .i64 x, .int .i64 y], .int .i64 (max c 0)] W fun e W' => ∃ m : Nat, e = .returned (.int .i64 m) ∧ Hid (IsR s x y (max c 0) m ∧ Below W.heap.size W W')) := fun W x y hW hi => (CR _ W x y (h1.below hW) hW hi).mono fun e W' q => by
    obtain ⟨⟨m, rfl, q1⟩, q2⟩ := q
    exact ⟨m, rfl, q1, q2⟩
  rw [hn] at CL CS CP
  clear h h1 h2 hn hs CR
  go_enter Tryz.func27, Tryz.ntmps27
  go_upto_region 2 with (go_at_call 38; refine CL.out.mono ?_; clear CL; rintro e w1 ⟨rfl, H⟩)
  have HO : Hid (Ob w w1.heap.size (.iface T u) n (w1.alloc (.cells #[(.iface T u), .int .i64 n] 83))) := ob_new (.iface T u) n H.out
  generalize w1.alloc (.cells #[(.iface T u), .int .i64 n] 83) = W0 at HO ⊢
  obtain ⟨x0, x1, x2⟩ := HO.out.get
  go_upto_region 3 with (go_at_call 56; refine (CS.out _ HO.out.bel).mono ?_; clear CS; rintro e w2 ⟨o, rfl, H2⟩; have HP : Hid (Ob w w1.heap.size (.iface T u) n w2) := HO.out.below H2.out.2; clear HO x0 x1 x2; unfold spa)
  obtain ⟨W3, hW3⟩ : ∃ W3, w2.alloc (.cells #[.int .i64 ((o.getD (0, 0)).1 : Nat), .int .i64 ((o.getD (0, 0)).2 : Nat)] 50) = W3 := ⟨_, rfl⟩
  have HB3 : Hid (Below w2.heap.size w2 W3) := by show Below _ _ _; rw [← hW3]; exact (Below.refl _ w2).alloc (Nat.le_refl _) _
  have HR : Hid (W3.heap[w2.heap.size]? = some (.cells #[.int .i64 ((o.getD (0, 0)).1 : Nat), .int .i64 ((o.getD (0, 0)).2 : Nat)] 50 (0, 0))) := by show _ = _; rw [← hW3]; exact World.alloc_heap_new _ _
  have HQ : Hid (Ob w w1.heap.size (.iface T u) n W3) := HP.out.below HB3.out
  rw [hW3]
  clear hW3
  cases o with
  | none =>
    go_wp2
    go_ret2
    exact ⟨⟨none, rfl, H2.out.1⟩, HQ.out.bel⟩
  | some o =>
    obtain ⟨x, y⟩ := o
    have z0 : W3.cell? ⟨w2.heap.size, 0, none⟩ = some (.int .i64 x) := by have := HR.out; simp [World.cell?, this]
    have z1 : W3.cell? ⟨w2.heap.size, 1, none⟩ = some (.int .i64 y) := by have := HR.out; simp [World.cell?, this]
    obtain ⟨x0, x1, x2⟩ := HQ.out.get
    go_wp2_with (go_at_call 57; refine (CP.out _ x y HQ.out.bel H2.out.1).mono ?_; clear CP; rintro e w4 ⟨m, rfl, H4⟩)
    go_ret2
    exact ⟨⟨some m, rfl, x, y, H2.out.1, H4.out.1⟩, (HQ.out.below H4.out.2).bel⟩
set_option maxRecDepth 100000 in
theorem lines_any (w : World) (T : TypeId) (u : Value) : Calls Tryz.prog 17 #[.iface T u] w fun e W' => e = .returned (.func (.func 37) #[] #[.pointer (some ⟨w.heap.size, 0, none⟩)]) ∧ W' = w.alloc (.cells #[.iface T u] 41) := by
  have hmf : ∀ (fn : Fn) (first cap : Array Value) (w : World), (Instr.makeFunc fn first cap).run Tryz.prog w = .ok (.func fn first cap) w := fun _ _ _ _ => rfl
  go_enter Tryz.func17, Tryz.ntmps17
  go_wp2
  go_ret
  exact ⟨rfl, rfl⟩
end
end Go.Proofs.YtplieccalmkloaaGreatDoor.Sto
