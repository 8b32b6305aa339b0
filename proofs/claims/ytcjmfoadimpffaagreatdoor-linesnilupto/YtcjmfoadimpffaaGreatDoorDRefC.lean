/-
  The document's own cells, Column, At, of a plain text. Conditions: those of each theorem.
-/
import Derived.Test.YtcjmfoadimpffaaGreatDoorPkDR
import Derived.Test.YtcjmfoadimpffaaGreatDoorPkDK
import Derived.Test.YtcjmfoadimpffaaGreatDoorPkYA
import Derived.Lib.QuietBelow
import Derived.BigQuiet
namespace Go.Proofs.YtcjmfoadimpffaaGreatDoor.Sto
open Go.RowKit Go.Shelf Bod Wid Go.Lib

/-- the cells of those clusters that end at k or ahead of it -/
def cto (k : Int) : List Clu → Int
  | [] => 0
  | c :: l => (if (c.to : Int) ≤ k then c.n else 0) + cto k l
theorem cto_app (k : Int) : ∀ a b : List Clu, cto k (a ++ b) = cto k a + cto k b
  | [], b => by simp [cto]
  | c :: a, b => by simp only [List.cons_append, cto, cto_app k a b]; omega
theorem cto_all {k : Int} : ∀ {l : List Clu}, (∀ d ∈ l, (d.to : Int) ≤ k) → cto k l = sumN l
  | [], _ => rfl
  | c :: l, h => by
    show (if (c.to : Int) ≤ k then c.n else 0) + cto k l = c.n + sumN l
    rw [if_pos (h c (by simp)), cto_all fun d hd => h d (by simp [hd])]
theorem cto_none {k : Int} : ∀ {l : List Clu}, (∀ d ∈ l, ¬ (d.to : Int) ≤ k) → cto k l = 0
  | [], _ => rfl
  | c :: l, h => by
    show (if (c.to : Int) ≤ k then c.n else 0) + cto k l = 0
    rw [if_neg (h c (by simp)), cto_none fun d hd => h d (by simp [hd])]
    rfl
theorem cto_bd {k : Int} : ∀ {l : List Clu}, (∀ d ∈ l, 0 ≤ d.n ∧ d.n ≤ 2) → 0 ≤ cto k l ∧ cto k l ≤ 2 * l.length
  | [], _ => by simp [cto]
  | c :: l, h => by
    have h1 := cto_bd (k := k) (l := l) fun d hd => h d (by simp [hd])
    have h2 := h c (by simp)
    show 0 ≤ (if (c.to : Int) ≤ k then c.n else 0) + cto k l ∧ (if (c.to : Int) ≤ k then c.n else 0) + cto k l ≤ 2 * ((c :: l).length : Nat)
    rw [List.length_cons]
    split <;> omega
theorem ext_self (x : ByteArray) : x.extract 0 x.size = x := by simp
/-- .. are those of the piece up to the last boundary that is not behind k -/
theorem cto_prev {x : ByteArray} {k : Int} {m : Nat} (h : IsPrev x (k + 1) m) (hk : 0 ≤ k) : cto k (cl x) = cw x 0 m := by
  have hm : (m : Int) ≤ k := by rcases h.dn with e | e <;> omega
  obtain ⟨_, e1, hB⟩ := cb_B h.cb
  have hms : m ≤ x.size := by have := hB.1; omega
  have hx : x.extract 0 m ++ x.extract m x.size = x := by
    have := ext_join (s := x) (a := 0) (f := m) (b := x.size) (by omega) hms
    rw [ext_self] at this
    exact this.symm
  have hz : (x.extract 0 m).size = m := by rw [size_extract x 0 m hms]; omega
  have hc : cl x = cl (x.extract 0 m) ++ (cl (x.extract m x.size)).map (sh m) := by
    have := cl_cut (a := x.extract 0 m) (b := x.extract m x.size) (by rw [hx, hz]; exact h.cb)
    rw [hx, hz] at this
    exact this
  rw [hc, cto_app, cto_all, cto_none]
  · show _ = sumN (cl (x.extract 0 m)); omega
  · intro d hd
    obtain ⟨e, he, rfl⟩ := List.mem_map.1 hd
    have h1 := cl_span he
    have h2 := (cl_cb _ e he).1
    rw [sub_cb h.cb (cb_end x) (by have := size_extract x m x.size (Nat.le_refl _); omega)] at h2
    intro hle
    have h3 : ((sh m e).to : Int) = ((m + e.to : Nat) : Int) := by simp [sh]; omega
    rw [h3] at hle
    have := h.no ((m + e.to : Nat) : Int) (by omega) (by omega)
    rw [h2] at this
    cases this
  · intro d hd
    have := (cl_span hd).2
    rw [hz] at this
    omega
theorem cw_ext {s : ByteArray} {a b m : Nat} (h : a + m ≤ b) : cw (s.extract a b) 0 m = cw s a (a + m) := by
  unfold cw
  rw [ext_ext h]
/-- the same within a line of a text -/
theorem cto_line {s : ByteArray} {l : Int} {a b at' m : Nat} (hS : IsS s l (some (a, b))) (hm : IsPrev s ((at' : Int) + 1) m) (h1 : a ≤ m) (h2 : m ≤ b) : cto ((at' : Int) - a) (cl (s.extract a b)) = cw s a m := by
  have hma : (m : Int) ≤ at' := by rcases hm.dn with e | e <;> omega
  obtain ⟨ca, cb⟩ := hS.cb
  have hbs := hS.le.2
  have hz := size_extract s a b hbs
  have hp : IsPrev (s.extract a b) ((at' : Int) - a + 1) (m - a) := by
    refine ⟨?_, .inl (by omega), fun j j1 j2 => ?_⟩
    · rw [sub_cb ca cb (by omega), show a + (m - a) = m by omega]; exact hm.cb
    · obtain ⟨i, rfl⟩ := Int.eq_ofNat_of_zero_le (show 0 ≤ j by omega)
      by_cases hi : a + i ≤ b
      · rw [sub_cb ca cb hi]
        exact hm.no _ (by omega) (by omega)
      · exact cb_out (.inr (by omega))
  rw [cto_prev hp (by omega), cw_ext (by omega), show a + (m - a) = m by omega]
set_option maxRecDepth 100000 in
set_option maxHeartbeats 2000000 in
theorem rcells_any (x : ByteArray) (hs : x.size ≤ 1073741824) (k : Int) (w : World) : Calls Tryz.prog 67 #[.string x, .int .i64 k] w fun e W' => e = .returned (.int .i64 (cto k (cl x))) ∧ Below w.heap.size w W' := by
  obtain ⟨l, hl⟩ : ∃ l, cl x = l := ⟨_, rfl⟩
  have HL : Hid (∀ i, 0 ≤ cto k (l.take i) ∧ cto k (l.take i) ≤ 2147483648) := fun i => by
    have h1 := cto_bd (k := k) (l := l.take i) fun d hd => by rw [← hl] at hd; exact cl_n x d (List.mem_of_mem_take hd)
    have h2 := cl_len x
    have h3 : (l.take i).length ≤ l.length := by simp; omega
    rw [hl] at h2
    omega
  have hln : l.length ≤ 1073741824 := by have := cl_len x; rw [hl] at this; omega
  have HNN : Hid (∀ d ∈ l, 0 ≤ d.n ∧ d.n ≤ 2) := by rw [← hl]; exact cl_n x
  have CL : Hid (Calls Tryz.prog 69 #[.string x] w fun e W' => ∃ a cap, e = .returned (.slice a l.length cap) ∧ Hid (Rd4 W' (.slice a l.length cap) l ∧ Below w.heap.size w W')) := (rlist_any x (by omega) w).mono fun e W' ⟨v, h1, h2, h3⟩ => by
    rw [hl] at h2
    have h4 := Rd4.of_row h2
    obtain ⟨a, cap, rfl, h5⟩ := h4
    exact ⟨a, cap, h1, ⟨a, cap, rfl, h5⟩, h3⟩
  rw [hl]
  obtain ⟨N, hN⟩ : ∃ N, l.length = N := ⟨_, rfl⟩
  have HN : Hid (l.length = N) := hN
  rw [hN] at CL hln
  clear hl hN hs
  go_enter Tryz.func67, Tryz.ntmps67
  go_wp2_with (go_at_call 69; refine CL.out.mono ?_; clear CL; rintro e w1 ⟨a, cap, rfl, H1⟩)
  go_loopw [6, 7] (fun t6 t7 wr => ∃ i : Nat, i ≤ N ∧ t7 = .int .i64 i ∧ t6 = .int .i64 (cto k (l.take i)) ∧ wr = w1) (fun _ t7 _ => N - (Go.RowKit.intOf t7).toNat)
  case atStart => exact ⟨0, Nat.zero_le _, rfl, rfl, rfl⟩
  case round =>
    obtain ⟨i, hi, rfl, rfl, rfl⟩ := hrel
    by_cases hlt : i < N
    · obtain ⟨c, hc⟩ : ∃ c, l[i]? = some c := ⟨l[i]'(by rw [HN.out]; exact hlt), List.getElem?_eq_getElem _⟩
      obtain ⟨a1, c1, he, hr⟩ := H1.out.1
      obtain ⟨g, hg, hgl, hcell⟩ := hr (fun e => by rw [e] at hc; simp at hc)
      cases he
      subst hg
      obtain ⟨-, d1, -, d3⟩ := hcell i c hc
      have ht : l.take (i + 1) = l.take i ++ [c] := by rw [List.take_add_one, hc]; rfl
      have HE : Hid (cto k (l.take (i + 1)) = cto k (l.take i) + (if (c.to : Int) ≤ k then c.n else 0)) := by
        show _ = _
        rw [ht, cto_app]
        simp [cto]
      obtain ⟨z1, z2⟩ := HL.out i
      obtain ⟨n1, n2⟩ := HNN.out c (List.mem_of_getElem? hc)
      generalize cto k (l.take i) = z at HE z1 z2 ⊢
      clear hcell hc hr ht
      by_cases hto : (c.to : Int) ≤ k
      · go_wp2
        refine ⟨⟨i + 1, by omega, by go_num, ?_, by first | rfl | trivial⟩, by simp [Go.RowKit.intOf]; omega⟩
        rw [HE.out, if_pos hto]
      · go_wp2
        refine ⟨⟨i + 1, by omega, by go_num, ?_, by first | rfl | trivial⟩, by simp [Go.RowKit.intOf]; omega⟩
        rw [HE.out, if_neg hto, Int.add_zero]
    · obtain rfl : i = N := by omega
      go_wp2
      go_ret
      refine ⟨?_, H1.out.2⟩
      rw [← HN.out, List.take_length]
      rfl
/-- the line of an offset, and what stands ahead of it there -/
theorem isC_line {s : ByteArray} {n p m : Nat} (hn : n ≤ s.size) (hp : IsL s n p) (hm : IsPrev s ((n : Int) + 1) m) : ∃ b, IsS s (cn s 0 n : Int) (some (p, b)) ∧ p ≤ m ∧ m ≤ b := by
  obtain ⟨h1, h2⟩ := hp.le_prev hn hm
  obtain ⟨p1, p2, p3⟩ := hp
  have e1 := cn_add (s := s) (a := 0) (b := p) (c := n) (by omega) p1
  have hN : IsN s (cn s 0 n : Int) p := ⟨by omega, p2, by omega⟩
  obtain ⟨o, ho⟩ := isS_ex s (cn s 0 n : Int)
  cases o with
  | none =>
    have h' : (cn s 0 n : Int) < 0 ∨ (cn s 0 s.size : Int) < (cn s 0 n : Int) := ho
    have := cn_mono (s := s) (a := 0) (b := n) (c := s.size) (by omega) hn
    omega
  | some x =>
    obtain ⟨a, b⟩ := x
    obtain rfl : a = p := ho.1.uniq hN
    refine ⟨b, ho, h1, ?_⟩
    by_cases hb : n ≤ b
    · omega
    · have ho' := ho
      obtain ⟨-, r, hr, hl⟩ := ho
      simp only at hr hl
      cases r with
      | none => have : b = s.size := hl; omega
      | some q =>
        obtain ⟨k1, k2, k3, k4, k5, k6, k7⟩ := ho'.nl hr
        have hq : n < q := by
          rcases Nat.lt_or_ge n q with e | e
          · exact e
          · have := cn_mono (s := s) (a := a) (b := q) (c := n) (by have := hr.1; omega) e
            have := hr.2.2.2
            omega
        rcases Nat.lt_or_ge b m with e | e
        · have := k3.no m (by omega) (by omega)
          rw [hm.cb] at this; cases this
        · exact e
set_option maxRecDepth 100000 in
set_option maxHeartbeats 2000000 in
theorem rcolumn_any (hM : Tryz.prog.follows .mixedOrders = true) (s : ByteArray) (hs : s.size ≤ 1073741824) (a : Int) {o : Option Int} (ho : IsCo s a o) (w : World) : Calls Tryz.prog 29 #[.string s, .int .i64 a] w fun e W' => e = .returned (cov o) ∧ Below w.heap.size w W' := by
  have HM : Hid (Tryz.prog.follows .mixedOrders = true) := hM
  have CO : Hid (Calls Tryz.prog 23 #[.string s, .int .i64 a] w fun e W' => e = .returned (ofv s a) ∧ Hid (Below w.heap.size w W')) := rof_any s hs a w
  unfold ofv at CO
  unfold cov
  cases o with
  | none =>
    have ho' : ¬ (0 ≤ a ∧ a ≤ s.size) := ho
    rw [if_neg ho', if_neg ho'] at CO
    clear ho ho' hM
    go_enter Tryz.func29, Tryz.ntmps29
    go_wp2_with (go_at_call 23; refine CO.out.mono ?_; clear CO; rintro e w1 ⟨rfl, H⟩)
    exact bodyPost_ret (v := .tuple #[.int .i64 0, .int .i64 1]) (by simp [results, Tryz.results29, go_sem]) rfl ⟨rfl, H.out⟩
  | some z =>
    obtain ⟨n, rfl, hn, p, m, hp, hm, rfl⟩ := ho
    obtain ⟨b, hS, h1, h2⟩ := isC_line hn hp hm
    rw [if_pos (by omega), if_pos (by omega), Int.toNat_natCast] at CO
    obtain ⟨hle, hbs⟩ := hS.le
    have hpn : p ≤ n := hp.1
    have CS : Hid (∀ W, Hid (Below w.heap.size w W) → Calls Tryz.prog 25 #[.string s, .int .i64 (cn s 0 n : Nat)] W fun e W' => e = .returned (.tuple #[.agg #[.int .i64 p, .int .i64 b], .int .i64 0]) ∧ Hid (Below w.heap.size w W')) := fun W hW => (rspan_any s hs _ hS W).mono fun e W' ⟨q1, q2⟩ => ⟨q1, Below.on hW.out q2⟩
    have CC : Hid (∀ W, Calls Tryz.prog 67 #[.string (s.extract p b), .int .i64 ((n : Int) - p)] W fun e W' => e = .returned (.int .i64 (cw s p m)) ∧ Below W.heap.size W W') := fun W => by
      have := rcells_any (s.extract p b) (by rw [size_extract s p b hbs]; omega) ((n : Int) - p) W
      rw [cto_line hS hm h1 h2] at this
      exact this
    have HZ : Hid ((smr (s.extract p m)).ce = cw s p m) := cw_ce s p m
    show Calls Tryz.prog 29 #[.string s, .int .i64 n] w fun e W' => e = .returned (.tuple #[.int .i64 (smr (s.extract p m)).ce, .int .i64 0]) ∧ _
    rw [HZ.out]
    generalize cw s p m = z at CC ⊢
    generalize cn s 0 n = ln at CO CS
    have hn2 : n ≤ 1073741824 := by omega
    have hb2 : b ≤ 1073741824 := by omega
    clear hS hp hm h1 h2 hs hM HZ
    go_enter Tryz.func29, Tryz.ntmps29
    go_upto_region 5 with (first
      | (go_at_call 23; refine CO.out.mono ?_; clear CO; rintro e w1 ⟨rfl, H1⟩)
      | (go_at_call 25; refine (CS.out _ H1).mono ?_; clear CS H1; rintro e w2 ⟨rfl, H2⟩))
    obtain ⟨W3, hW3⟩ : ∃ W3, w2.alloc (.cells #[.int .i64 (p : Int), .int .i64 (b : Int)] 53) = W3 := ⟨_, rfl⟩
    have hb3 : Below w2.heap.size w2 W3 ∧ W3.heap[w2.heap.size]? = some (.cells #[.int .i64 (p : Int), .int .i64 (b : Int)] 53 (0, 0)) := by rw [← hW3]; exact ⟨(Below.refl _ w2).alloc (Nat.le_refl _) _, World.alloc_heap_new _ _⟩
    have H3 : Hid (Below w.heap.size w W3) := Below.on H2.out hb3.1
    obtain ⟨x0, x1⟩ : W3.cell? ⟨w2.heap.size, 0, none⟩ = some (.int .i64 (p : Int)) ∧ W3.cell? ⟨w2.heap.size, 1, none⟩ = some (.int .i64 (b : Int)) := by simp [World.cell?, hb3.2]
    rw [hW3]
    clear hW3 hb3 H2
    have f0 := fun d os => cell_regrown x0 d os
    have f1 := fun d os => cell_regrown x1 d os
    have q1 := regrown (W := W3) (fun W hW => CC.out W)
    refine wp_region_quiet_below HM.out (by kernel_rfl) ?_
    repeat (go_big_quiet_step (exact q1 _ _))
    refine wpQuiet_nil ?_
    intro _ hw'
    obtain ⟨⟨dq, osq⟩, hw''⟩ := hw'
    subst hw''
    have H4 : Hid (Below w.heap.size w (Go.Sort.grow (redrawn W3 dq) osq)) := Below.on H3.out (below_regrown W3 dq osq)
    clear q1 f0 f1 x0 x1
    go_wp2
    exact bodyPost_ret (v := .tuple #[.int .i64 z, .int .i64 0]) (by simp [results, Tryz.results29, go_sem]) rfl ⟨rfl, H4.out⟩
/-- the last boundary of a line that fits, as far as clusters are looked at -/
structure Bst (s : ByteArray) (a b : Nat) (c : Int) (l : List Clu) (i best : Nat) : Prop where
  le : best ≤ b - a
  cb : cbZ (s.extract a b) best = true
  fit : best = 0 ∨ cw s a (a + best) ≤ c
  no : ∀ d ∈ l.take i, best < d.to → c < cw s a (a + d.to)
theorem cto_own {s : ByteArray} {l : Int} {a b : Nat} (hS : IsS s l (some (a, b))) {d : Clu} (hd : d ∈ cl (s.extract a b)) : cto d.to (cl (s.extract a b)) = cw s a (a + d.to) := by
  have h1 := cl_span hd
  have h2 := (cl_cb _ d hd).1
  rw [size_extract s a b hS.le.2] at h1
  rw [cto_prev (m := d.to) ⟨h2, .inl (by omega), fun j j1 j2 => by omega⟩ (by omega), cw_ext (by omega)]
theorem Bst.done {s : ByteArray} {l : Int} {a b : Nat} {c : Int} {best : Nat} (hS : IsS s l (some (a, b))) {i : Nat} (hi : (cl (s.extract a b)).length ≤ i) (h : Bst s a b c (cl (s.extract a b)) i best) : IsR s a b (max c 0) (a + best) := by
  obtain ⟨ca, cb⟩ := hS.cb
  obtain ⟨hle, hbs⟩ := hS.le
  have hlb := h.le
  refine ⟨by omega, by omega, ?_, ?_, fun j j1 j2 j3 => ?_⟩
  · have := h.cb
    rw [sub_cb ca cb (by omega)] at this
    exact this
  · rcases h.fit with e | e
    · rw [e, Nat.add_zero, cw_self]; omega
    · omega
  · obtain ⟨k, rfl⟩ : ∃ k, j = a + k := ⟨j - a, by omega⟩
    rw [← sub_cb ca cb (by omega)] at j3
    obtain ⟨k', e, hk⟩ := bds_of j3
    obtain rfl : k = k' := by omega
    have hpos : 1 ≤ cw s a (a + k) := cw_pos (by have := hS.cn0; have := cn_mono (s := s) (a := a) (b := a + k) (c := b) (by omega) (by omega); omega) (by omega) (by omega)
    rcases List.mem_cons.1 hk with e0 | hk
    · omega
    · obtain ⟨d, hd, rfl⟩ := List.mem_map.1 hk
      have := h.no d (by rw [List.take_of_length_le hi]; exact hd) (by omega)
      omega
theorem Bst.next {s : ByteArray} {l : Int} {a b : Nat} {c : Int} {i best : Nat} (hS : IsS s l (some (a, b))) {d : Clu} (hd : (cl (s.extract a b))[i]? = some d) (h : Bst s a b c (cl (s.extract a b)) i best) : Bst s a b c (cl (s.extract a b)) (i + 1) (if cw s a (a + d.to) ≤ c then d.to else best) := by
  have hm := List.mem_of_getElem? hd
  have h1 := cl_span hm
  rw [size_extract s a b hS.le.2] at h1
  have ht : (cl (s.extract a b)).take (i + 1) = (cl (s.extract a b)).take i ++ [d] := by rw [List.take_add_one, hd]; rfl
  by_cases hc : cw s a (a + d.to) ≤ c
  · rw [if_pos hc]
    refine ⟨h1.2, (cl_cb _ d hm).1, .inr hc, fun e he hlt => ?_⟩
    rw [ht] at he
    rcases List.mem_append.1 he with he | he
    · obtain ⟨j, hj, rfl⟩ := List.mem_take_iff_getElem.1 he
      have hr := (tiled_rise (cl_tile (s.extract a b))).1
      have hr := (List.pairwise_cons.1 hr).2
      obtain ⟨hi1, rfl⟩ := List.getElem?_eq_some_iff.1 hd
      have := List.pairwise_iff_getElem.1 hr j i (by simp; omega) (by simpa using hi1) (by omega)
      simp at this
      omega
    · rw [List.mem_singleton.1 he] at hlt; omega
  · rw [if_neg hc]
    refine ⟨h.le, h.cb, h.fit, fun e he hlt => ?_⟩
    rw [ht] at he
    rcases List.mem_append.1 he with he | he
    · exact h.no e he hlt
    · rw [List.mem_singleton.1 he]; omega
set_option maxRecDepth 100000 in
set_option maxHeartbeats 4000000 in
theorem rat_any (s : ByteArray) (hs : s.size ≤ 1073741824) (l c : Int) {o : Option Nat} (ho : IsA s l c o) (w : World) : Calls Tryz.prog 31 #[.string s, .int .i64 l, .int .i64 c] w fun e W' => e = .returned (atv o) ∧ Below w.heap.size w W' := by
  unfold atv
  cases o with
  | none =>
    have CS : Hid (Calls Tryz.prog 25 #[.string s, .int .i64 l] w fun e W' => e = .returned (.tuple #[.agg #[.int .i64 0, .int .i64 0], .int .i64 1]) ∧ Hid (Below w.heap.size w W')) := rspan_any s hs l (o := none) ho w
    clear ho
    go_enter Tryz.func31, Tryz.ntmps31
    go_wp2_with (go_at_call 25; refine CS.out.mono ?_; clear CS; rintro e w1 ⟨rfl, H⟩)
    exact bodyPost_ret (v := .tuple #[.int .i64 0, .int .i64 1]) (by simp [results, Tryz.results31, go_sem]) rfl ⟨rfl, H.out.alloc H.out.size _⟩
  | some m =>
    obtain ⟨a, b, hS, hR⟩ := ho
    obtain ⟨hle, hbs⟩ := hS.le
    have hz := size_extract s a b hbs
    obtain ⟨L, hL⟩ : ∃ L, cl (s.extract a b) = L := ⟨_, rfl⟩
    obtain ⟨N, hN⟩ : ∃ N, L.length = N := ⟨_, rfl⟩
    have hN2 : N ≤ 1073741824 := by have := cl_len (s.extract a b); rw [hL, hN] at this; omega
    have HN : Hid (L.length = N) := hN
    have CS : Hid (Calls Tryz.prog 25 #[.string s, .int .i64 l] w fun e W' => e = .returned (.tuple #[.agg #[.int .i64 a, .int .i64 b], .int .i64 0]) ∧ Hid (Below w.heap.size w W')) := rspan_any s hs l hS w
    have CL : Hid (∀ W, Calls Tryz.prog 69 #[.string (s.extract a b)] W fun e W' => ∃ ad cap, e = .returned (.slice ad N cap) ∧ Hid (Rd4 W' (.slice ad N cap) L ∧ Below W.heap.size W W')) := fun W => (rlist_any (s.extract a b) (by omega) W).mono fun e W' ⟨v, h1, h2, h3⟩ => by
      rw [hL] at h2
      have h4 := Rd4.of_row h2
      rw [hN] at h2
      obtain ⟨ad, cap, rfl, h5⟩ := h4
      rw [hN] at h1
      exact ⟨ad, cap, h1, ⟨ad, cap, by rw [hN], h5⟩, h3⟩
    have CC : Hid (∀ W (d : Clu), d ∈ L → Calls Tryz.prog 67 #[.string (s.extract a b), .int .i64 d.to] W fun e W' => e = .returned (.int .i64 (cw s a (a + d.to))) ∧ Hid (Below W.heap.size W W')) := fun W d hd => by
      have := rcells_any (s.extract a b) (by omega) d.to W
      rw [cto_own hS (by rw [hL]; exact hd)] at this
      exact this
    have HNx : Hid (∀ (i best : Nat) (d : Clu), L[i]? = some d → Bst s a b c L i best → Bst s a b c L (i + 1) (if cw s a (a + d.to) ≤ c then d.to else best)) := fun i best d hd h => by rw [← hL] at hd h ⊢; exact Bst.next hS hd h
    have HDn : Hid (∀ best : Nat, Bst s a b c L N best → a + best = m) := fun best h => by rw [← hL] at h hN; exact (h.done hS (by omega)).uniq hR
    have HB0 : Hid (Bst s a b c L 0 0) := ⟨Nat.zero_le _, cb_zero _, .inl rfl, fun d hd => by simp at hd⟩
    have hb1 : b ≤ 1073741824 := by omega
    clear hS hR hL hN hs hz
    go_enter Tryz.func31, Tryz.ntmps31
    go_upto_region 2 with (go_at_call 25; refine CS.out.mono ?_; clear CS; rintro e w2 ⟨rfl, H2⟩)
    obtain ⟨W3, hW3⟩ : ∃ W3, w2.alloc (.cells #[.int .i64 (a : Int), .int .i64 (b : Int)] 53) = W3 := ⟨_, rfl⟩
    have hb3 : Below w2.heap.size w2 W3 ∧ W3.heap[w2.heap.size]? = some (.cells #[.int .i64 (a : Int), .int .i64 (b : Int)] 53 (0, 0)) := by rw [← hW3]; exact ⟨(Below.refl _ w2).alloc (Nat.le_refl _) _, World.alloc_heap_new _ _⟩
    have H3 : Hid (Below w.heap.size w W3) := Below.on H2.out hb3.1
    have HX : Hid (∀ W, Below W3.heap.size W3 W → W.cell? ⟨w2.heap.size, 0, none⟩ = some (.int .i64 (a : Int)) ∧ W.cell? ⟨w2.heap.size, 1, none⟩ = some (.int .i64 (b : Int))) := fun W hW => by
      have := (hW.block _ (Array.getElem?_eq_some_iff.1 hb3.2).1).trans hb3.2
      simp [World.cell?, this]
    rw [hW3]
    clear hW3 hb3 H2
    obtain ⟨x0, x1⟩ := HX.out _ (Below.refl _ _)
    go_wp2_with (go_at_call 69; refine (CL.out _).mono ?_; clear CL x0 x1; rintro e w4 ⟨ad, cap, rfl, H4⟩)
    go_loopw [12, 13] (fun t12 t13 wr => ∃ i best : Nat, i ≤ N ∧ best ≤ b - a ∧ t13 = .int .i64 i ∧ t12 = .int .i64 best ∧ Hid (Bst s a b c L i best ∧ Below w4.heap.size w4 wr)) (fun _ t13 _ => N - (Go.RowKit.intOf t13).toNat)
    case atStart => exact ⟨0, 0, Nat.zero_le _, Nat.zero_le _, rfl, rfl, HB0.out, Below.refl _ _⟩
    case round =>
      obtain ⟨i, best, hi, hbe, rfl, rfl, HI⟩ := hrel
      clear HB0
      by_cases hlt : i < N
      · obtain ⟨d, hd⟩ : ∃ d, L[i]? = some d := ⟨L[i]'(by rw [HN.out]; exact hlt), List.getElem?_eq_getElem _⟩
        obtain ⟨a1, c1, he, hr⟩ := H4.out.1
        obtain ⟨g, hg, hgl, hcell⟩ := hr (fun e => by rw [e] at hd; simp at hd)
        cases he
        subst hg
        have HC : Hid (∀ W, Below w4.heap.size w4 W → W.cell? ⟨g, i * 4 + 1, none⟩ = some (.int .i64 d.to)) := fun W hW => (hW.cell (p := ⟨g, i * 4 + 1, none⟩) hgl).trans (hcell i d hd).2.1
        have C1 : Hid (∀ W, Calls Tryz.prog 67 #[.string (s.extract a b), .int .i64 d.to] W fun e W' => e = .returned (.int .i64 (cw s a (a + d.to))) ∧ Hid (Below W.heap.size W W')) := fun W => CC.out W d (List.mem_of_getElem? hd)
        have HNy : Hid (Bst s a b c L (i + 1) (if cw s a (a + d.to) ≤ c then d.to else best)) := HNx.out i best d hd HI.out.1
        have HNl := HNy.out.le
        have x1 := HC.out _ HI.out.2
        have HI2 : Hid (Below w4.heap.size w4 wr) := HI.out.2
        generalize cw s a (a + d.to) = z at C1 HNy HNl
        clear hcell hr hd HI
        by_cases hz : z ≤ c
        · rw [if_pos hz] at HNy HNl
          go_wp2_with (go_at_call 67; refine (C1.out _).mono ?_; clear C1 x1; rintro e w5 ⟨rfl, H5⟩; have HI5 : Hid (Below w4.heap.size w4 w5) := Below.on HI2.out H5.out; have x1 := HC.out _ HI5.out)
          exact ⟨⟨i + 1, d.to, by omega, HNl, by go_num, rfl, HNy.out, HI5.out⟩, by simp [Go.RowKit.intOf]; omega⟩
        · rw [if_neg hz] at HNy HNl
          go_wp2_with (go_at_call 67; refine (C1.out _).mono ?_; clear C1 x1; rintro e w5 ⟨rfl, H5⟩; have HI5 : Hid (Below w4.heap.size w4 w5) := Below.on HI2.out H5.out; have x1 := HC.out _ HI5.out)
          exact ⟨⟨i + 1, best, by omega, hbe, by go_num, rfl, HNy.out, HI5.out⟩, by simp [Go.RowKit.intOf]; omega⟩
      · obtain rfl : i = N := by omega
        have hm := HDn.out _ HI.out.1
        obtain ⟨x0, x1⟩ := HX.out _ (Below.on H4.out.2 HI.out.2)
        subst hm
        go_wp2
        exact bodyPost_ret (v := .tuple #[.int .i64 ((a : Int) + best), .int .i64 0]) (by simp [results, Tryz.results31, go_sem]) rfl ⟨by simp, Below.on H3.out (Below.on H4.out.2 HI.out.2)⟩
end Go.Proofs.YtcjmfoadimpffaaGreatDoor.Sto
