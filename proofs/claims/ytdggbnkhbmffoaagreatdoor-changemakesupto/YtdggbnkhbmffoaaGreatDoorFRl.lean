/-
  The document's own Lines, Count, Of, Span of a plain text (layer 11), for programs without package store. Conditions: those of each theorem.
-/
import Derived.Test.YtdggbnkhbmffoaaGreatDoorFBas
import Derived.Maps.AppendAt
import Derived.Laws.OwnMore
namespace Go.Proofs.YtdggbnkhbmffoaaGreatDoor
open Go.RowKit Go.Shelf Bod Wid

def spl (l : List (Nat × Nat)) : List Value := l.flatMap fun p => [Value.int .i64 p.1, Value.int .i64 p.2]
theorem spl_snoc (l : List (Nat × Nat)) (p : Nat × Nat) : spl (l ++ [p]) = spl l ++ [.int .i64 p.1, .int .i64 p.2] := by simp [spl]
theorem info_spl : (Tryz.prog.info? 53).map (fun i => (i.zero, i.size, i.bytes)) = some (some (.agg #[.int .i64 0, .int .i64 0]), 2, 16) := by kernel_rfl
theorem spl_get {ys : List (Nat × Nat)} : ∀ {i : Nat} {x : Nat × Nat}, ys[i]? = some x → (spl ys)[i * 2]? = some (.int .i64 (x.1 : Int)) ∧ (spl ys)[i * 2 + 1]? = some (.int .i64 (x.2 : Int)) := by
  induction ys with
  | nil => intro i x h; simp at h
  | cons y ys ih =>
    intro i x h
    have e : spl (y :: ys) = .int .i64 (y.1 : Int) :: .int .i64 (y.2 : Int) :: spl ys := by simp [spl]
    rw [e]
    cases i with
    | zero => simp at h; subst h; simp
    | succ i =>
      rw [show (i + 1) * 2 = i * 2 + 1 + 1 by omega]
      simpa using ih (by simpa using h)
/-- the answer's box -/
structure Rb (w : World) (x y : Int) (W : World) : Prop where
  bel : Below w.heap.size w W
  r : W.heap[w.heap.size]? = some (.cells #[.int .i64 x, .int .i64 y] 53 (0, 0))
theorem Rb.below {w W X : World} {x y : Int} (h : Rb w x y W) (hb : Below W.heap.size W X) : Rb w x y X :=
  have kp : ∀ {k : Nat} {o : Obj}, W.heap[k]? = some o → X.heap[k]? = some o := fun ho => (hb.block _ (Array.getElem?_eq_some_iff.1 ho).1).trans ho
  ⟨below_on h.bel hb, kp h.r⟩
theorem Rb.get {w W : World} {x y : Int} (h : Rb w x y W) : W.cell? ⟨w.heap.size, 0, none⟩ = some (.int .i64 x) ∧ W.cell? ⟨w.heap.size, 1, none⟩ = some (.int .i64 y) ∧ W.frozen? ⟨w.heap.size, 0, none⟩ = false ∧ W.frozen? ⟨w.heap.size, 1, none⟩ = false ∧ w.heap.size < W.heap.size :=
  ⟨by simp [World.cell?, h.r], by simp [World.cell?, h.r], by simp [World.frozen?, h.r], by simp [World.frozen?, h.r], (Array.getElem?_eq_some_iff.1 h.r).1⟩
theorem Rb.set {w W : World} {x y : Int} (h : Rb w x y W) (p q : Int) : Rb w p q ((W.setCell ⟨w.heap.size, 0, none⟩ (.int .i64 p)).setCell ⟨w.heap.size, 1, none⟩ (.int .i64 q)) := by
  have s1 := set1 (i := 0) (.int .i64 p) h.r
  have s2 := set1 (i := 1) (.int .i64 q) s1
  exact ⟨(h.bel.setCell (p := ⟨w.heap.size, 0, none⟩) (by simp) _).setCell (p := ⟨w.heap.size, 1, none⟩) (by simp) _, by simpa using s2⟩
/-- the lines up to the one that begins at f, of which the bytes up to i are read -/
structure Lq (s : ByteArray) (w : World) (v : Value) (zs : List (Nat × Nat)) (f i : Nat) (W : World) : Prop where
  row : W.ownsRow w.heap.size 53 2 v zs.length (spl zs)
  bel : Below w.heap.size w W
  fi : f ≤ i
  ie : i ≤ s.size
  z : cn s f i = 0
  p : (zs = [] ∧ f = 0) ∨ Lns s 0 zs (some f)
section
variable {s : ByteArray} {w W : World} {v : Value} {zs : List (Nat × Nat)} {f i : Nat}
theorem Lq.len (h : Lq s w v zs f i W) : zs.length ≤ f := by
  rcases h.p with ⟨h1, h2⟩ | h1
  · rw [h1]; exact Nat.zero_le _
  · exact (h1.len.2 f rfl).1
theorem Lq.ext (h : Lq s w v zs f i W) {r : Option Nat} (hr : IsB s f s.size 1 r) : Lns s 0 (zs ++ [(f, lend s f r)]) r := by
  rcases h.p with ⟨h1, h2⟩ | h1
  · subst h1 h2; exact Lns.one hr
  · exact Lns.more h1 hr
theorem Lq.pass (h : Lq s w v zs f i W) (hi : i < s.size) (hb : byt s i ≠ 10) : Lq s w v zs f (i + 1) W := by
  have e := cn_add (s := s) (a := f) (b := i) (c := i + 1) h.fi (by omega)
  rw [cn_one hi, if_neg hb, h.z] at e
  exact ⟨h.row, h.bel, by have := h.fi; omega, hi, e, h.p⟩
theorem Lq.isB (h : Lq s w v zs f i W) (hi : i < s.size) (hb : byt s i = 10) : IsB s f s.size 1 (some (i + 1)) := by
  have e := cn_add (s := s) (a := f) (b := i) (c := i + 1) h.fi (by omega)
  rw [cn_one hi, if_pos hb, h.z] at e
  have := h.fi
  exact ⟨by omega, by omega, by simpa using hb, by omega⟩
theorem Lq.app {p : Nat × Nat} {v' : Value} {w' : World} {o : Obj} (h : Lq s w v zs f i W) (h1 : w'.ownsRow w.heap.size 53 2 v' (zs.length + 1) (spl zs ++ [.int .i64 (p.1 : Nat), .int .i64 (p.2 : Nat)])) (hg : (W.alloc o).grownBy w' v.ownBlock) : w'.ownsRow w.heap.size 53 2 v' (zs ++ [p]).length (spl (zs ++ [p])) ∧ Below w.heap.size w w' := by
  have far : ∀ k, v.ownBlock = some k → w.heap.size ≤ k := fun k e => by
    rcases h.row.2 with ⟨hv, _⟩ | ⟨g, cap, cur, hv, h2, _⟩
    · rw [hv] at e; cases e
    · rw [hv] at e; injection e with e; subst e; exact h2
  refine ⟨?_, (h.bel.alloc h.bel.size o).grown hg (by have := h.bel.size; simp; omega) (fun k e => far k e)⟩
  rw [spl_snoc, List.length_append]
  exact h1
end
set_option maxRecDepth 100000 in
set_option maxHeartbeats 2000000 in
theorem rlines_any (s : ByteArray) (hs : s.size ≤ 1073741824) (w : World) : Calls Tryz.prog 63 #[.string s] w fun e W' => ∃ v ys, e = .returned v ∧ Lns s 0 ys none ∧ W'.ownsRow w.heap.size 53 2 v ys.length (spl ys) ∧ Below w.heap.size w W' := by
  obtain ⟨i0, hi0, hz0, hz1, hz2⟩ := info_parts info_spl
  obtain ⟨n, hn⟩ : ∃ n, s.size = n := ⟨_, rfl⟩
  have HN : Hid (s.size = n) := hn
  have hn2 : n ≤ 1073741824 := by omega
  go_enter Tryz.func63, Tryz.ntmps63
  go_wp2
  go_loopw [3, 4, 5] (fun t3 t4 t5 wr => ∃ (v : Value) (f i : Nat), t3 = v ∧ t4 = .int .i64 (f : Int) ∧ t5 = .int .i64 (i : Int) ∧ i ≤ n ∧ f ≤ i ∧ Hid (∃ zs, Lq s w v zs f i wr)) (fun _ _ t5 _ => n - (intOf t5).toNat)
  case atStart => exact ⟨_, 0, 0, rfl, rfl, rfl, Nat.zero_le _, Nat.le_refl _, [], World.ownsRow_nil _ _ _ _, Below.refl _ _, Nat.le_refl _, Nat.zero_le _, cn_self _ _, .inl ⟨rfl, rfl⟩⟩
  case round =>
    obtain ⟨v, f, i, rfl, rfl, rfl, hi, hfi, HL⟩ := hrel
    by_cases hlt : i < n
    · obtain ⟨x, hx⟩ : ∃ x, s[i]'(by omega) = x := ⟨_, rfl⟩
      have HX : Hid (byt s i = x) := by show _ = _; rw [byt_get (by omega)]; exact hx
      obtain ⟨zs, hzq⟩ := HL.out
      have HQ : Hid (Lq s w _ zs f i wr) := hzq
      have hzl : zs.length ≤ f := hzq.len
      clear hzq HL
      by_cases hx10 : x = 10
      · subst hx10
        by_cases hc : f < i
        · obtain ⟨y, hy⟩ : ∃ y, s[i - 1]'(by omega) = y := ⟨_, rfl⟩
          have HY : Hid (byt s (i - 1) = y) := by show _ = _; rw [byt_get (by omega)]; exact hy
          by_cases hy13 : y = 13
          · subst hy13
            have HE : Hid (lend s f (some (i + 1)) = i - 1) := by
              have := HY.out
              show lend s f (some (i + 1)) = _
              unfold lend
              simp only
              rw [show i + 1 - 2 = i - 1 by omega, if_pos ⟨by omega, this⟩]
            go_wp2_with (at_builtin; refine wpList_append_own_at _ rfl _ _ 77 rfl w.heap.size 53 i0 _ 2 16 Tryz.underlying77 hi0 hz0 hz1 hz2 rfl (by decide) _ _ _ rfl (HQ.out.row.alloc _) ⟨wr.heap.size, 0, none⟩ 1 1 [.int .i64 (f : Int), .int .i64 ((i : Int) - 1)] rfl rfl (World.news_of_block (World.alloc_heap_new wr _)) (by simp [Value.oneCell']) (by unfold maxLen; omega) (by omega) (by have := HQ.out.bel.size; simp; omega) ?_; intro v' w6 hown' hgrow _ hob; have HF : Hid (w6.ownsRow w.heap.size 53 2 v' (zs ++ [(f, i - 1)]).length (spl (zs ++ [(f, i - 1)])) ∧ Below w.heap.size w w6) := HQ.out.app (p := (f, i - 1)) (by rw [show ((i - 1 : Nat) : Int) = (i : Int) - 1 by omega]; exact hown') hgrow; clear hown' hgrow hob)
            refine ⟨⟨v', i + 1, i + 1, rfl, rfl, rfl, hlt, Nat.le_refl _, _, HF.out.1, HF.out.2, Nat.le_refl _, by have := HN.out; omega, cn_self _ _, .inr ?_⟩, by simp only [intOf]; omega⟩
            have := HQ.out.ext (HQ.out.isB (by have := HN.out; omega) HX.out)
            rw [HE.out] at this
            exact this
          · have HE : Hid (lend s f (some (i + 1)) = i) := by
              have := HY.out
              show lend s f (some (i + 1)) = _
              unfold lend
              simp only
              rw [show i + 1 - 2 = i - 1 by omega, if_neg (fun e => hy13 (by rw [← this]; exact e.2))]
              omega
            have e13 : ((y.toNat : Int) == 13) = false := by
              have : ¬ (y.toNat : Int) = 13 := fun e => hy13 (UInt8.toNat_inj.1 (by simpa using (show y.toNat = 13 by omega)))
              simp [this]
            have e13' : ¬ (y.toNat : Int) = 13 := fun e => hy13 (UInt8.toNat_inj.1 (by simpa using (show y.toNat = 13 by omega)))
            go_wp2_with (at_builtin; refine wpList_append_own_at _ rfl _ _ 77 rfl w.heap.size 53 i0 _ 2 16 Tryz.underlying77 hi0 hz0 hz1 hz2 rfl (by decide) _ _ _ rfl (HQ.out.row.alloc _) ⟨wr.heap.size, 0, none⟩ 1 1 [.int .i64 (f : Int), .int .i64 (i : Int)] rfl rfl (World.news_of_block (World.alloc_heap_new wr _)) (by simp [Value.oneCell']) (by unfold maxLen; omega) (by omega) (by have := HQ.out.bel.size; simp; omega) ?_; intro v' w6 hown' hgrow _ hob; have HF : Hid (w6.ownsRow w.heap.size 53 2 v' (zs ++ [(f, i)]).length (spl (zs ++ [(f, i)])) ∧ Below w.heap.size w w6) := HQ.out.app (p := (f, i)) hown' hgrow; clear hown' hgrow hob)
            refine ⟨⟨v', i + 1, i + 1, rfl, rfl, rfl, hlt, Nat.le_refl _, _, HF.out.1, HF.out.2, Nat.le_refl _, by have := HN.out; omega, cn_self _ _, .inr ?_⟩, by simp only [intOf]; omega⟩
            have := HQ.out.ext (HQ.out.isB (by have := HN.out; omega) HX.out)
            rw [HE.out] at this
            exact this
        · have HE : Hid (lend s f (some (i + 1)) = i) := by
            show lend s f (some (i + 1)) = _
            unfold lend
            simp only
            rw [if_neg (fun e => hc (by omega))]
            omega
          go_wp2_with (at_builtin; refine wpList_append_own_at _ rfl _ _ 77 rfl w.heap.size 53 i0 _ 2 16 Tryz.underlying77 hi0 hz0 hz1 hz2 rfl (by decide) _ _ _ rfl (HQ.out.row.alloc _) ⟨wr.heap.size, 0, none⟩ 1 1 [.int .i64 (f : Int), .int .i64 (i : Int)] rfl rfl (World.news_of_block (World.alloc_heap_new wr _)) (by simp [Value.oneCell']) (by unfold maxLen; omega) (by omega) (by have := HQ.out.bel.size; simp; omega) ?_; intro v' w6 hown' hgrow _ hob; have HF : Hid (w6.ownsRow w.heap.size 53 2 v' (zs ++ [(f, i)]).length (spl (zs ++ [(f, i)])) ∧ Below w.heap.size w w6) := HQ.out.app (p := (f, i)) hown' hgrow; clear hown' hgrow hob)
          refine ⟨⟨v', i + 1, i + 1, rfl, rfl, rfl, hlt, Nat.le_refl _, _, HF.out.1, HF.out.2, Nat.le_refl _, by have := HN.out; omega, cn_self _ _, .inr ?_⟩, by simp only [intOf]; omega⟩
          have := HQ.out.ext (HQ.out.isB (by have := HN.out; omega) HX.out)
          rw [HE.out] at this
          exact this
      · have e10 : ¬ (x.toNat : Int) = 10 := fun e => hx10 (UInt8.toNat_inj.1 (by simpa using (show x.toNat = 10 by omega)))
        go_wp2
        exact ⟨⟨_, f, i + 1, rfl, rfl, rfl, hlt, by omega, zs, HQ.out.pass (by have := HN.out; omega) (by rw [HX.out]; exact hx10)⟩, by simp only [intOf]; omega⟩
    · obtain rfl : i = n := by omega
      obtain ⟨zs, hzq⟩ := HL.out
      have HQ : Hid (Lq s w _ zs f i wr) := hzq
      have hzl : zs.length ≤ f := hzq.len
      have HB : Hid (IsB s f s.size 1 none) := by
        show cn s f s.size < 1
        have h1 := hzq.z
        have h2 := HN.out
        rw [h2, h1]
        exact Nat.lt_succ_self 0
      clear hzq HL
      go_wp2_with (at_builtin; refine wpList_append_own_at _ rfl _ _ 77 rfl w.heap.size 53 i0 _ 2 16 Tryz.underlying77 hi0 hz0 hz1 hz2 rfl (by decide) _ _ _ rfl (HQ.out.row.alloc _) ⟨wr.heap.size, 0, none⟩ 1 1 [.int .i64 (f : Int), .int .i64 (i : Int)] rfl rfl (World.news_of_block (World.alloc_heap_new wr _)) (by simp [Value.oneCell']) (by unfold maxLen; omega) (by omega) (by have := HQ.out.bel.size; simp; omega) ?_; intro v' w6 hown' hgrow _ hob; have HF : Hid (w6.ownsRow w.heap.size 53 2 v' (zs ++ [(f, i)]).length (spl (zs ++ [(f, i)])) ∧ Below w.heap.size w w6) := HQ.out.app (p := (f, i)) hown' hgrow; clear hown' hgrow hob)
      go_ret
      have := HQ.out.ext HB.out
      rw [show lend s f none = i from HN.out] at this
      exact ⟨_, _, rfl, this, HF.out.1, HF.out.2⟩
/-- a slice that reads as spans -/
def RdY (W : World) (v : Value) (ys : List (Nat × Nat)) : Prop :=
  ∃ g cap, v = .slice (some ⟨g, 0, none⟩) ys.length cap ∧ g < W.heap.size ∧ ∀ (k : Nat) (x : Nat × Nat), ys[k]? = some x → W.cell? ⟨g, k * 2, none⟩ = some (.int .i64 (x.1 : Int)) ∧ W.cell? ⟨g, k * 2 + 1, none⟩ = some (.int .i64 (x.2 : Int))
theorem RdY.below {W W' : World} {v : Value} {ys : List (Nat × Nat)} (h : RdY W v ys) (hb : Below W.heap.size W W') : RdY W' v ys := by
  obtain ⟨g, cap, rfl, hg, hc⟩ := h
  refine ⟨g, cap, rfl, Nat.lt_of_lt_of_le hg hb.size, fun k x hk => ?_⟩
  obtain ⟨e0, e1⟩ := hc k x hk
  exact ⟨(hb.cell (p := ⟨g, k * 2, none⟩) hg).trans e0, (hb.cell (p := ⟨g, k * 2 + 1, none⟩) hg).trans e1⟩
theorem spl_len : ∀ l : List (Nat × Nat), (spl l).length = l.length * 2
  | [] => rfl
  | x :: l => by
    have e : spl (x :: l) = [.int .i64 (x.1 : Int), .int .i64 (x.2 : Int)] ++ spl l := by simp [spl]
    rw [e, List.length_append, spl_len l]; simp; omega
theorem RdY.of_row {W : World} {base : Nat} {v : Value} {ys : List (Nat × Nat)} (h : W.ownsRow base 53 2 v ys.length (spl ys)) (hne : ys ≠ []) : RdY W v ys := by
  rcases h.2 with ⟨h0, h1⟩ | ⟨g, cap, cur, hv, _⟩
  · exact absurd (List.length_eq_zero_iff.1 h1) hne
  · subst hv
    refine ⟨g, cap, rfl, (h.lt g rfl).2, fun k x hk => ?_⟩
    have hkl : k < ys.length := (List.getElem?_eq_some_iff.1 hk).1
    have hl := spl_len ys
    obtain ⟨e0, e1⟩ := spl_get hk
    exact ⟨(h.cellAt (k * 2) (by omega)).trans e0, (h.cellAt (k * 2 + 1) (by omega)).trans e1⟩
theorem rlines_rd {s : ByteArray} (hs : s.size ≤ 1073741824) {ys : List (Nat × Nat)} (hy : Lns s 0 ys none) (w : World) : Calls Tryz.prog 63 #[.string s] w fun e W' => ∃ (g cap : Nat), e = .returned (.slice (some ⟨g, 0, none⟩) ys.length cap) ∧ RdY W' (.slice (some ⟨g, 0, none⟩) ys.length cap) ys ∧ Below w.heap.size w W' :=
  (rlines_any s hs w).mono fun e W' ⟨v, zs, q1, q2, q3, q4⟩ => by
    cases q2.uniq hy
    have h := RdY.of_row q3 hy.ne
    obtain ⟨g, cap, rfl, h2⟩ := h
    exact ⟨g, cap, q1, ⟨g, cap, rfl, h2⟩, q4⟩
set_option maxRecDepth 100000 in
set_option maxHeartbeats 1000000 in
theorem rcount_any (s : ByteArray) (hs : s.size ≤ 1073741824) (w : World) : Calls Tryz.prog 62 #[.string s] w fun e W' => e = .returned (.int .i64 ((cn s 0 s.size : Int) + 1)) ∧ Below w.heap.size w W' := by
  obtain ⟨ys, hy⟩ := lns_ex s
  have hl := hy.num'.2.2 rfl
  have CL : Hid (Calls Tryz.prog 63 #[.string s] w fun e W' => ∃ (g cap : Nat), e = .returned (.slice (some ⟨g, 0, none⟩) ys.length cap) ∧ Hid (Below w.heap.size w W')) := (rlines_rd hs hy w).mono fun e W' ⟨g, cap, q1, _, q3⟩ => ⟨g, cap, q1, q3⟩
  rw [show (cn s 0 s.size : Int) + 1 = (ys.length : Nat) by omega]
  clear hl hy
  go_enter Tryz.func62, Tryz.ntmps62
  go_wp2_with (go_at_call 63; refine CL.out.mono ?_; clear CL; rintro e w1 ⟨g, cap, rfl, H⟩)
  go_ret
  exact ⟨rfl, H.out⟩
set_option maxRecDepth 100000 in
set_option maxHeartbeats 1000000 in
theorem rof_any (s : ByteArray) (hs : s.size ≤ 1073741824) (a : Int) (w : World) : Calls Tryz.prog 29 #[.string s, .int .i64 a] w fun e W' => e = .returned (ofv s a) ∧ Below w.heap.size w W' := by
  unfold ofv
  by_cases hc : 0 ≤ a ∧ a ≤ s.size
  · obtain ⟨m, rfl⟩ := Int.eq_ofNat_of_zero_le hc.1
    have hm : m ≤ s.size := by omega
    rw [if_pos hc, if_pos hc, Int.toNat_natCast]
    have CC : Hid (Calls Tryz.prog 62 #[.string (s.extract 0 m)] w fun e W' => e = .returned (.int .i64 ((cn s 0 m : Int) + 1)) ∧ Hid (Below w.heap.size w W')) := by
      have := rcount_any (s.extract 0 m) (by rw [size_extract s 0 m hm]; omega) w
      rw [cn_pre hm] at this
      exact this
    have hz : cn s 0 m ≤ 1073741824 := by have := cn_le (s := s) (a := 0) (c := m) hm; omega
    generalize cn s 0 m = z at CC hz ⊢
    go_enter Tryz.func29, Tryz.ntmps29
    go_wp2_with (go_at_call 62; refine CC.out.mono ?_; clear CC; rintro e w1 ⟨rfl, H⟩)
    refine bodyPost_ret (v := .tuple #[.int .i64 z, .int .i64 0]) (by simp [results, Tryz.results29, go_sem]) rfl ⟨rfl, H.out⟩
  · rw [if_neg hc, if_neg hc]
    by_cases h1 : a < 0
    · clear hc
      go_enter Tryz.func29, Tryz.ntmps29
      go_wp2
      exact bodyPost_ret (v := .tuple #[.int .i64 0, .int .i64 1]) (by simp [results, Tryz.results29, go_sem]) rfl ⟨rfl, Below.refl _ _⟩
    · have h2 : (s.size : Int) < a := by omega
      clear hc
      go_enter Tryz.func29, Tryz.ntmps29
      go_wp2
      exact bodyPost_ret (v := .tuple #[.int .i64 0, .int .i64 1]) (by simp [results, Tryz.results29, go_sem]) rfl ⟨rfl, Below.refl _ _⟩
set_option maxRecDepth 100000 in
set_option maxHeartbeats 2000000 in
theorem rspan_any (s : ByteArray) (hs : s.size ≤ 1073741824) (l : Int) {o : Option (Nat × Nat)} (ho : IsS s l o) (w : World) : Calls Tryz.prog 30 #[.string s, .int .i64 l] w fun e W' => e = .returned (spa o) ∧ Below w.heap.size w W' := by
  obtain ⟨ys, hy⟩ := lns_ex s
  have he := ho.uniq (hy.isS l)
  have hyl : ys.length ≤ 1073741825 := by have := hy.len.1; omega
  obtain ⟨W0, hW0⟩ : ∃ W0, w.alloc (.cells #[.int .i64 0, .int .i64 0] 53) = W0 := ⟨_, rfl⟩
  have HR : Hid (Rb w 0 0 W0) := by show Rb _ _ _ _; rw [← hW0]; exact ⟨(Below.refl _ w).alloc (Nat.le_refl _) _, World.alloc_heap_new _ _⟩
  have CL : Hid (Calls Tryz.prog 63 #[.string s] W0 fun e W' => ∃ (g cap : Nat), e = .returned (.slice (some ⟨g, 0, none⟩) ys.length cap) ∧ Hid (RdY W' (.slice (some ⟨g, 0, none⟩) ys.length cap) ys ∧ Rb w 0 0 W')) := (rlines_rd hs hy W0).mono fun e W' ⟨g, cap, q1, q2, q3⟩ => ⟨g, cap, q1, q2, HR.out.below q3⟩
  have HG : Hid (∀ g cap W (k : Nat) (x : Nat × Nat), RdY W (.slice (some ⟨g, 0, none⟩) ys.length cap) ys → ys[k]? = some x → W.cell? ⟨g, k * 2, none⟩ = some (.int .i64 (x.1 : Int)) ∧ W.cell? ⟨g, k * 2 + 1, none⟩ = some (.int .i64 (x.2 : Int))) := fun g cap W k x h hk => by
    obtain ⟨g', cap', e, _, hc⟩ := h
    cases e
    exact hc k x hk
  have HRa : Hid (∀ W, Rb w 0 0 W → W.cell? ⟨w.heap.size, 0, none⟩ = some (.int .i64 0) ∧ W.cell? ⟨w.heap.size, 1, none⟩ = some (.int .i64 0) ∧ W.frozen? ⟨w.heap.size, 0, none⟩ = false ∧ W.frozen? ⟨w.heap.size, 1, none⟩ = false ∧ w.heap.size < W.heap.size) := fun W h => h.get
  clear HR ho hy hs
  unfold spa
  by_cases h1 : l < 0
  · rw [if_neg (by omega)] at he
    subst he
    go_enter Tryz.func30, Tryz.ntmps30
    go_wp2_with (go_at_call 63; refine CL.out.mono ?_; clear CL hW0; rintro e w1 ⟨g, cap, rfl, H⟩; obtain ⟨z0, z1, z2, z3, z4⟩ := HRa.out _ H.out.2)
    have hS := H.out.2.set 0 0
    obtain ⟨y0, y1, -⟩ := hS.get
    exact bodyPost_ret (v := .tuple #[.agg #[.int .i64 0, .int .i64 0], .int .i64 1]) (by simp [results, Tryz.results30, go_sem, y0, y1]) rfl ⟨rfl, hS.bel⟩
  · rw [if_pos (by omega)] at he
    obtain ⟨k, rfl⟩ := Int.eq_ofNat_of_zero_le (show 0 ≤ l by omega)
    rw [Int.toNat_natCast] at he
    by_cases h2 : k < ys.length
    · obtain ⟨⟨x, y⟩, hx⟩ : ∃ x, ys[k]? = some x := ⟨_, List.getElem?_eq_getElem h2⟩
      rw [hx] at he
      subst he
      have HX : Hid (ys[k]? = some (x, y)) := hx
      clear hx
      go_enter Tryz.func30, Tryz.ntmps30
      go_wp2_with (go_at_call 63; refine CL.out.mono ?_; clear CL hW0; rintro e w1 ⟨g, cap, rfl, H⟩; obtain ⟨z0, z1, z2, z3, z4⟩ := HRa.out _ H.out.2; obtain ⟨v0, v1⟩ := HG.out _ _ _ _ _ H.out.1 HX.out)
      have hS := H.out.2.set x y
      obtain ⟨y0, y1, -⟩ := hS.get
      exact bodyPost_ret (v := .tuple #[.agg #[.int .i64 x, .int .i64 y], .int .i64 0]) (by simp [results, Tryz.results30, go_sem, y0, y1]) rfl ⟨rfl, hS.bel⟩
    · rw [List.getElem?_eq_none (by omega)] at he
      subst he
      go_enter Tryz.func30, Tryz.ntmps30
      go_wp2_with (go_at_call 63; refine CL.out.mono ?_; clear CL hW0; rintro e w1 ⟨g, cap, rfl, H⟩; obtain ⟨z0, z1, z2, z3, z4⟩ := HRa.out _ H.out.2)
      have hS := H.out.2.set 0 0
      obtain ⟨y0, y1, -⟩ := hS.get
      exact bodyPost_ret (v := .tuple #[.agg #[.int .i64 0, .int .i64 0], .int .i64 1]) (by simp [results, Tryz.results30, go_sem, y0, y1]) rfl ⟨rfl, hS.bel⟩
end Go.Proofs.YtdggbnkhbmffoaaGreatDoor
