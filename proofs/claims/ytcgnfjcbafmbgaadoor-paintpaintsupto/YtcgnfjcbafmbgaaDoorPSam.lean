/-
  The law's own comparison of frames, of two that are one: it says so. Conditions: those of Fs.
-/
import Derived.Test.YtcgnfjcbafmbgaaDoorPNxt
namespace Go.Proofs.YtcgnfjcbafmbgaaDoor
open Go.RowKit Go.Shelf Bod Wid
theorem RdCe.later {w : World} {b : Option Addr} {q m : Nat} {l : List Cel} (h : RdCe w (.slice b q m) l) : ∀ (k : Nat) x, l[k]? = some x → ∃ g o, b = some ⟨g, o, none⟩ ∧ ∀ Y, Below w.heap.size w Y → Y.cell? ⟨g, o + k * 2, none⟩ = some (.string x.tx) ∧ Y.cell? ⟨g, o + k * 2 + 1, none⟩ = some (.int .i64 x.sp) := fun k x hx => by
  obtain ⟨a', k', e, hc⟩ := h.get
  injection e with e1 e2 e3
  subst e1
  obtain ⟨g, o, e, c0, c1⟩ := hc k x hx
  exact ⟨g, o, e, fun Y hY => ⟨(hY.cell (p := ⟨g, o + k * 2, none⟩) (World.block_lt_of_cell? w _ c0)).trans c0, (hY.cell (p := ⟨g, o + k * 2 + 1, none⟩) (World.block_lt_of_cell? w _ c1)).trans c1⟩⟩
set_option maxRecDepth 100000 in
set_option maxHeartbeats 4000000 in
theorem same_yes (v1 v2 : Value) (f : Fm) (hf : Fs f) (w : World) (h1 : RdFm w v1 f) (h2 : RdFm w v2 f) :
    Calls Tryd.prog 19 #[v1, v2] w fun e w' => e = .returned (.bool true) ∧ Below w.heap.size w w' := by
  have HM : Hid (Tryd.prog.follows .mixedOrders = true) := by show _ = _; kernel_rfl
  obtain ⟨rv1, rfl, hr1⟩ := h1
  obtain ⟨sa, sk, rfl, -⟩ := hr1.get
  obtain ⟨rv2, rfl, hr2⟩ := h2
  obtain ⟨a, k, rfl, -⟩ := hr2.get
  obtain ⟨fw, R, fr, fc⟩ := f
  simp only at hr1 hr2 hf ⊢
  have HS : Hid (RwL w sa R) := hr1.later (Below.refl _ _)
  have HR : Hid (RwL w a R) := hr2.later (Below.refl _ _)
  obtain ⟨n, hn⟩ : ∃ n, R.length = n := ⟨_, rfl⟩
  have HN : Hid (R.length = n ∧ n ≤ 2147483648 ∧ ∀ l ∈ R, l.length ≤ 2147483648) := ⟨hn, by rw [← hn]; exact hf.1, fun l hl => (hf.2 l hl).1⟩
  rw [hn]
  clear hn hr1 hr2 hf
  have hpl : ∀ W, (binOp .neq 24 (.agg #[.int .i64 fr, .int .i64 fc]) (.agg #[.int .i64 fr, .int .i64 fc])).run Tryd.prog W = .ok (.bool false) W := fun W => by
    have := pl_neq fr fc fr fc W
    simpa using this
  have H0 : Hid (Bx2 w (.cells #[.int .i64 fw, .slice sa n sk, .int .i64 fr, .int .i64 fc] 26 (0, 0)) (.cells #[.int .i64 fw, .slice a n k, .int .i64 fr, .int .i64 fc] 26 (0, 0)) ((w.alloc (.cells #[.int .i64 fw, .slice sa n sk, .int .i64 fr, .int .i64 fc] 26)).alloc (.cells #[.int .i64 fw, .slice a n k, .int .i64 fr, .int .i64 fc] 26))) := box_two _ _
  go_enter Tryd.func19, Tryd.ntmps19
  go_wp2
  clear hpl
  go_loopw [5] (fun t wr => ∃ i : Nat, i ≤ n ∧ t = .int .i64 i ∧ Hid (Bx2 w (.cells #[.int .i64 fw, .slice sa n sk, .int .i64 fr, .int .i64 fc] 26 (0, 0)) (.cells #[.int .i64 fw, .slice a n k, .int .i64 fr, .int .i64 fc] 26 (0, 0)) wr)) (fun t _ => n - (intOf t).toNat)
  case atStart => exact ⟨0, Nat.zero_le _, rfl, H0.out⟩
  case round =>
    clear H0
    obtain ⟨i, hi, rfl, HB⟩ := hrel
    obtain ⟨⟨z0, z1, z2, z3⟩, -⟩ := box4 HB.out.2.1
    obtain ⟨⟨x0, x1, x2, x3⟩, -⟩ := box4 HB.out.2.2
    by_cases hlt : i < n
    · obtain ⟨l, hl⟩ : ∃ l, R[i]? = some l := ⟨R[i]'(by rw [HN.out.1]; exact hlt), List.getElem?_eq_getElem _⟩
      obtain ⟨g1, o1, b1, m1, rfl, hy1, hrd1⟩ := HS.out i l hl
      obtain ⟨g2, o2, b2, m2, rfl, hy2, hrd2⟩ := HR.out i l hl
      have hlt' : (i : Int) < (n : Int) := by omega
      have HLT : Hid (i < n ∧ n ≤ 2147483648) := ⟨hlt, HN.out.2.1⟩
      have hll := HN.out.2.2 l (List.mem_of_getElem? hl)
      have hc1 := hrd1.later
      have hc2 := hrd2.later
      obtain ⟨q, hq⟩ : ∃ q, l.length = q := ⟨_, rfl⟩
      rw [hq] at hy1 hy2 hll
      have HQ : Hid (l.length = q ∧ q ≤ 2147483648) := ⟨hq, hll⟩
      have HC1 : Hid (∀ (k : Nat) x, l[k]? = some x → ∃ g o, b1 = some ⟨g, o, none⟩ ∧ ∀ Y, Below w.heap.size w Y → Y.cell? ⟨g, o + k * 2, none⟩ = some (.string x.tx) ∧ Y.cell? ⟨g, o + k * 2 + 1, none⟩ = some (.int .i64 x.sp)) := hc1
      have HC2 : Hid (∀ (k : Nat) x, l[k]? = some x → ∃ g o, b2 = some ⟨g, o, none⟩ ∧ ∀ Y, Below w.heap.size w Y → Y.cell? ⟨g, o + k * 2, none⟩ = some (.string x.tx) ∧ Y.cell? ⟨g, o + k * 2 + 1, none⟩ = some (.int .i64 x.sp)) := hc2
      have HY : Hid (∀ Y, Below w.heap.size w Y → Y.cell? ⟨g1, o1 + i, none⟩ = some (.slice b1 q m1) ∧ Y.cell? ⟨g2, o2 + i, none⟩ = some (.slice b2 q m2)) := fun Y hY => ⟨hy1 Y hY, hy2 Y hY⟩
      obtain ⟨y1, y2⟩ := HY.out wr HB.out.1
      have p1 := cell_rgP z1
      have q1 := cell_rgP x1
      have p2 := cell_rgP y1
      have q2 := cell_rgP y2
      have HF0 : Hid (∀ dq osq, Bx2 w (.cells #[.int .i64 fw, .slice (some ⟨g1, o1, none⟩) n sk, .int .i64 fr, .int .i64 fc] 26 (0, 0)) (.cells #[.int .i64 fw, .slice (some ⟨g2, o2, none⟩) n k, .int .i64 fr, .int .i64 fc] 26 (0, 0)) (Go.Sort.grow (redrawn wr dq) osq)) := fun dq osq => Bx2.next HB.out (below_regrown _ dq osq)
      clear hy1 hy2 hrd1 hrd2 hc1 hc2 hq hll hl hlt HS HR y1 y2 x0 x2 x3 z0 z2 z3
      go_wp2
      clear x1 z1
      refine wp_region_quiet_below HM.out (by kernel_rfl) ?_
      repeat (go_big_quiet_step (fail))
      refine wpQuiet_nil ?_
      intro _ hw'
      obtain ⟨⟨dq, osq⟩, hw''⟩ := hw'
      subst hw''
      have HF : Hid (Bx2 w _ _ _) := HF0.out dq osq
      dsimp only
      generalize Go.Sort.grow (redrawn wr dq) osq = wz at HF ⊢
      clear p1 q1 p2 q2 HF0 HB
      go_wp2
      go_loopw [6] (fun t wr => ∃ j : Nat, j ≤ q ∧ t = .int .i64 j ∧ Hid (Bx2 w (.cells #[.int .i64 fw, .slice (some ⟨g1, o1, none⟩) n sk, .int .i64 fr, .int .i64 fc] 26 (0, 0)) (.cells #[.int .i64 fw, .slice (some ⟨g2, o2, none⟩) n k, .int .i64 fr, .int .i64 fc] 26 (0, 0)) wr)) (fun t _ => q - (intOf t).toNat)
      case atStart => exact ⟨0, Nat.zero_le _, rfl, HF.out⟩
      case round =>
        clear HF
        obtain ⟨j, hj, rfl, HB⟩ := hrel
        obtain ⟨⟨z0, z1, z2, z3⟩, -⟩ := box4 HB.out.2.1
        obtain ⟨⟨x0, x1, x2, x3⟩, -⟩ := box4 HB.out.2.2
        obtain ⟨y1, y2⟩ := HY.out wr HB.out.1
        clear x0 x2 x3 z0 z2 z3
        by_cases hjt : j < q
        · obtain ⟨c, hc⟩ : ∃ c, l[j]? = some c := ⟨l[j]'(by rw [HQ.out.1]; exact hjt), List.getElem?_eq_getElem _⟩
          obtain ⟨g3, o3, rfl, hu1⟩ := HC1.out j c hc
          obtain ⟨g4, o4, rfl, hu2⟩ := HC2.out j c hc
          obtain ⟨u1, u2⟩ := hu1 wr HB.out.1
          obtain ⟨u3, u4⟩ := hu2 wr HB.out.1
          have hjt' : (j : Int) < (q : Int) := by omega
          have HJT : Hid (j < q ∧ q ≤ 2147483648) := ⟨hjt, HQ.out.2⟩
          have hn1 := cel_apart c.tx c.tx c.sp c.sp
          simp only [decide_true, Bool.and_self, Bool.not_true] at hn1
          have p1 := cell_rgP z1
          have q1 := cell_rgP x1
          have p2 := cell_rgP y1
          have q2 := cell_rgP y2
          have s1 := cell_rgP u1
          have s2 := cell_rgP u2
          have s3 := cell_rgP u3
          have s4 := cell_rgP u4
          have HF0 : Hid (∀ dq osq, Bx2 w (.cells #[.int .i64 fw, .slice (some ⟨g1, o1, none⟩) n sk, .int .i64 fr, .int .i64 fc] 26 (0, 0)) (.cells #[.int .i64 fw, .slice (some ⟨g2, o2, none⟩) n k, .int .i64 fr, .int .i64 fc] 26 (0, 0)) (Go.Sort.grow (redrawn wr dq) osq)) := fun dq osq => Bx2.next HB.out (below_regrown _ dq osq)
          obtain ⟨t, ht⟩ : ∃ t, c.tx = t := ⟨_, rfl⟩
          obtain ⟨sp, hsp⟩ : ∃ sp, c.sp = sp := ⟨_, rfl⟩
          rw [ht] at hn1 s1 s3
          rw [hsp] at hn1 s2 s4
          clear ht hsp hc hu1 hu2 u1 u2 u3 u4 hjt HC1 HC2 HY
          go_wp2
          clear x1 z1 y1 y2
          refine wp_region_quiet_below HM.out (by kernel_rfl) ?_
          repeat (go_big_quiet_step (fail))
          refine wpQuiet_nil ?_
          intro _ hw'
          obtain ⟨⟨dq, osq⟩, hw''⟩ := hw'
          subst hw''
          have HF : Hid (Bx2 w _ _ _) := HF0.out dq osq
          dsimp only
          generalize Go.Sort.grow (redrawn wr dq) osq = wy at HF ⊢
          clear p1 q1 p2 q2 s1 s2 s3 s4 HF0 hn1
          go_wp2
          exact ⟨⟨j + 1, by have := HJT.out; omega, by first | rw [w64t (by have := HJT.out; omega)] | (simp; done), HF.out⟩, by have := HJT.out; first | (rw [w64t (by omega)]; simp [intOf]; omega) | (simp [intOf]; omega)⟩
        · obtain rfl : j = q := by omega
          have hd : ¬ (j : Int) < (j : Int) := by omega
          clear HC1 HC2 HY hjt
          go_wp2
          exact ⟨⟨i + 1, by have := HLT.out; omega, by first | rw [w64t (by have := HLT.out; omega)] | (simp; done), HB.out⟩, by have := HLT.out; first | (rw [w64t (by omega)]; simp [intOf]; omega) | (simp [intOf]; omega)⟩
    · obtain rfl : i = n := by omega
      have hd : ¬ (i : Int) < (i : Int) := by omega
      clear HS HR
      go_wp2
      go_ret
      exact ⟨rfl, HB.out.1⟩
end Go.Proofs.YtcgnfjcbafmbgaaDoor
