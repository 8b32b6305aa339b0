/-
  The document's own layer 21: Full: the same bytes. Conditions: those of Fr; the frame's texts hold together at most 2^40.
-/
import Derived.Test.YtcgnfjcbafmbgaaDoorPRfi
import Derived.Test.YtcgnfjcbafmbgaaDoorPRrw
import Derived.Test.YtcgnfjcbafmbgaaDoorPRgo
import Derived.Test.YtcgnfjcbafmbgaaDoorPNxt
import Derived.Lib.SlBytesConst
import Derived.Lib.SmallJoins
import Derived.Lib.AppendZeros
namespace Go.Proofs.YtcgnfjcbafmbgaaDoor
open Go.RowKit Go.Shelf Bod Wid
/-- a row of bytes of the call's own -/
def Ob (w : World) (v : Value) (out : List UInt8) (W : World) : Prop := W.ownsRow w.heap.size 5 1 v out.length (Lib.byteCells out) ∧ Below w.heap.size w W
theorem Ob.next {w W W' : World} {v : Value} {out : List UInt8} (h : Ob w v out W) (hb : Below W.heap.size W W') : Ob w v out W' :=
  ⟨⟨h.1.1, h.1.2.imp id fun ⟨g, cap, cur, h1, h2, h3, h4⟩ => ⟨g, cap, cur, h1, h2, (hb.block g (Array.getElem?_eq_some_iff.1 h3).1).trans h3, h4⟩⟩, h.2.trans (hb.mono h.2.size)⟩
theorem Ob.put {w W W' : World} {v v' : Value} {out : List UInt8} {t : ByteArray} (h : Ob w v out W) (hr : W'.ownsRow w.heap.size 5 1 v' (out.length + t.size) (Lib.byteCells out ++ Lib.strCells t)) (hg : W.grownBy W' v.ownBlock) : Ob w v' (out ++ t.data.toList) W' := by
  have hsz : t.data.toList.length = t.size := Array.length_toList
  refine ⟨?_, h.2.grown hg h.2.size (fun e he => (h.1.lt e he).1)⟩
  rw [List.length_append, hsz, Lib.byteCells_append, ← Lib.strCells_eq]
  exact hr
theorem Ob.put' {w W W' : World} {v v' : Value} {out t : List UInt8} (h : Ob w v out W) (hr : W'.ownsRow w.heap.size 5 1 v' (out.length + (⟨t.toArray⟩ : ByteArray).size) (Lib.byteCells out ++ Lib.strCells ⟨t.toArray⟩)) (hg : W.grownBy W' v.ownBlock) : Ob w v' (out ++ t) W' := by
  have := h.put hr hg
  simpa using this
theorem sz_of (t : List UInt8) : (⟨t.toArray⟩ : ByteArray).size = t.length := by show t.toArray.size = _; simp
theorem gotoL_pos (r c : Int) : 0 < (gotoL r c).length := by simp [gotoL]
theorem Ob.app {w W : World} {v : Value} {out : List UInt8} (h : Ob w v out W) (t : List UInt8) (hl : out.length + t.length ≤ 140737488355328) : ∃ v' W', (Builtin.append_ #[42, 9] 42 #[v, .string ⟨t.toArray⟩]).run Tryd.prog W = .ok v' W' ∧ Ob w v' (out ++ t) W' := by
  obtain ⟨i0, hi0, hz0, hz1, hz2⟩ := info_parts info5P
  obtain ⟨v', W', h1, h2, h3, -⟩ := Lib.run_append_own_string (P := Tryd.prog) W w.heap.size 42 9 42 5 i0 Tryd.underlying42 Tryd.underlying9 hi0 hz0 hz1 hz2 v out.length _ h.1 ⟨t.toArray⟩ (by rw [sz_of]; unfold maxLen; omega) (by rw [sz_of]; exact hl) h.2.size
  exact ⟨v', W', h1, h.put' h2 h3⟩
def hdrC : Array Value := #[.int .u8 27, .int .u8 91, .int .u8 109, .int .u8 27, .int .u8 91, .int .u8 72, .int .u8 27, .int .u8 91, .int .u8 74]
/-- the first bytes as a literal lays them (with the mark), or a row of the call's own -/
def Pb (w : World) (v : Value) (out : List UInt8) (W : World) : Prop := Ob w v out W ∨ (out = hdrL ∧ v = .slice (some ⟨w.heap.size, 0, none⟩) 9 9 ∧ Below w.heap.size w W ∧ W.heap[w.heap.size]? = some (.cells hdrC 5 (9, 10)))
theorem Pb.bel {w W : World} {v : Value} {out : List UInt8} (h : Pb w v out W) : Below w.heap.size w W := by
  rcases h with h | ⟨_, _, h, _⟩
  · exact h.2
  · exact h
theorem Pb.next {w W W' : World} {v : Value} {out : List UInt8} (h : Pb w v out W) (hb : Below W.heap.size W W') : Pb w v out W' := by
  rcases h with h | ⟨h1, h2, h3, h4⟩
  · exact .inl (h.next hb)
  · exact .inr ⟨h1, h2, h3.trans (hb.mono h3.size), (hb.block _ (Array.getElem?_eq_some_iff.1 h4).1).trans h4⟩
theorem hdr_own (W : World) : Pb W (.slice (some ⟨W.heap.size, 0, none⟩) 9 9) hdrL (W.alloc (.cells hdrC 5 (9, 10))) :=
  .inr ⟨rfl, rfl, (Below.refl _ W).alloc (Nat.le_refl _) _, World.alloc_heap_new _ _⟩
theorem Pb.app {w W : World} {v : Value} {out : List UInt8} (h : Pb w v out W) (t : List UInt8) (h0 : 0 < t.length) (hl : out.length + t.length ≤ 140737488355328) : ∃ v' W', (Builtin.append_ #[42, 9] 42 #[v, .string ⟨t.toArray⟩]).run Tryd.prog W = .ok v' W' ∧ Ob w v' (out ++ t) W' := by
  rcases h with h | ⟨rfl, rfl, hb, hc⟩
  · exact h.app t hl
  · obtain ⟨i0, hi0, hz0, hz1, hz2⟩ := info_parts info5P
    have h9 : hdrL.length = 9 := rfl
    rw [h9] at hl
    have hxl : (hdrC.toList).length = 9 * i0.size := by rw [hz1]; rfl
    have holds : ∀ j u, hdrC.toList[j]? = some u → W.cell? ((⟨w.heap.size, 0, none⟩ : Addr).add j) = some u := fun j u hu => by
      rw [show ((⟨w.heap.size, 0, none⟩ : Addr).add j) = ⟨w.heap.size, j, none⟩ by rw [Go.WideShapes.add_plain, Nat.zero_add]]
      have e : W.cell? ⟨w.heap.size, j, none⟩ = hdrC[j]? := by simp [World.cell?, hc]
      rw [e]
      simpa using hu
    have hr := Lib.run_append_grow_string (P := Tryd.prog) W 42 9 42 5 i0 (.int .u8 0) Tryd.underlying42 Tryd.underlying9 hi0 hz0 ⟨w.heap.size, 0, none⟩ 9 9 hdrC.toList hxl holds ⟨t.toArray⟩ (by rw [sz_of]; omega) (by rw [sz_of]; omega) (by rw [hz2, sz_of]; exact growslice_fits (by omega) (by omega))
    rw [sz_of] at hr
    have hge := grownCap_ge W (9 + t.length) 9 5
    have hcm2 : grownCap W (9 + t.length) 9 5 ≤ maxLen := grownCap_le_maxLen W (9 + t.length) 9 5 (by unfold maxLen; omega)
    refine ⟨_, _, hr, ⟨?_, .inr ⟨W.heap.size, _, _, ?_, hb.size, World.alloc_heap_new _ _, ?_, hcm2, ?_, ?_⟩⟩, ?_⟩
    · rw [Lib.byteCells_length]; simp
    · rw [List.length_append, h9]
    · rw [List.length_append, h9]; exact hge
    · have hz1' : (Value.int IntKind.u8 0).cells.size = 1 := rfl
      have hcs : hdrC.toList.toArray.size = 9 := rfl
      simp only [Array.size_append, List.size_toArray, size_zeroCells, hz1', Lib.strCells_length, sz_of]
      have : hdrC.toList.length = 9 := rfl
      omega
    · simp only [Array.toList_append, List.append_assoc]
      rw [← List.append_assoc, Lib.byteCells_append]
      have e1 : Lib.byteCells hdrL = hdrC.toList := rfl
      have e2 : Lib.strCells ⟨t.toArray⟩ = Lib.byteCells t := by rw [Lib.strCells_eq]
      rw [e1, e2]
      have e3 : (hdrC.toList ++ Lib.byteCells t).length = (hdrL ++ t).length * 1 := by rw [List.length_append, List.length_append, Lib.byteCells_length, Nat.mul_one]; rfl
      rw [← e3]
      exact List.take_left
    · exact hb.trans (((Below.refl _ W).drew).alloc hb.size _)
set_option maxRecDepth 100000 in
set_option maxHeartbeats 2000000 in
theorem rfull_any (v : Value) (f : Fm) (hf : Fr f) (hz : fwt f ≤ 1099511627776) (w : World) (h : RdFm w v f) :
    Calls Tryd.prog 16 #[v] w fun e w' => e = .returned (.string ⟨(fullL f).toArray⟩) ∧ Below w.heap.size w w' := by
  obtain ⟨i0, hi0, hz0, hz1, hz2⟩ := info_parts info5P
  have hfl : fullL f = if fitF f then hdrL ++ fulL 0 f.rows ++ gotoL f.r f.c else [] := rfl
  obtain ⟨rv, rfl, hr⟩ := id h
  obtain ⟨a, k, rfl, -⟩ := hr.get
  obtain ⟨fw, R, fr, fc⟩ := f
  simp only at h hr hf hfl hz ⊢
  obtain ⟨n, hn⟩ : ∃ n, R.length = n := ⟨_, rfl⟩
  rw [hn] at h hr ⊢
  have H0 : Hid (Below w.heap.size w (w.alloc (.cells #[.int .i64 fw, .slice a n k, .int .i64 fr, .int .i64 fc] 26)) ∧ (w.alloc (.cells #[.int .i64 fw, .slice a n k, .int .i64 fr, .int .i64 fc] 26)).heap[w.heap.size]? = some (.cells #[.int .i64 fw, .slice a n k, .int .i64 fr, .int .i64 fc] 26 (0, 0))) := ⟨(Below.refl _ w).alloc (Nat.le_refl _) _, World.alloc_heap_new _ _⟩
  have CF : Hid (Calls Tryd.prog 11 #[.agg #[.int .i64 fw, .slice a n k, .int .i64 fr, .int .i64 fc]] (w.alloc (.cells #[.int .i64 fw, .slice a n k, .int .i64 fr, .int .i64 fc] 26)) fun e w' => e = .returned (.bool (fitF ⟨fw, R, fr, fc⟩)) ∧ Hid (Below (w.alloc (.cells #[.int .i64 fw, .slice a n k, .int .i64 fr, .int .i64 fc] 26)).heap.size (w.alloc (.cells #[.int .i64 fw, .slice a n k, .int .i64 fr, .int .i64 fc] 26)) w')) := rfit_any _ ⟨fw, R, fr, fc⟩ hf _ (h.below (Nat.le_refl _) H0.out.1)
  have HX : Hid (∀ X Y : World, Below w.heap.size w X ∧ X.heap[w.heap.size]? = some (.cells #[.int .i64 fw, .slice a n k, .int .i64 fr, .int .i64 fc] 26 (0, 0)) → Below X.heap.size X Y → Below w.heap.size w Y ∧ Y.heap[w.heap.size]? = some (.cells #[.int .i64 fw, .slice a n k, .int .i64 fr, .int .i64 fc] 26 (0, 0))) := fun X Y hX hY => ⟨hX.1.trans (hY.mono hX.1.size), (hY.block _ (Array.getElem?_eq_some_iff.1 hX.2).1).trans hX.2⟩
  cases hft : fitF ⟨fw, R, fr, fc⟩ with
  | false =>
    rw [hft] at CF hfl
    rw [hfl]
    clear hfl hft h hr hf hz
    go_enter Tryd.func16, Tryd.ntmps16
    go_wp2_with (go_at_call 11; refine CF.out.mono ?_; clear CF; rintro e w1 ⟨rfl, HB1⟩)
    go_ret
    exact ⟨rfl, (HX.out _ _ H0.out HB1.out).1⟩
  | true =>
    rw [hft] at CF hfl
    rw [if_pos rfl] at hfl
    rw [hfl]
    have HRW : Hid (∀ w1, Below w.heap.size w w1 → RwL w1 a R) := fun w1 hb => hr.later hb
    have HN : Hid (R.length = n ∧ n ≤ 2147483648 ∧ (∀ l ∈ R, l.length ≤ 2147483648) ∧ (∀ j, (hdrL ++ fulL 0 (R.take j)).length ≤ 53876069761024 + 9) ∧ ∀ l ∈ R, (rowL l).length ≤ 1099511627776) := by
      refine ⟨hn, by rw [← hn]; exact hf.1, fun l hl => (hf.2 l hl).1, fun j => ?_, fun l hl => ?_⟩
      · have h1 := fulL_len 0 (R.take j)
        have h2 := take_wt R j
        unfold fwt at hz
        simp only at hz
        rw [List.length_append]
        have : hdrL.length = 9 := rfl
        omega
      · have h1 := rowL_wt l
        have h2 := fwt_mem (f := ⟨fw, R, fr, fc⟩) hl
        omega
    clear hfl hft h hr hf hz hn
    go_enter Tryd.func16, Tryd.ntmps16
    go_upto_region 3 with (go_at_call 11; refine CF.out.mono ?_; clear CF; rintro e w1 ⟨rfl, HB1⟩; have HX1 := HX.out _ _ H0.out HB1.out; replace HX1 : Hid _ := HX1)
    have HV : Hid (∀ Y, Below w1.heap.size w1 Y → Below w.heap.size w Y ∧ Y.heap[w.heap.size]? = some (.cells #[.int .i64 fw, .slice a n k, .int .i64 fr, .int .i64 fc] 26 (0, 0))) := fun Y hY => HX.out _ _ HX1.out hY
    have HR : Hid (RwL w1 a R) := HRW.out w1 HX1.out.1
    have HO0 : Hid (Pb w1 _ hdrL _) := hdr_own w1
    have hcv := Lib.run_convert_bytes_const (P := Tryd.prog) w1 42 5 hdrC 9 9 Tryd.underlying42 Tryd.underlying5
    unfold hdrC at HO0 hcv
    clear HRW HX HX1 H0 HB1
    go_wp2
    clear hcv
    go_loopw [3, 4] (fun u t wr => ∃ j : Nat, j ≤ n ∧ t = .int .i64 j ∧ Hid (Pb w1 u (hdrL ++ fulL 0 (R.take j)) wr)) (fun _ t _ => n - (intOf t).toNat)
    case atStart => exact ⟨0, Nat.zero_le _, rfl, by rw [List.take_zero, fulL, List.append_nil]; exact HO0⟩
    case round =>
      clear HO0
      obtain ⟨j, hj, rfl, HB⟩ := hrel
      obtain ⟨⟨x0, x1, x2, x3⟩, -⟩ := box4 (HV.out wr HB.out.bel).2
      by_cases hlt : j < n
      · obtain ⟨l, hl⟩ : ∃ l, R[j]? = some l := ⟨R[j]'(by rw [HN.out.1]; exact hlt), List.getElem?_eq_getElem _⟩
        obtain ⟨g, o, b, m, rfl, hcell, hrd⟩ := HR.out j l hl
        have y0 := hcell wr HB.out.bel
        have hlt' : (j : Int) < (n : Int) := by omega
        have HLT : Hid (j < n ∧ n ≤ 2147483648) := ⟨hlt, HN.out.2.1⟩
        have HT : Hid (fulL 0 (R.take (j + 1)) = fulL 0 (R.take j) ++ fulP j l) := fulL_take hl
        have hmem := List.mem_of_getElem? hl
        obtain ⟨q, hq⟩ : ∃ q, l.length = q := ⟨_, rfl⟩
        rw [hq] at y0 hrd
        by_cases hq0 : q = 0
        · subst hq0
          have HE : Hid (∀ u W, Pb w1 u (hdrL ++ fulL 0 (R.take j)) W → Pb w1 u (hdrL ++ fulL 0 (R.take (j + 1))) W) := fun u W hW => by
            rw [HT.out, fulP, if_neg (by omega), List.append_nil]
            exact hW
          clear hcell hrd hmem hq hl hlt HR HT x2 x3
          go_wp2
          exact ⟨⟨j + 1, by have := HLT.out; omega, by first | rw [w64t (by have := HLT.out; omega)] | (simp; done), HE.out _ _ HB.out⟩, by have := HLT.out; first | (rw [w64t (by omega)]; simp [intOf]; omega) | (simp [intOf]; omega)⟩
        · have q1 : 0 < q := by omega
          have q2 : (0 : Int) < (q : Int) := by omega
          have q3 : (q : Int) > 0 := by omega
          have hz1' := HN.out.2.2.2.1 j
          have hz2' := HN.out.2.2.2.2 l hmem
          have hz3' := gotoL_len j 0
          have HE : Hid (∀ u W, Ob w1 u (hdrL ++ fulL 0 (R.take j) ++ gotoL j 0 ++ rowL l) W → Pb w1 u (hdrL ++ fulL 0 (R.take (j + 1))) W) := fun u W hW => by
            rw [HT.out, fulP, if_pos (by omega)]
            exact .inl (by simpa only [List.append_assoc] using hW)
          have CG : Hid (∀ W, Calls Tryd.prog 13 #[.agg #[.int .i64 j, .int .i64 0]] W fun e w' => e = .returned (.string ⟨(gotoL j 0).toArray⟩) ∧ Hid (Below W.heap.size W w')) := fun W => rgoto_any j 0 W
          have CR : Hid (∀ W, Below w1.heap.size w1 W → Calls Tryd.prog 9 #[.slice b q m] W fun e w' => e = .returned (.string ⟨(rowL l).toArray⟩) ∧ Hid (Below W.heap.size W w')) := fun W hW => rrw_any _ l (HN.out.2.2.1 l hmem) (by omega) W (hrd.below (Nat.le_refl _) hW)
          have HC : Hid (∀ W, Below w1.heap.size w1 W → W.cell? ⟨w.heap.size, 1, none⟩ = some (.slice (some ⟨g, o, none⟩) n k) ∧ W.cell? ⟨g, o + j, none⟩ = some (.slice b q m)) := fun W hW => by
            obtain ⟨⟨-, z1, -, -⟩, -⟩ := box4 (HV.out W hW).2
            have := hcell W hW
            rw [hq] at this
            exact ⟨z1, this⟩
          obtain ⟨lo, hlo⟩ : ∃ lo, hdrL ++ fulL 0 (R.take j) = lo := ⟨_, rfl⟩
          obtain ⟨lg, hlg⟩ : ∃ lg, gotoL j 0 = lg := ⟨_, rfl⟩
          obtain ⟨lr, hlr⟩ : ∃ lr, rowL l = lr := ⟨_, rfl⟩
          rw [hlo] at HB hz1' HE
          rw [hlg] at CG hz3' HE
          rw [hlr] at CR hz2' HE
          have HZ : Hid (lo.length + lg.length ≤ 140737488355328 ∧ (lo ++ lg).length + lr.length ≤ 140737488355328) := by
            show _ ∧ _
            rw [List.length_append]; constructor <;> omega
          have HZ0 : Hid (0 < lg.length) := by rw [← hlg]; exact gotoL_pos j 0
          clear hcell hrd hmem hq hl hlt HR HT hlo hlg hlr hz1' hz2' hz3' x2 x3
          go_wp2_with (first
            | (go_at_call 13; refine (CG.out _).mono ?_; clear CG; rintro e w2 ⟨rfl, HB2⟩; have HO2 : Hid (Pb w1 _ lo w2) := HB.out.next HB2.out; obtain ⟨v3, w3, hrun, hO3⟩ := HO2.out.app lg HZ0.out HZ.out.1; have HO3 : Hid (Ob w1 v3 (lo ++ lg) w3) := hO3; clear hO3)
            | (at_builtin; refine Lib.wpList_append_run _ rfl _ _ 42 9 rfl _ _ rfl rfl v3 w3 hrun ?_; clear hrun x0 x1 y0; obtain ⟨x1, y0⟩ := HC.out w3 HO3.out.2)
            | (go_at_call 9; refine (CR.out _ HO3.out.2).mono ?_; clear CR; rintro e w4 ⟨rfl, HB4⟩; have HO4 : Hid (Ob w1 v3 (lo ++ lg) w4) := HO3.out.next HB4.out; obtain ⟨v5, w5, hrun5, hO5⟩ := HO4.out.app lr HZ.out.2; have HO5 : Hid (Ob w1 v5 (lo ++ lg ++ lr) w5) := hO5; clear hO5)
            | (at_builtin; refine Lib.wpList_append_run _ rfl _ _ 42 9 rfl _ _ rfl rfl v5 w5 hrun5 ?_; clear hrun5))
          have HO6 : Hid (Pb w1 v5 (hdrL ++ fulL 0 (R.take (j + 1))) w5) := HE.out _ _ HO5.out
          exact ⟨⟨j + 1, by have := HLT.out; omega, by first | rw [w64t (by have := HLT.out; omega)] | (simp; done), HO6⟩, by have := HLT.out; first | (rw [w64t (by omega)]; simp [intOf]; omega) | (simp [intOf]; omega)⟩
      · obtain rfl : j = n := by omega
        have hf : R.take j = R := List.take_of_length_le (by have := HN.out.1; omega)
        have hd : ¬ (j : Int) < (j : Int) := by omega
        have hzj := HN.out.2.2.2.1 j
        rw [hf] at HB hzj
        have CG : Hid (∀ W, Calls Tryd.prog 13 #[.agg #[.int .i64 fr, .int .i64 fc]] W fun e w' => e = .returned (.string ⟨(gotoL fr fc).toArray⟩) ∧ Hid (Below W.heap.size W w')) := fun W => rgoto_any fr fc W
        have hzg := gotoL_len fr fc
        have HZ0 := gotoL_pos fr fc
        obtain ⟨lo, hlo⟩ : ∃ lo, hdrL ++ fulL 0 R = lo := ⟨_, rfl⟩
        obtain ⟨lg, hlg⟩ : ∃ lg, gotoL fr fc = lg := ⟨_, rfl⟩
        have HQ : Hid (hdrL ++ fulL 0 R = lo ∧ gotoL fr fc = lg) := ⟨hlo, hlg⟩
        rw [hlo] at HB hzj
        rw [hlg] at CG hzg HZ0
        replace HZ0 : Hid (0 < lg.length) := HZ0
        have HZ : Hid (lo.length + lg.length ≤ 140737488355328) := by show _ ≤ _; omega
        clear hf hzj hzg HR hlt hlo hlg
        go_wp2_with (first
          | (go_at_call 13; refine (CG.out _).mono ?_; clear CG x0 x1 x2 x3; rintro e w2 ⟨rfl, HB2⟩; have HO2 : Hid (Pb w1 _ lo w2) := HB.out.next HB2.out; obtain ⟨v3, w3, hrun, hO3⟩ := HO2.out.app lg HZ0.out HZ.out; have HO3 : Hid (Ob w1 v3 (lo ++ lg) w3) := hO3; clear hO3)
          | (at_builtin; refine Lib.wpList_append_run _ rfl _ _ 42 9 rfl _ _ rfl rfl v3 w3 hrun ?_; clear hrun; have hcv := conv_rowP HO3.out.1 rfl))
        go_ret
        rw [HQ.out.1, HQ.out.2]
        exact ⟨rfl, (HV.out _ HO3.out.2).1⟩
end Go.Proofs.YtcgnfjcbafmbgaaDoor
