/-
  Package paint, walked: Full. Conditions: the tables lie as their text lays them; a frame that fits the machine.
-/
import Derived.Test.YtcgnfjcbafmbgaaDoorPBld
namespace Go.Proofs.YtcgnfjcbafmbgaaDoor
open Go.RowKit Go.Shelf Bod Wid
theorem rowL_wt (l : List Cel) : (rowL l).length + 1 ≤ rwt l := by
  unfold rwt rowL
  induction l with
  | nil => simp
  | cons c l ih =>
    rw [List.flatMap_cons, List.length_append, List.map_cons, List.sum_cons]
    have e : c.tx.data.toList.length = c.tx.size := Array.length_toList
    omega
theorem fulP_len (i : Nat) (l : List Cel) : (fulP i l).length ≤ 49 * rwt l := by
  unfold fulP
  have h1 := gotoL_len i 0
  have h2 := rowL_wt l
  split
  · rw [List.length_append]; omega
  · simp
theorem fulL_len (i : Nat) (L : List (List Cel)) : (fulL i L).length ≤ 49 * (L.map rwt).sum := by
  induction L generalizing i with
  | nil => simp [fulL]
  | cons l L ih =>
    have := ih (i + 1)
    have h2 := fulP_len i l
    rw [fulL, List.length_append, List.map_cons, List.sum_cons]
    omega
theorem nxtP_len (W : Int) (S : List (List Cel)) (i : Nat) (l : List Cel) : (nxtP W S i l).length ≤ 49 * rwt l := by
  unfold nxtP
  have h1 := gotoL_len i 0
  have h2 := rowL_wt l
  split
  · simp
  · rw [List.length_append, List.length_append]
    split
    · simp only [List.length_cons, List.length_nil]; omega
    · simp only [List.length_nil]; omega
theorem nxtL_len (W : Int) (S : List (List Cel)) (i : Nat) (L : List (List Cel)) : (nxtL W S i L).length ≤ 49 * (L.map rwt).sum := by
  induction L generalizing i with
  | nil => simp [nxtL]
  | cons l L ih =>
    have := ih (i + 1)
    have h2 := nxtP_len W S i l
    rw [nxtL, List.length_append, List.map_cons, List.sum_cons]
    omega
theorem take_wt (L : List (List Cel)) (j : Nat) : ((L.take j).map rwt).sum ≤ (L.map rwt).sum := by
  have : L.map rwt = (L.take j).map rwt ++ (L.drop j).map rwt := by rw [← List.map_append, List.take_append_drop]
  rw [this, List.sum_append]
  omega
theorem fulL_take {L : List (List Cel)} {j : Nat} {l : List Cel} (h : L[j]? = some l) : fulL 0 (L.take (j + 1)) = fulL 0 (L.take j) ++ fulP j l := by
  have hl := (List.getElem?_eq_some_iff.1 h).1
  rw [List.take_add_one, h, Option.toList_some, fulL_snoc, List.length_take, Nat.min_eq_left (by omega), Nat.zero_add]
theorem nxtL_take {W : Int} {S L : List (List Cel)} {j : Nat} {l : List Cel} (h : L[j]? = some l) : nxtL W S 0 (L.take (j + 1)) = nxtL W S 0 (L.take j) ++ nxtP W S j l := by
  have hl := (List.getElem?_eq_some_iff.1 h).1
  rw [List.take_add_one, h, Option.toList_some, nxtL_snoc, List.length_take, Nat.min_eq_left (by omega), Nat.zero_add]
def hdrL : List UInt8 := [27, 91, 109, 27, 91, 72, 27, 91, 74]
set_option maxRecDepth 100000 in
set_option maxHeartbeats 2000000 in
theorem full_any (v : Value) (f : Fm) (hf : Fs f) (hz : fwt f ≤ 1099511627776) (w : World) (hw : Pw w) (h : RdFm w v f) :
    Calls Tryd.prog 15 #[v] w fun e w' => e = .returned (.string ⟨(fullL f).toArray⟩) ∧ Below w.heap.size w w' := by
  have hfl : fullL f = if fitF f then hdrL ++ fulL 0 f.rows ++ gotoL f.r f.c else [] := rfl
  obtain ⟨rv, rfl, hr⟩ := id h
  obtain ⟨a, k, rfl, -⟩ := hr.get
  obtain ⟨fw, R, fr, fc⟩ := f
  simp only at h hr hf hfl hz ⊢
  obtain ⟨n, hn⟩ : ∃ n, R.length = n := ⟨_, rfl⟩
  rw [hn] at h hr ⊢
  have H0 : Hid (Below w.heap.size w (w.alloc (.cells #[.int .i64 fw, .slice a n k, .int .i64 fr, .int .i64 fc] 26)) ∧ (w.alloc (.cells #[.int .i64 fw, .slice a n k, .int .i64 fr, .int .i64 fc] 26)).heap[w.heap.size]? = some (.cells #[.int .i64 fw, .slice a n k, .int .i64 fr, .int .i64 fc] 26 (0, 0))) := ⟨(Below.refl _ w).alloc (Nat.le_refl _) _, World.alloc_heap_new _ _⟩
  have CF : Hid (Calls Tryd.prog 10 #[.agg #[.int .i64 fw, .slice a n k, .int .i64 fr, .int .i64 fc]] (w.alloc (.cells #[.int .i64 fw, .slice a n k, .int .i64 fr, .int .i64 fc] 26)) fun e w' => e = .returned (.bool (fitF ⟨fw, R, fr, fc⟩)) ∧ Hid (Below (w.alloc (.cells #[.int .i64 fw, .slice a n k, .int .i64 fr, .int .i64 fc] 26)).heap.size (w.alloc (.cells #[.int .i64 fw, .slice a n k, .int .i64 fr, .int .i64 fc] 26)) w')) := fit_any _ ⟨fw, R, fr, fc⟩ hf _ (tabs_below hw.1 H0.out.1) (h.below (Nat.le_refl _) H0.out.1)
  have HX : Hid (∀ X Y : World, Below w.heap.size w X ∧ X.heap[w.heap.size]? = some (.cells #[.int .i64 fw, .slice a n k, .int .i64 fr, .int .i64 fc] 26 (0, 0)) → Below X.heap.size X Y → Below w.heap.size w Y ∧ Y.heap[w.heap.size]? = some (.cells #[.int .i64 fw, .slice a n k, .int .i64 fr, .int .i64 fc] 26 (0, 0))) := fun X Y hX hY => ⟨hX.1.trans (hY.mono hX.1.size), (hY.block _ (Array.getElem?_eq_some_iff.1 hX.2).1).trans hX.2⟩
  cases hft : fitF ⟨fw, R, fr, fc⟩ with
  | false =>
    rw [hft] at CF hfl
    rw [hfl]
    clear hfl hft h hr hf hz hw
    go_enter Tryd.func15, Tryd.ntmps15
    go_wp2_with (go_at_call 10; refine CF.out.mono ?_; clear CF; rintro e w1 ⟨rfl, HB1⟩)
    go_ret
    exact ⟨rfl, (HX.out _ _ H0.out HB1.out).1⟩
  | true =>
    rw [hft] at CF hfl
    rw [if_pos rfl] at hfl
    rw [hfl]
    -- what holds wherever the builder is made
    have HR : Hid (∀ w1, Below w.heap.size w w1 → ∀ (i : Nat) (l : List Cel), R[i]? = some l → ∃ g o b m, a = some ⟨g, o, none⟩ ∧ (∀ Y, Below w1.heap.size w1 Y → Y.cell? ⟨g, o + i, none⟩ = some (.slice b l.length m)) ∧ RdCe w1 (.slice b l.length m) l) := fun w1 h1 i l hi => by
      obtain ⟨a', k', e, hc⟩ := hr.get
      injection e with e1 e2 e3
      subst e1
      obtain ⟨g, o, b, m, e, hg, hcell, hrd⟩ := hc i l hi
      have c1 := (h1.cell (p := ⟨g, o + i, none⟩) hg).trans hcell
      exact ⟨g, o, b, m, e, fun Y hY => (hY.cell (p := ⟨g, o + i, none⟩) (World.block_lt_of_cell? w1 _ c1)).trans c1, hrd.below (Nat.le_refl _) h1⟩
    have HP : Hid (∀ w1, Below w.heap.size w w1 → Pw w1) := fun w1 h1 => hw.below h1
    have HN : Hid (R.length = n ∧ n ≤ 2147483648 ∧ (∀ l ∈ R, l.length ≤ 2147483648) ∧ (∀ j, (hdrL ++ fulL 0 (R.take j)).length ≤ 53876069761024 + 9) ∧ ∀ l ∈ R, (rowL l).length ≤ 1099511627776) := by
      refine ⟨hn, by rw [← hn]; exact hf.1, fun l hl => (hf.2 l hl).1, fun j => ?_, fun l hl => ?_⟩
      · have h1 := fulL_len 0 (R.take j)
        have h2 := take_wt R j
        unfold fwt at hz
        simp only at hz
        rw [List.length_append]
        have : hdrL.length = 9 := rfl
        omega
      · have h1 := rowL_wt l
        have h2 := fwt_mem (f := ⟨fw, R, fr, fc⟩) hl
        omega
    clear hfl hft h hr hf hz hw hn
    go_enter Tryd.func15, Tryd.ntmps15
    go_upto_region 3 with (go_at_call 10; refine CF.out.mono ?_; clear CF; rintro e w1 ⟨rfl, HB1⟩; have HX1 := HX.out _ _ H0.out HB1.out; replace HX1 : Hid _ := HX1)
    have HS0 : Hid (Bs w1.heap.size w1 [] (w1.alloc (.cells #[.pointer none, .slice none 0 0] 44))) := Bs.new w1
    have HV : Hid (∀ Y, Below w1.heap.size w1 Y → Below w.heap.size w Y ∧ Y.heap[w.heap.size]? = some (.cells #[.int .i64 fw, .slice a n k, .int .i64 fr, .int .i64 fc] 26 (0, 0))) := fun Y hY => HX.out _ _ HX1.out hY
    have HPW : Hid (Pw w1) := HP.out _ HX1.out.1
    have HRW := HR.out w1 HX1.out.1
    replace HRW : Hid (∀ (i : Nat) (l : List Cel), R[i]? = some l → ∃ g o b m, a = some ⟨g, o, none⟩ ∧ (∀ Y, Below w1.heap.size w1 Y → Y.cell? ⟨g, o + i, none⟩ = some (.slice b l.length m)) ∧ RdCe w1 (.slice b l.length m) l) := HRW
    have CW0 : Hid (Calls Tryd.prog 30 #[.pointer (some ⟨w1.heap.size, 0, none⟩), .string ⟨#[27, 91, 109, 27, 91, 72, 27, 91, 74]⟩] (w1.alloc (.cells #[.pointer none, .slice none 0 0] 44)) fun e W' => (∃ u, e = .returned u) ∧ Hid (Bs w1.heap.size w1 hdrL W')) := by
      have := HS0.out.put ⟨#[27, 91, 109, 27, 91, 72, 27, 91, 74]⟩ (by show 0 + 9 ≤ _; omega)
      exact this
    clear HR HP HX HX1 H0 HS0 HB1
    go_wp2_with (go_at_call 30; refine CW0.out.mono ?_; clear CW0; rintro e w2 ⟨⟨u, rfl⟩, HS1⟩; obtain ⟨⟨x0, x1, x2, x3⟩, -⟩ := box4 (HV.out w2 HS1.out.bel).2)
    clear x0 x1 x2 x3
    go_loopw [13] (fun t wr => ∃ j : Nat, j ≤ n ∧ t = .int .i64 j ∧ Hid (Bs w1.heap.size w1 (hdrL ++ fulL 0 (R.take j)) wr)) (fun t _ => n - (intOf t).toNat)
    case atStart => exact ⟨0, Nat.zero_le _, rfl, by rw [List.take_zero, fulL, List.append_nil]; exact HS1⟩
    case round =>
      clear HS1
      obtain ⟨j, hj, rfl, HB⟩ := hrel
      by_cases hlt : j < n
      · obtain ⟨l, hl⟩ : ∃ l, R[j]? = some l := ⟨R[j]'(by rw [HN.out.1]; exact hlt), List.getElem?_eq_getElem _⟩
        obtain ⟨g, o, b, m, rfl, hcell, hrd⟩ := HRW.out j l hl
        have y0 := hcell wr HB.out.bel
        have hlt' : (j : Int) < (n : Int) := by omega
        have HLT : Hid (j < n ∧ n ≤ 2147483648) := ⟨hlt, HN.out.2.1⟩
        have HT : Hid (fulL 0 (R.take (j + 1)) = fulL 0 (R.take j) ++ fulP j l) := fulL_take hl
        have hmem := List.mem_of_getElem? hl
        obtain ⟨q, hq⟩ : ∃ q, l.length = q := ⟨_, rfl⟩
        rw [hq] at y0 hrd
        by_cases hq0 : q = 0
        · subst hq0
          have HE : Hid (Bs w1.heap.size w1 (hdrL ++ fulL 0 (R.take (j + 1))) wr) := by
            rw [HT.out, fulP, if_neg (by omega), List.append_nil]
            exact HB.out
          clear hcell hrd hmem hq hl hlt HRW HT
          go_wp2
          exact ⟨⟨j + 1, by have := HLT.out; omega, by first | rw [w64t (by have := HLT.out; omega)] | (simp; done), HE⟩, by have := HLT.out; first | (rw [w64t (by omega)]; simp [intOf]; omega) | (simp [intOf]; omega)⟩
        · have q1 : 0 < q := by omega
          have q2 : (0 : Int) < (q : Int) := by omega
          have q3 : (q : Int) > 0 := by omega
          have CB : Hid (Calls Tryd.prog 31 #[.pointer (some ⟨w1.heap.size, 0, none⟩), .int .i64 j] wr fun e W' => (∃ u, e = .returned u) ∧ Hid (Bs w1.heap.size w1 (hdrL ++ fulL 0 (R.take j) ++ gotoL j 0) W')) := begin_any j (by have := HN.out.2.2.2.1 j; omega) wr HPW.out HB.out
          have CWr : Hid (∀ W, Bs w1.heap.size w1 (hdrL ++ fulL 0 (R.take j) ++ gotoL j 0) W → Calls Tryd.prog 22 #[.pointer (some ⟨w1.heap.size, 0, none⟩), .slice b q m] W fun e W' => (∃ u, e = .returned u) ∧ Hid (Bs w1.heap.size w1 (hdrL ++ fulL 0 (R.take (j + 1))) W')) := fun W hW => by
            have h1 := HN.out.2.2.2.1 j
            have h2 := HN.out.2.2.2.2 l hmem
            have h3 := gotoL_len j 0
            have := write_any (.slice b q m) l (HN.out.2.2.1 l hmem) (by rw [List.length_append]; omega) W hW hrd
            rw [HT.out, fulP, if_pos (by omega)]
            rw [List.append_assoc, List.append_assoc] at this
            exact this
          clear hcell hrd hmem hq hl hlt HRW HT
          go_wp2_with (first
            | (go_at_call 31; refine CB.out.mono ?_; clear CB; rintro e w3 ⟨⟨u, rfl⟩, HB3⟩)
            | (go_at_call 22; refine (CWr.out _ HB3.out).mono ?_; clear CWr; rintro e w4 ⟨⟨u2, rfl⟩, HB4⟩))
          exact ⟨⟨j + 1, by have := HLT.out; omega, by first | rw [w64t (by have := HLT.out; omega)] | (simp; done), HB4⟩, by have := HLT.out; first | (rw [w64t (by omega)]; simp [intOf]; omega) | (simp [intOf]; omega)⟩
      · obtain rfl : j = n := by omega
        have hf : R.take j = R := List.take_of_length_le (by have := HN.out.1; omega)
        have hd : ¬ (j : Int) < (j : Int) := by omega
        rw [hf] at HB
        have hz := HN.out.2.2.2.1 j
        rw [hf] at hz
        have CG : Hid (Calls Tryd.prog 12 #[.agg #[.int .i64 fr, .int .i64 fc]] wr fun e w' => e = .returned (.string ⟨(gotoL fr fc).toArray⟩) ∧ Hid (Below wr.heap.size wr w')) := goto_any fr fc wr (HPW.out.below HB.out.bel)
        have CP : Hid (∀ W, Below wr.heap.size wr W → Calls Tryd.prog 30 #[.pointer (some ⟨w1.heap.size, 0, none⟩), .string ⟨(gotoL fr fc).toArray⟩] W fun e W' => (∃ u, e = .returned u) ∧ Hid (Bs w1.heap.size w1 (hdrL ++ fulL 0 R ++ gotoL fr fc) W')) := fun W hW => by
          have := (HB.out.next hW).put ⟨(gotoL fr fc).toArray⟩ (by have := gotoL_len fr fc; show _ + (gotoL fr fc).toArray.size ≤ _; simp only [List.size_toArray]; omega)
          simpa using this
        obtain ⟨⟨x0, x1, x2, x3⟩, -⟩ := box4 (HV.out wr HB.out.bel).2
        clear hz HRW hf
        go_wp2_with (first
          | (go_at_call 12; refine CG.out.mono ?_; clear CG x0 x1 x2 x3; rintro e w3 ⟨rfl, HB3⟩)
          | (go_at_call 30; refine (CP.out _ HB3.out).mono ?_; clear CP; rintro e w4 ⟨⟨u2, rfl⟩, HB4⟩)
          | (go_at_call 23; refine HB4.out.str.mono ?_; rintro e w5 ⟨rfl, HB5⟩))
        go_ret
        exact ⟨rfl, (HV.out _ HB5).1⟩
end Go.Proofs.YtcgnfjcbafmbgaaDoor
