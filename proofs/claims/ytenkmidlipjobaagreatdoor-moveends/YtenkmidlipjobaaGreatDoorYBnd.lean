/-
  The walks of the document's own Bounds, Boundary, Next, Prev and Snap of package cluster: what CMathD and YBd tell. Conditions: the text is so short that its list can be made.
-/
import Derived.Test.YtenkmidlipjobaaGreatDoorPkYA
namespace Go.Proofs.YtenkmidlipjobaaGreatDoor
open Go.RowKit Bod Wid

theorem info3 : (Tryz.prog.info? 3).map (fun i => (i.zero, i.size, i.bytes)) = some (some (.int .i64 0), 1, 8) := by kernel_rfl
def icells (xs : List Nat) : List Value := xs.map fun (i : Nat) => Value.int .i64 (i : Int)
theorem icells_get {xs : List Nat} {j b : Nat} (h : xs[j]? = some b) : (icells xs)[j]? = some (.int .i64 b) := by
  unfold icells
  rw [List.getElem?_map, h]; rfl
theorem cell_one_new (w : World) (a : Value) (t : TypeId) : ∀ j u, [a][j]? = some u → (w.alloc (.cells #[a] t)).cell? ((⟨w.heap.size, 0, none⟩ : Addr).add j) = some u := by
  intro j u hj
  match j, hj with
  | 0, hj => simp at hj; subst hj; simp [Addr.add]
theorem own_one (w : World) (base : Nat) (hb : base ≤ w.heap.size) : (w.alloc (.cells #[.int .i64 0] 3)).ownsRow base 3 1 (.slice (some ⟨w.heap.size, 0, none⟩) 1 1) 1 [.int .i64 0] :=
  ⟨rfl, .inr ⟨w.heap.size, 1, #[.int .i64 0], rfl, hb, World.alloc_heap_new w _, by omega, by unfold maxLen; omega, rfl, rfl⟩⟩

/-- a slice that reads as all boundaries -/
def RdB (W : World) (g : Nat) (s : ByteArray) : Prop := ∀ j b : Nat, (bds s)[j]? = some b → W.cell? ⟨g, j, none⟩ = some (.int .i64 b)
/-- rows of two types are not one -/
theorem row_ne {W : World} {b1 b2 e1 e2 z1 z2 n1 n2 : Nat} {v1 v2 : Value} {x1 x2 : List Value} (h1 : W.ownsRow b1 e1 z1 v1 n1 x1) (h2 : W.ownsRow b2 e2 z2 v2 n2 x2) (he : e1 ≠ e2) : v1.ownBlock = none ∨ v1.ownBlock ≠ v2.ownBlock := by
  rcases h1.2 with ⟨h0, _⟩ | ⟨g', cap', cur, hv, _, hgb, _⟩
  · left; rw [h0]; rfl
  · right
    rcases h2.2 with ⟨h0, _⟩ | ⟨g2, cap2, cur2, hv2, _, hgb2, _⟩
    · rw [hv, h0]; intro h; cases h
    · rw [hv, hv2]
      intro h
      cases h
      rw [hgb] at hgb2
      cases hgb2
      exact he rfl
theorem row_sl {W : World} {b e z n : Nat} {v : Value} {xs : List Value} (h : W.ownsRow b e z v n xs) : ∃ a c, v = .slice a n c := by
  rcases h.2 with ⟨h0, h1⟩ | ⟨g', cap', cur, hv, _⟩
  · exact ⟨none, 0, by rw [h0, h1]⟩
  · exact ⟨_, _, hv⟩

set_option maxRecDepth 100000 in
set_option maxHeartbeats 2000000 in
theorem rbounds_any (s : ByteArray) (hs : s.size ≤ 2097152) (w : World) :
    Calls Tryz.prog 106 #[.string s] w fun e W' => ∃ g cap, e = .returned (.slice (some ⟨g, 0, none⟩) (bds s).length cap) ∧ RdB W' g s ∧ g < W'.heap.size ∧ Below w.heap.size w W' := by
  obtain ⟨i0, hi, hz0, hz1, hz2⟩ := info_parts info3
  obtain ⟨l, hl⟩ : ∃ l, cl s = l := ⟨_, rfl⟩
  obtain ⟨N, hN⟩ : ∃ N, l.length = N := ⟨_, rfl⟩
  have hNs : N ≤ s.size := by rw [← hN, ← hl]; exact cl_len s
  have HLE : Hid (∀ c ∈ l, c.to ≤ s.size) := by rw [← hl]; exact fun c hc => (cl_span hc).2
  obtain ⟨W1, hW1⟩ : ∃ W1, w.alloc (.cells #[.int .i64 0] 3) = W1 := ⟨_, rfl⟩
  have hsz1 : W1.heap.size = w.heap.size + 1 := by rw [← hW1]; simp
  have hB1 : Below w.heap.size w W1 := by rw [← hW1]; exact (Below.refl _ w).alloc (Nat.le_refl _) _
  have hR1 : W1.ownsRow w.heap.size 3 1 (.slice (some ⟨w.heap.size, 0, none⟩) 1 1) 1 [.int .i64 0] := by rw [← hW1]; exact own_one w w.heap.size (Nat.le_refl _)
  have CL : Hid (Calls Tryz.prog 63 #[.string s] W1 fun e W' => ∃ a cap, e = .returned (.slice a N cap) ∧ Hid (W'.ownsRow W1.heap.size 110 4 (.slice a N cap) N (ccl l) ∧ W'.ownsRow w.heap.size 3 1 (.slice (some ⟨w.heap.size, 0, none⟩) 1 1) 1 [.int .i64 0] ∧ Below w.heap.size w W')) := (rlist_any s (by omega) W1).mono fun e W' ⟨v, h1, h2, h3⟩ => by
    rw [hl, hN] at h2
    obtain ⟨a, c, rfl⟩ := row_sl h2
    exact ⟨a, c, h1, h2, row_below' hR1 h3, hB1.trans (h3.mono hB1.size)⟩
  have HN : Hid (l.length = N) := hN
  have HL : Hid (cl s = l) := hl
  have HB1 : Hid (w.heap.size ≤ W1.heap.size) := hB1.size
  clear hN hl hB1 hR1 hsz1
  go_enter Tryz.func106, Tryz.ntmps106
  go_wp2_with (go_at_call 63; refine (Hid.out CL).mono ?_; clear CL; rintro e W2 ⟨a0, c0, rfl, HR2⟩)
  go_loopw [3, 5] (fun v k wr => ∃ n : Nat, k = .int .i64 n ∧ n ≤ N ∧ Hid (wr.ownsRow W1.heap.size 110 4 (.slice a0 N c0) N (ccl l) ∧ wr.ownsRow w.heap.size 3 1 v (n + 1) (icells (0 :: (l.take n).map (·.to))) ∧ Below w.heap.size w wr)) (fun _ k _ => N - (intOf k).toNat)
  case atStart => exact ⟨0, rfl, Nat.zero_le _, HR2.out⟩
  case round =>
    obtain ⟨n, rfl, hn, HI⟩ := hrel
    have hBs := HI.out.2.2.size
    by_cases hlt : n < N
    · obtain ⟨c, hc⟩ : ∃ c, l[n]? = some c := ⟨l[n]'(by rw [HN.out]; exact hlt), List.getElem?_eq_getElem _⟩
      have hr4 := HI.out.1
      rw [← HN.out] at hr4
      obtain ⟨a1, c1, he, hr⟩ := Rd4.of_row hr4
      obtain ⟨g, hg, hgl, hcell⟩ := hr (fun e => by rw [e] at hc; simp at hc)
      cases he
      subst hg
      have d1 : wr.cell? ⟨g, n * 4 + 1, none⟩ = some (.int .i64 c.to) := (hcell n c hc).2.1
      have hct := HLE.out c (List.mem_of_getElem? hc)
      have HC1 : Hid (l[n]? = some c) := hc
      clear hcell hc hr hr4
      obtain ⟨ct, hct'⟩ : ∃ ct, c.to = ct := ⟨_, rfl⟩
      rw [hct'] at d1 hct
      have HCT : Hid (c.to = ct) := hct'
      clear hct'
      have HR : Hid ((wr.alloc (.cells #[.int .i64 ct] 3)).ownsRow w.heap.size 3 1 _ (n + 1) (icells (0 :: (l.take n).map (·.to)))) := HI.out.2.1.alloc _
      have HR4 : Hid ((wr.alloc (.cells #[.int .i64 ct] 3)).ownsRow W1.heap.size 110 4 _ N (ccl l)) := HI.out.1.alloc _
      go_wp2_with (at_builtin; refine wpList_append_own _ rfl _ _ 133 rfl w.heap.size 3 i0 _ 1 8 Tryz.underlying133 hi hz0 hz1 hz2 rfl (by decide) _ (n + 1) _ rfl HR.out ⟨wr.heap.size, 0, none⟩ 1 1 [.int .i64 ct] rfl rfl (cell_one_new _ _ _) (by simp [Value.oneCell']) (by unfold maxLen; omega) (by omega) (by simp; omega) ?_; intro v3 w3 hrow3 hg3 _)
      refine ⟨⟨n + 1, by go_num, by omega, HR4.out.kept hg3 (row_ne HR4.out HR.out (by decide)), ?_, (HI.out.2.2.alloc hBs _).grown hg3 (by simp; omega) (fun j e => (HI.out.2.1.lt j e).1)⟩, by simp [intOf]; omega⟩
      have e : icells (0 :: (l.take (n + 1)).map (·.to)) = icells (0 :: (l.take n).map (·.to)) ++ [.int .i64 ct] := by
        rw [List.take_add_one, HC1.out]
        simp [icells, HCT.out]
      rw [e]
      exact hrow3
    · have hnN : n = N := by omega
      subst hnN
      have e : (0 :: (l.take n).map (·.to)) = bds s := by
        rw [← HN.out, List.take_length, ← HL.out]; rfl
      have hrow := HI.out.2.1
      rw [e] at hrow
      have hlen : n + 1 = (bds s).length := by rw [bds_len, HL.out, HN.out]
      rcases hrow.2 with ⟨_, h0⟩ | ⟨g, cap, cur, hv, hbg, _⟩
      · omega
      subst hv
      have HF : Hid (RdB wr g s) := fun j b hj => (hrow.cellAt j (by have := (List.getElem?_eq_some_iff.1 hj).1; omega)).trans (icells_get hj)
      have HG : Hid (g < wr.heap.size) := (hrow.lt g rfl).2
      have HLN : Hid (n + 1 = (bds s).length) := hlen
      clear hrow hlen e hlt
      go_wp2
      go_ret
      exact ⟨g, cap, by rw [← HLN.out]; rfl, HF.out, HG.out, HI.out.2.2⟩


set_option maxRecDepth 100000 in
set_option maxHeartbeats 1000000 in
theorem rnext_any (s : ByteArray) (i : Int) (hs : s.size ≤ 2097152) (w : World) :
    Calls Tryz.prog 66 #[.string s, .int .i64 i] w fun e w' => ∃ m : Nat, e = .returned (.int .i64 m) ∧ IsNext s i m ∧ Below w.heap.size w w' := by
  have cB := rbounds_any s hs w
  obtain ⟨M, hM⟩ : ∃ M, (bds s).length = M := ⟨_, rfl⟩
  have hMs : M ≤ s.size + 1 := by rw [← hM, bds_len]; have := cl_len s; omega
  have HM : Hid ((bds s).length = M) := hM
  rw [hM] at cB
  clear hM
  go_enter Tryz.func66, Tryz.ntmps66
  go_wp2_with (go_at_call 106; refine cB.mono ?_; clear cB; rintro e W2 ⟨g, cap, rfl, hc, hg, hb1⟩; have hB2 : Hid (Below w.heap.size w W2) := hb1; have HC : Hid (RdB W2 g s) := hc; clear hb1 hc)
  go_loopw [6] (fun k wr => ∃ (n : Nat), k = .int .i64 n ∧ n ≤ M ∧ wr = W2 ∧ Hid (∀ j c : Nat, j < n → (bds s)[j]? = some c → (c : Int) ≤ i)) (fun k _ => M - (intOf k).toNat)
  case atStart => exact ⟨0, rfl, by omega, rfl, fun j c h => by omega⟩
  case round =>
    obtain ⟨n, rfl, hn, rfl, HD⟩ := hrel
    by_cases hlt : n < M
    · obtain ⟨x, hx⟩ : ∃ x, (bds s)[n]? = some x := ⟨(bds s)[n]'(by rw [HM.out]; exact hlt), List.getElem?_eq_getElem _⟩
      have hcn := HC.out n x hx
      have HX : Hid ((bds s)[n]? = some x) := hx
      clear hx
      by_cases hle : i < (x : Int)
      · have HR : Hid (IsNext s i x) := next_found HX.out hle HD.out
        go_wp2
        go_ret
        exact ⟨x, rfl, HR.out, hB2.out⟩
      · go_wp2
        go_roundw
        case rel =>
          refine ⟨n + 1, by go_num, by omega, trivial, fun j c hj hc => ?_⟩
          by_cases e : j = n
          · subst e
            have := HX.out.symm.trans hc
            cases this
            omega
          · exact HD.out j c (by omega) hc
        case measure => simp [intOf]; omega
    · have HR : Hid (IsNext s i s.size) := next_none (n := n) (by rw [HM.out]; omega) HD.out
      go_wp2
      go_ret
      exact ⟨s.size, rfl, HR.out, hB2.out⟩

set_option maxRecDepth 100000 in
set_option maxHeartbeats 1000000 in
theorem rsnap_any (s : ByteArray) (i : Int) (hs : s.size ≤ 2097152) (w : World) :
    Calls Tryz.prog 64 #[.string s, .int .i64 i] w fun e w' => ∃ m : Nat, e = .returned (.int .i64 m) ∧ IsSnap s i m ∧ Below w.heap.size w w' := by
  have cB := rbounds_any s hs w
  obtain ⟨M, hM⟩ : ∃ M, (bds s).length = M := ⟨_, rfl⟩
  have hMs : M ≤ s.size + 1 := by rw [← hM, bds_len]; have := cl_len s; omega
  have HM : Hid ((bds s).length = M) := hM
  rw [hM] at cB
  clear hM
  go_enter Tryz.func64, Tryz.ntmps64
  go_wp2_with (go_at_call 106; refine cB.mono ?_; clear cB; rintro e W2 ⟨g, cap, rfl, hc, hg, hb1⟩; have hB2 : Hid (Below w.heap.size w W2) := hb1; have HC : Hid (RdB W2 g s) := hc; clear hb1 hc)
  go_loopw [6] (fun k wr => ∃ (n : Nat), k = .int .i64 n ∧ n ≤ M ∧ wr = W2 ∧ Hid (∀ j c : Nat, j < n → (bds s)[j]? = some c → (c : Int) < i)) (fun k _ => M - (intOf k).toNat)
  case atStart => exact ⟨0, rfl, by omega, rfl, fun j c h => by omega⟩
  case round =>
    obtain ⟨n, rfl, hn, rfl, HD⟩ := hrel
    by_cases hlt : n < M
    · obtain ⟨x, hx⟩ : ∃ x, (bds s)[n]? = some x := ⟨(bds s)[n]'(by rw [HM.out]; exact hlt), List.getElem?_eq_getElem _⟩
      have hcn := HC.out n x hx
      have HX : Hid ((bds s)[n]? = some x) := hx
      clear hx
      by_cases hle : i ≤ (x : Int)
      · have HR : Hid (IsSnap s i x) := snap_found HX.out hle HD.out
        go_wp2
        go_ret
        exact ⟨x, rfl, HR.out, hB2.out⟩
      · go_wp2
        go_roundw
        case rel =>
          refine ⟨n + 1, by go_num, by omega, trivial, fun j c hj hc => ?_⟩
          by_cases e : j = n
          · subst e
            have := HX.out.symm.trans hc
            cases this
            omega
          · exact HD.out j c (by omega) hc
        case measure => simp [intOf]; omega
    · have HR : Hid (IsSnap s i s.size) := snap_none (n := n) (by rw [HM.out]; omega) HD.out
      go_wp2
      go_ret
      exact ⟨s.size, rfl, HR.out, hB2.out⟩

set_option maxRecDepth 100000 in
set_option maxHeartbeats 1000000 in
theorem rprev_any (s : ByteArray) (i : Int) (hs : s.size ≤ 2097152) (w : World) :
    Calls Tryz.prog 65 #[.string s, .int .i64 i] w fun e w' => ∃ m : Nat, e = .returned (.int .i64 m) ∧ IsPrev s i m ∧ Below w.heap.size w w' := by
  have cB := rbounds_any s hs w
  obtain ⟨M, hM⟩ : ∃ M, (bds s).length = M := ⟨_, rfl⟩
  have hMs : M ≤ s.size + 1 := by rw [← hM, bds_len]; have := cl_len s; omega
  have HM : Hid ((bds s).length = M) := hM
  rw [hM] at cB
  clear hM
  go_enter Tryz.func65, Tryz.ntmps65
  go_wp2_with (go_at_call 106; refine cB.mono ?_; clear cB; rintro e W2 ⟨g, cap, rfl, hc, hg, hb1⟩; have hB2 : Hid (Below w.heap.size w W2) := hb1; have HC : Hid (RdB W2 g s) := hc; clear hb1 hc)
  go_loopw [6] (fun k wr => ∃ (n : Nat), k = .int .i64 ((n : Int) - 1) ∧ n ≤ M ∧ wr = W2 ∧ Hid (∀ j c : Nat, n ≤ j → (bds s)[j]? = some c → i ≤ (c : Int))) (fun k _ => (intOf k + 1).toNat)
  case atStart => exact ⟨M, by go_num, by omega, rfl, fun j c h hc => by have := (List.getElem?_eq_some_iff.1 hc).1; rw [HM.out] at this; omega⟩
  case round =>
    obtain ⟨n, rfl, hn, rfl, HD⟩ := hrel
    cases n with
    | succ n =>
      have e1 : ((n + 1 : Nat) : Int) - 1 = (n : Int) := by omega
      rw [e1]
      obtain ⟨x, hx⟩ : ∃ x, (bds s)[n]? = some x := ⟨(bds s)[n]'(by rw [HM.out]; omega), List.getElem?_eq_getElem _⟩
      have hcn := HC.out n x hx
      have HX : Hid ((bds s)[n]? = some x) := hx
      clear hx e1
      by_cases hle : (x : Int) < i
      · have HR : Hid (IsPrev s i x) := prev_found HX.out hle (fun j c h => HD.out j c (by omega))
        go_wp2
        go_ret
        exact ⟨x, rfl, HR.out, hB2.out⟩
      · go_wp2
        go_roundw
        case rel =>
          refine ⟨n, by go_num, by omega, trivial, fun j c hj hc => ?_⟩
          by_cases e : j = n
          · subst e
            have := HX.out.symm.trans hc
            cases this
            omega
          · exact HD.out j c (by omega) hc
        case measure => simp [intOf]
    | zero =>
      have HR : Hid (IsPrev s i 0) := prev_none (fun j c => HD.out j c (Nat.zero_le _))
      go_wp2
      go_ret
      exact ⟨0, rfl, HR.out, hB2.out⟩
end Go.Proofs.YtenkmidlipjobaaGreatDoor
